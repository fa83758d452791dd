import PyProof.Rows.All
import Wide.All
import OpenK.AllK
import Wide.FinOn
import HandS.ForMost
import HandS.Flow
import HandS.IsInst
import HandS.TupAny
import KE.GoesEnum
import HandS.SetFor
import HandS.RaiseMore
import HandS.Codes
import HandS.Defaults
import HandS.ForExc
import HandS.ExcInit
import HandS.ExcIs
import HandS.ExcField
import HandS.HotCalls
import KE.KTryMore
import PyProof.ReprRoads
import HandS.MakeKw
import HandS.ExcValue
import KE.KExcInit
import HandS.Zip
import HandS.OwnEq
import HandS.Property
import HandS.FStr
import HandS.Star
import KE.KCallOwn
import HandS.Lambda
import HandS.SortInts
import HandS.Gcd
import HandS.Style
import HandS.EndTab
import HandS.HeadWalk
import HandS.ClsMeth
import HandS.MakeKwOnly
import HandS.DictSub
import HandS.Strs
import PyProof.Rows.StrReprFit
import KE.KRevSl
import HandS.Text
import HandS.StrMore
import HandS.Iter
import HandS.Exc
import PyProof.StrLaws
import PyProof.Rows.StrDigitsNeg
import PyProof.Rows.ReprOcc
import KE.IntTextLaws
import KE.KDictZip
import HandS.TupMul
import HandS.TupLe
import HandS.Comp
import HandS.Call
import HandS.NoneIn
import KE.KStateDown
import HandS.Head0
import HandS.Head1
import HandS.Head2
import HandS.Head3
import HandS.HeadEnd
import HandS.HeadHook1
import HandS.HeadHook2
import HandS.HeadHook3
import HandS.HeadHook4
import PyProof.ExcBaseAll.ValueError
import PyProof.ExcBaseAll.LookupError
import PyProof.ExcBaseAll.ArithmeticError
import PySem.Challenge.RW_cornersure_k04_tables_refused
set_option Elab.async false
set_option linter.all false
set_option maxRecDepth 100000
set_option maxHeartbeats 4000000
/-! Rules of my own beside the layer: enumerate of a tuple; a chain of three comparisons; count of flat items. -/
namespace PySem
open AutoSeq1 (wpAny_loadPart')
theorem cs_enum_newT (l : Addr) (items : Array Value) (n : Nat) (dct : Option Addr) (sl : Array (Option Value)) :
    Meets (Builtin.«enumerate.__new__» ⟨[.type "enumerate", .ref l], []⟩)
      (fun _ R s => s.heap.get? l = some { cls := .type "tuple", dict := dct, data := .seq items n, slots := sl } ∧
        R (.ok (.ret (.ref (s.heap.push { cls := .type "tuple_iterator", data := .fields #[.ref l, .int 0 0] }).objs.size)))
          { s with heap := ((s.heap.push { cls := .type "tuple_iterator", data := .fields #[.ref l, .int 0 0] }).push { cls := .type "enumerate", data := .fields #[.none, .bool false, .ref s.heap.objs.size, rawInt 0, .none, .none] }) }) := .of_wp fun prog w A R s h => by
  obtain ⟨hp, g, d, tk, os⟩ := s
  obtain ⟨hl, h⟩ := h
  have hsub := sub_enumerate
  have hT : Heap.IsTuple (Shared.heap ⟨hp, g, d, tk, os⟩) l items := ⟨_, hl, rfl, n, rfl⟩
  wp_walk using wpAny_loadPart' hl
  refine wpAny_stack_any fun _ => wpAny_pure ?_
  split
  · rename_i c _ _ _ _ _
    cases (c == Value.type "enumerate") <;> (wp_walk using wpAny_loadPart' hl, wpAny_pyIter_tuple hT; exact ⟨_, rfl, h⟩)
  · wp_walk using wpAny_loadPart' hl, wpAny_pyIter_tuple hT
    exact ⟨_, rfl, h⟩
theorem cs_call_enumT {prog : Program} {w : World} {A : Around} {E : Value → Shared → Prop} {s : Shared} {l : Addr} {items : Array Value} {Q : Value → Shared → Prop} (hL : s.heap.IsTuple l items)
    (h : ∀ h', IsEnum h' (s.heap.objs.size + 1) s.heap.objs.size 0 .none → h'.IsTupleIter s.heap.objs.size l 0 →
      (∀ b o, s.heap.get? b = some o → h'.get? b = some o) → Q (.ref (s.heap.objs.size + 1)) { s with heap := h' }) :
    wpAny (model prog w) A (call (.type "enumerate") [.ref l]) Q E s := by
  obtain ⟨⟨c, dct, dt, sl⟩, hl, hc, n, hd⟩ := hL
  obtain rfl : c = .type "tuple" := hc
  obtain rfl : dt = .seq items n := hd
  refine callType_new F.called_enumerate (by decide) (F.typeCall_enumerate_1 _) (F.newCall_enumerate_1 _)
    (fun obj => F.args_object_init_2 obj _) F.entry_enumerate_new (cs_enum_newT l items n dct sl) ⟨hl, ?_⟩
  generalize ho1 : ({ cls := .type "tuple_iterator", data := .fields #[.ref l, .int 0 0] } : Obj) = o1
  generalize ho2 : ({ cls := .type "enumerate", data := .fields #[.none, .bool false, .ref s.heap.objs.size, rawInt 0, .none, .none] } : Obj) = o2
  have f1 : o1.isFreed = false := by rw [← ho1]; rfl
  have f2 : o2.isFreed = false := by rw [← ho2]; rfl
  have z1 : (s.heap.push o1).objs.size = s.heap.objs.size + 1 := Heap.size_push ..
  have he : ((s.heap.push o1).push o2).get? (s.heap.objs.size + 1) = some o2 := by
    rw [← z1]
    exact Heap.get?_push_size _ f2
  have hi : ((s.heap.push o1).push o2).get? s.heap.objs.size = some o1 := Heap.get?_push_of_some _ (Heap.get?_push_size _ f1)
  rw [z1]
  refine ⟨⟨o2, he, by rw [← ho2]⟩, h _ ?_ ⟨o1, hi, by rw [← ho1], by rw [← ho1]; rfl⟩ fun b o x => Heap.get?_push_of_some _ (Heap.get?_push_of_some _ x)⟩
  rw [← ho2] at he ⊢
  exact he
end PySem
namespace Cs
open PySem L2 PyProof.Rows
/-- the tuple at a, each item in a new pair -/
def EtT (K : PySem.W.Frag) (a : Addr) : It :=
  ⟨fun i H => ∃ (xs : List V) (x : V), SqT K H a xs ∧ xs[i]? = some x,
    fun i H v H' => ∃ T x, v = .ref T ∧ H T = none ∧ H' = upd H T (.tup [.int (i : Nat), x]) ∧ ∀ xs, SqT K H a xs → xs[i]? = some x,
    fun i H => ∃ xs : List V, SqT K H a xs ∧ xs.length = i⟩
theorem turn_enumT {P : Program} {w : World} {K : PySem.W.Frag} {elts : List Expr} {kk : Nat} {tpos : Pos} (a e it : Addr) :
    Turn P w K (.Tuple elts kk tpos) (EtT K a) [e, it] e (fun i h => (∃ old, IsEnum h e it ((i : Nat) : Int) old) ∧ h.IsTupleIter it a i ∧ e ≠ it) where
  mem := List.mem_cons_self
  obj := fun i h st b hb => by
    obtain ⟨⟨old, he⟩, ⟨o, ho, _, hd⟩, _⟩ := st
    rcases List.mem_cons.mp hb with rfl | hb
    · exact ⟨_, he, fun v q => nomatch q⟩
    · obtain rfl : b = it := by simpa using hb
      exact ⟨o, ho, fun v q => by rw [hd] at q; cases q⟩
  keep := fun i h h' st k => by
    obtain ⟨⟨old, he⟩, hi, hne⟩ := st
    exact ⟨⟨old, k _ (by simp) _ he⟩, hi.at fun o q => k _ (by simp) o q, hne⟩
  item := by
    rintro X rfl rfl rfl hc i pins s σ H E I hf ⟨⟨old, he⟩, hit, hne⟩ ⟨xs, x, hq, hx⟩
    obtain ⟨its, rv, p, hz⟩ := I.tuple hq
    obtain ⟨u, hu, ru⟩ := rv.get hx
    have p' : s.heap.IsTuple a its.toArray := p
    have hel := Heap.lt_size he
    have hil : it < s.heap.objs.size := by
      obtain ⟨_, q, _⟩ := hit
      exact Heap.lt_size q
    have nat : a ≠ it := fun z => by
      obtain ⟨o1, q1, c1, _⟩ := p'
      obtain ⟨o2, q2, c2, _⟩ := hit
      rw [z, q2] at q1
      cases q1
      rw [c2] at c1
      exact absurd (Value.type.inj c1) (by decide)
    have nae : a ≠ e := fun z => by
      obtain ⟨o1, q1, c1, _⟩ := p'
      have he' := he
      rw [← z] at he'
      unfold IsEnum at he'
      rw [q1] at he'
      cases he'
      exact absurd (Value.type.inj c1) (by decide)
    have hh : X.A.in1.handled = none := I.ok.hd hc
    have D := Draws.tuple (prog := X.prog) (w := X.w) hh it a nat its.toArray
    have hi2 : i < its.toArray.size := by
      have q := (List.getElem?_eq_some_iff.mp hu).1
      simpa using q
    refine wpAny_pyNext_enum_itemD D he ⟨hit, p'⟩ hi2 hne (by simp [hne, Ne.symm nae]) fun y h' tk hy ho hst hT hsz hk => ?_
    have ey : y = u := by
      have q : its.toArray[i]? = some y := hy
      rw [List.getElem?_toArray, hu] at q
      exact (Option.some.inj q).symm
    subst ey
    refine ⟨_, rfl, wpAny_letOwnedTupleGo_enum (s := { s with heap := h', toks := tk + 1 }) ho fun h2 he2 sb => ?_⟩
    have ne0 : s.heap.objs.size ≠ e := Nat.ne_of_gt hel
    have hT2 : h2.get? s.heap.objs.size = some { cls := .type "tuple", data := .seq #[.int i tk, y] } := (sb.2 _ ne0).trans hT
    have new : ObjOk X.prog X.w (upd H s.heap.objs.size (.tup [.int (i : Nat), x])) h2 s.heap.objs.size (.tup [.int (i : Nat), x]) :=
      ⟨(by show 2 ≤ sizeLine; decide), [.int i tk, y], .cons ⟨_, rfl⟩ (.cons ru .nil), _, hT2, rfl, _, rfl⟩
    have kk2 : ∀ b ob, b ∉ [e, it] → s.heap.get? b = some ob → h2.get? b = some ob := fun b ob hb q => by
      have b1 : b ≠ e := fun z => hb (by simp [z])
      have b2 : b ≠ it := fun z => hb (by simp [z])
      exact (sb.2 b b1).trans (hk b ob b1 b2 q)
    have J := I.turnedNew (t' := tk + 1) (ch := [e, it]) kk2 hf (Nat.le_refl _) new
    refine ⟨.ref s.heap.objs.size, _, J, rfl, ⟨_, x, rfl, I.hok.fresh (Nat.le_refl _), rfl, fun ys hy2 => ?_⟩, ⟨⟨y, ?_⟩, hst.1.at fun o q => (sb.2 it (Ne.symm hne)).trans q, hne⟩, fun b hb => ?_⟩
    · rw [I.tuple_inj hy2 hq]
      exact hx
    · have e1 : ((i + 1 : Nat) : Int) = (i : Int) + 1 := by omega
      rw [e1]
      exact he2
    · have hb' : b < s.heap.objs.size := by
        rcases List.mem_cons.mp hb with rfl | hb
        · exact hel
        · obtain rfl : b = it := by simpa using hb
          exact hil
      rw [upd_ne (Nat.ne_of_lt hb')]
      exact (hf b hb).1
  done := by
    rintro X rfl rfl rfl hc i pins s σ H E I hf ⟨⟨old, he⟩, hit, hne⟩ ⟨xs, hq, hx⟩
    obtain ⟨its, rv, p, hz⟩ := I.tuple hq
    have p' : s.heap.IsTuple a its.toArray := p
    have nat : a ≠ it := fun z => by
      obtain ⟨o1, q1, c1, _⟩ := p'
      obtain ⟨o2, q2, c2, _⟩ := hit
      rw [z, q2] at q1
      cases q1
      rw [c2] at c1
      exact absurd (Value.type.inj c1) (by decide)
    have D := Draws.tuple (prog := X.prog) (w := X.w) (A := X.A.in1) (I.ok.hd hc) it a nat its.toArray
    have ei : i = its.toArray.size := by
      have q := rv.length
      simp
      omega
    obtain ⟨f0, f1, f2, f3, f4, f5⟩ := hf it (by simp)
    exact wpAny_pyNext_enum_endD D he (by rw [← ei]; exact ⟨hit, p'⟩) fun h' eb => ⟨rfl, I.turned (t' := s.toks) (fun b o hb q => eb b o hb q) f0 f1 f3 f4 f5⟩
  self := fun A i s Q E st h => let ⟨⟨_, he⟩, _⟩ := st; wpAny_pyIter_enum he h
def iEnT (K : PySem.W.Frag) (ta : TA) : TI := fun σ H R => ta σ H fun vs H1 => ∃ a, vs = [.ref a] ∧ (∃ xs, SqT K H1 a xs) ∧ R (EtT K a) H1
theorem pi_enumT {X : Cx} {e : Expr} {ta : TA} {p pos tpos : Pos} {elts : List Expr} {kk : Nat} (hg : Gl X "enumerate") (hm : X.mg "enumerate" = none) (ha : PA X [e] ta)
    (hs : starEach [e] X.env = [(false, eval e X.env)] := by rfl) : PI X (.Tuple elts kk tpos) (.Call (.Name "enumerate" p) [e] [] pos) (iEnT X.K ta) := by
  refine ⟨fun pins s σ H R I h => ?_⟩
  refine Call_ (ld_blt I hg hm boot_enumerate (callWith_type1 (thn (ha.run pos pins s σ H _ I h) fun us s1 hh => ?_) hs rfl))
  obtain ⟨vs, H1, I1, r1, a, rfl, ⟨xs, hq⟩, q⟩ := hh
  cases r1 with
  | cons r rr =>
    cases rr
    cases r
    obtain ⟨its, rv, p1, hz⟩ := I1.tuple hq
    refine cs_call_enumT (items := its.toArray) p1 fun h' he hit hk => wpAny_pyIter_enum he ?_
    have I2 : Inv X pins σ H1 { s1 with heap := h' } := I1.kept (t' := s1.toks) hk
    refine ⟨_, [s1.heap.objs.size + 1, s1.heap.objs.size], _, _, H1, rfl, I2, turn_enumT a (s1.heap.objs.size + 1) s1.heap.objs.size, ⟨⟨.none, he⟩, hit, Nat.succ_ne_self _⟩, fun b hb => ?_, q⟩
    have hle : s1.heap.objs.size ≤ b := by
      rcases List.mem_cons.mp hb with rfl | hb
      · omega
      · obtain rfl : b = s1.heap.objs.size := by simpa using hb
        omega
    exact I1.fpOk hle (I1.hok.fresh hle)
theorem for_enumT {K : PySem.W.Frag} {a : Addr} {xs : List V} {g : TG} {tb : TS} {D : Ends} {σ : L2.St} {H : Hp} (Pv : Nat → L2.St → Hp → Prop) (h0 : Pv 0 σ H)
    (hl : ∀ i σ H, i ≤ xs.length → Pv i σ H → SqT K H a xs)
    (hs : ∀ i x T σ H, xs[i]? = some x → Pv i σ H → H T = none → g (.ref T) σ (upd H T (.tup [.int (i : Nat), x])) fun σ2 H2 => tb { D with nx := Pv (i + 1), ct := Pv (i + 1), bk := D.nx } σ2 H2)
    (hd : ∀ σ H, Pv xs.length σ H → D.nx σ H) :
    ∃ W : Nat → Nat → L2.St → Hp → Prop, (∃ m, W 0 m σ H) ∧ ∀ i m σ H, W i m σ H →
      ((EtT K a).stop i H ∧ D.nx σ H) ∨ ((EtT K a).go i H ∧ ∃ N : L2.St → Hp → Prop, (∀ σ' H', N σ' H' → ∃ m', m' < m ∧ W (i + 1) m' σ' H') ∧
        ∀ x H', (EtT K a).yld i H x H' → g x σ H' fun σ2 H2 => tb { D with nx := N, ct := N, bk := D.nx } σ2 H2) := by
  refine ⟨fun i m σ H => m + i = xs.length ∧ Pv i σ H, ⟨xs.length, rfl, h0⟩, fun i m σ H ⟨hm, p⟩ => ?_⟩
  have q := hl i σ H (by omega) p
  cases e : xs[i]? with
  | none =>
    have hi : i = xs.length := by
      have := List.getElem?_eq_none_iff.mp e
      omega
    subst hi
    exact .inl ⟨⟨xs, q, rfl⟩, hd σ H p⟩
  | some x =>
    have hi := (List.getElem?_eq_some_iff.mp e).1
    refine .inr ⟨⟨xs, x, q, e⟩, Pv (i + 1), fun σ' H' p' => ⟨m - 1, by omega, by omega, p'⟩, fun v H' ⟨T, y, hv, hT, hH, hy⟩ => ?_⟩
    subst hv hH
    have ey := hy xs q
    rw [e] at ey
    cases ey
    exact hs i x T σ H e p hT
end Cs
set_option maxHeartbeats 4000000
namespace Cs
open PySem L2 PyProof.Rows
section
variable {X : Cx} {a b c d : Expr} {ta tb tc td : TE} {pos : Pos}
def tChain3 (r r' r'' : R2) (ta tb tc td : TE) : TE := fun σ H Q => ta σ H fun x H1 => tb σ H1 fun y H2 => r x y H2 fun z H3 => ∃ k, z = .bl k ∧
  if k = true then tc σ H3 fun w H4 => r' y w H4 fun z2 H5 => ∃ k2, z2 = .bl k2 ∧ if k2 = true then td σ H5 fun u H6 => r'' w u H6 Q else Q (.bl false) H5
  else Q (.bl false) H3
theorem pe_chain3 {op op' op'' : CmpOp} {r r' r'' : R2} (ho : OpR X (compareOp op) r) (ho' : OpR X (compareOp op') r') (ho'' : OpR X (compareOp op'') r'') (ha : PE X a ta) (hb : PE X b tb) (hc : PE X c tc) (hd : PE X d td)
    (hm : lastMarks [op, op', op''] [b, c, d] = false := by with_unfolding_all rfl) : PE X (.Compare a [op, op', op''] [b, c, d] pos) (tChain3 r r' r'' ta tb tc td) := by
  refine ⟨fun pins s σ H Q I h => Compare_chain (thn (ha.run pins s σ H _ I h) fun v s1 ⟨x, H1, I1, r1, q1⟩ => chain_link (thn (hb.run pins s1 σ H1 _ I1 q1) fun u s2 ⟨y, H2, I2, r2, q2⟩ => ?_)) hm⟩
  refine thn (ho pins s2 σ H2 x y v u _ I2 r1 r2 q2) fun e s3 ⟨z, H3, I3, r3, k, ez, q3⟩ => ?_
  subst ez
  cases r3
  refine wpAny_truthy_bool ?_
  cases k with
  | false => exact ite_ff ⟨.bl false, H3, I3, rfl, q3⟩
  | true =>
    refine ite_tt (chain_link (thn (hc.run pins s3 σ H3 _ I3 q3) fun u4 s4 ⟨z4, H4, I4, r4, q4⟩ => ?_))
    refine thn (ho' pins s4 σ H4 y z4 u u4 _ I4 r2 r4 q4) fun e5 s5 ⟨z5, H5, I5, r5, k5, ez5, q5⟩ => ?_
    subst ez5
    cases r5
    refine wpAny_truthy_bool ?_
    cases k5 with
    | false => exact ite_ff ⟨.bl false, H5, I5, rfl, q5⟩
    | true => exact ite_tt (chain_last (thn (hd.run pins s5 σ H5 _ I5 q5) fun u6 s6 ⟨z6, H6, I6, r6, q6⟩ => ho'' pins s6 σ H6 z4 z6 u4 u6 Q I6 r4 r6 q6))
/-- how often a flat thing stands among flat ones -/
def rCntF (K : PySem.W.Frag) : V → List V → Hp → VK → Prop := fun x vs H Q => ∃ (p : Addr) (xs : List V) (y : V), x = .ref p ∧ vs = [y] ∧ SqL K H p xs ∧ flatV y = true ∧ xs.all flatV = true ∧ Q (.int (xs.countP fun z => eqV z y : Nat)) H
theorem cnt_eqU {x : V} : ∀ {xs : List V} {us : List Value}, Vals xs us → xs.all flatV = true → us.countP (eqU x) = xs.countP fun y => eqV y x
  | _, _, .nil, _ => rfl
  | y :: xs, u :: us, .cons r t, f => by
    rw [List.all_cons, Bool.and_eq_true] at f
    rw [List.countP_cons, List.countP_cons, eqU_of r f.1, cnt_eqU t f.2]
theorem mt_countF : MtR X "list.count" (rCntF X.K) := by
  rintro pins s σ H x vs v us Q I rx rvs ⟨p, xs, y, rfl, rfl, hq, fy, fx, q⟩
  cases rx
  obtain ⟨u, rfl, ru⟩ := rvs.one
  obtain ⟨its, rv, ⟨⟨cls, dd, data, sl⟩, n, ho, hc, _, hd⟩, _⟩ := I.list hq
  obtain rfl : cls = .type "list" := hc
  obtain rfl : data = .seq its.toArray n := hd
  refine call_meets PySem.F.slot_list_count ⟨_, ho, rfl⟩ PySem.F.entry_list_count (PySem.F.args_list_count_2 _ _)
    (SeqAt.list_countAt p its.toArray n dd sl u (eqU y)) ⟨ho, fun z hz => mem_eqAt ru fy rv fx z (by simpa using hz), .int _, H, I.tok _, ⟨s.toks, ?_⟩, q⟩
  rw [show its.toArray.toList = its from rfl, cnt_eqU rv fx]

/-! one rule for each operator, whatever kind it meets -/
end
section
variable {X : Cx}
def opAdd := (op_add (X := X)).or ((op_add_str (X := X)).or ((op_cat (X := X)).or (op_catT (X := X))))
def opMul := (op_mul (X := X)).or (op_rep (X := X))
def opLe := (op_le (X := X)).or (op_le_str (X := X))
def opLt := (op_lt (X := X)).or (op_lt_str (X := X))
def opEq (hu : X.A.units + 64 < cLine) := (op_eq (X := X)).or (op_eqD hu)
def opNe (hu : X.A.units + 64 < cLine) := (op_ne (X := X)).or (op_neD hu)
def opIn := (op_in_seq (X := X)).or (op_in_sign (X := X))
def opNotIn := (op_notIn_seq (X := X)).or (op_notIn_sign (X := X))
def call_lenA := (call_len_seq (X := X)).or (call_len_str (X := X))
def callInt := (call_int1 (X := X)).or (call_int_str (X := X))
def slAny := (sl_list (X := X)).or ((sl_tupA (X := X)).or (sl_str (X := X)))
end

/-! ### heaps -/
def ExB (p : Addr) (H H' : Hp) : Prop := ∀ b o, b ≠ p → H b = some o → H' b = some o
theorem ExB.refl (p : Addr) (H : Hp) : ExB p H H := fun _ _ _ h => h
theorem ExB.trans {p : Addr} {H H1 H2 : Hp} (a : ExB p H H1) (b : ExB p H1 H2) : ExB p H H2 := fun c o n h => b c o n (a c o n h)
theorem ExB.of {p : Addr} {H H1 : Hp} (a : Same H H1) : ExB p H H1 := fun c o _ h => a c o h
theorem ExB.new {p t : Addr} {H : Hp} {o : HO} (h : H t = none) : ExB p H (upd H t o) := fun c u _ e => by
  rw [upd_ne (ne_of_none e h)]
  exact e
theorem ExB.put {p : Addr} {H : Hp} {o : HO} : ExB p H (upd H p o) := fun c u n e => by
  rw [upd_ne n]
  exact e
theorem same_new {t : Addr} {H : Hp} {o : HO} (h : H t = none) : Same H (upd H t o) := fun c u e => by
  rw [upd_ne (ne_of_none e h)]
  exact e
theorem upd_old {H : Hp} {t a : Addr} {o u : HO} (hn : H t = none) (h : H a = some u) : upd H t o a = some u := by
  rw [upd_ne (ne_of_none h hn)]
  exact h
theorem upd_mut {H : Hp} {t a : Addr} {o u v : HO} (ht : H t = some v) (d : u ≠ v) (h : H a = some u) : upd H t o a = some u := by
  rw [upd_ne (ne_of h ht d)]
  exact h
theorem upd_new {H : Hp} {t a : Addr} {o : HO} (h : upd H t o a = none) : H a = none := by
  unfold upd at h
  split at h
  · cases h
  · exact h
theorem sz1000 {n : Nat} (h : n ≤ 1000) : n ≤ sizeLine := Nat.le_trans h (by decide)
theorem len_le {xs : List V} {n : Nat} (h : xs.length = n) (z : n ≤ 1000) : xs.length ≤ sizeLine := by rw [h]; exact sz1000 z
theorem len2_le {xs ys : List V} {n : Nat} (h : xs.length + ys.length = n) (z : n ≤ 1000) : xs.length + ys.length ≤ sizeLine := by rw [h]; exact sz1000 z
theorem fin_b {Q : VK} {H H' : Hp} {b c : Bool} (k : ∀ H', Same H H' → Q (.bl b) H') (e : b = c) (s : Same H H') : Q (.bl c) H' := e ▸ k H' s
theorem same_tr {H H1 H2 : Hp} (b : Same H1 H2) (a : Same H H1) : Same H H2 := a.trans b
theorem same_none {H H' : Hp} {a : Addr} (s : Same H H') (h : H' a = none) : H a = none := s.free h

/-! ### data -/
theorem rd_keep {H H' : Hp} {a : Addr} {u : HO} (e : ∀ o, H a = some o → H' a = some o) (h : Rd H a u) : Rd H' a u := by
  rcases h with h | ⟨o, h⟩
  · exact .inl (e _ h)
  · exact .inr ⟨o, e _ h⟩
theorem SqT.rd {K : PySem.W.Frag} {H : Hp} {a : Addr} {xs : List V} (h : Rd H a (.tup xs)) : SqT K H a xs := .inl h
theorem Rd.back {H H' : Hp} {a : Addr} {u : HO} (s : Same H H') (h : Rd H a u) : Rd H' a u := rd_keep (fun o q => s _ o q) h
theorem Rd.same {H H' : Hp} {a : Addr} {u : HO} (h : Rd H a u) (s : Same H H') : Rd H' a u := rd_keep (fun o q => s _ o q) h
mutual
/-- v tells the data d; lists and tuples stand at addresses that H knows, none of them p -/
inductive Rp (p : Addr) (H : Hp) : V → PyData → Prop
  | non : Rp p H .non .none
  | bl (b : Bool) : Rp p H (.bl b) (.bool b)
  | int (i : Int) : Rp p H (.int i) (.int i)
  | str (x : Str) (h : x.length ≤ 1000) : Rp p H (.str x) (.str x)
  | lst {a : Addr} {xs : List V} {ds : List PyData} (n : a ≠ p) (h : H a = some (.lst xs)) (z : xs.length ≤ 1000) (r : RpA p H xs ds) : Rp p H (.ref a) (.list ds)
  | tup {a : Addr} {xs : List V} {ds : List PyData} (n : a ≠ p) (h : Rd H a (.tup xs)) (z : xs.length ≤ 1000) (r : RpA p H xs ds) : Rp p H (.ref a) (.tuple ds)
  | dct {a : Addr} (n : a ≠ p) (h : H a = some (.dK [])) : Rp p H (.ref a) (.dict [])
inductive RpA (p : Addr) (H : Hp) : List V → List PyData → Prop
  | nil : RpA p H [] []
  | cons {v : V} {vs : List V} {d : PyData} {ds : List PyData} (h : Rp p H v d) (t : RpA p H vs ds) : RpA p H (v :: vs) (d :: ds)
end
mutual
theorem Rp.keep {p : Addr} {H H' : Hp} (e : ExB p H H') : ∀ {v : V} {d : PyData}, Rp p H v d → Rp p H' v d
  | _, _, .non => .non
  | _, _, .bl b => .bl b
  | _, _, .int i => .int i
  | _, _, .str x h => .str x h
  | _, _, .lst n h z r => .lst n (e _ _ n h) z (RpA.keep e r)
  | _, _, .tup n h z r => .tup n (rd_keep (fun o q => e _ o n q) h) z (RpA.keep e r)
  | _, _, .dct n h => .dct n (e _ _ n h)
theorem RpA.keep {p : Addr} {H H' : Hp} (e : ExB p H H') : ∀ {vs : List V} {ds : List PyData}, RpA p H vs ds → RpA p H' vs ds
  | _, _, .nil => .nil
  | _, _, .cons h t => .cons (Rp.keep e h) (RpA.keep e t)
end
theorem RpA.length {p : Addr} {H : Hp} : ∀ {vs : List V} {ds : List PyData}, RpA p H vs ds → vs.length = ds.length
  | _, _, .nil => rfl
  | _, _, .cons _ t => by rw [List.length_cons, List.length_cons, RpA.length t]
theorem RpA.get {p : Addr} {H : Hp} : ∀ {vs : List V} {ds : List PyData} {i : Nat} {v : V}, RpA p H vs ds → vs[i]? = some v → ∃ d, ds[i]? = some d ∧ Rp p H v d
  | _, _, _, _, .nil, e => by simp at e
  | _, _, 0, _, .cons h _, e => by
    obtain rfl := Option.some.inj e
    exact ⟨_, rfl, h⟩
  | _, _, i + 1, v, .cons _ t, e => RpA.get (i := i) t e
theorem RpA.append {p : Addr} {H : Hp} : ∀ {vs ws : List V} {ds es : List PyData}, RpA p H vs ds → RpA p H ws es → RpA p H (vs ++ ws) (ds ++ es)
  | _, _, _, _, .nil, s => s
  | _, _, _, _, .cons h t, s => .cons h (RpA.append t s)
/-- the built-in class of data -/
def tyD : PyData → String
  | .none => "NoneType" | .bool _ => "bool" | .int _ => "int" | .str _ => "str" | .list _ => "list" | .tuple _ => "tuple" | .dict _ => "dict"
theorem Rp.ty {K : PySem.W.Frag} {p : Addr} {H : Hp} {v : V} {d : PyData} (r : Rp p H v d) : TyX K H v (.type (tyD d)) := by
  cases r with
  | non => exact .base .non
  | bl b => exact .base (.bl b)
  | int i => exact .base (.int i)
  | str x => exact .base (.str x)
  | lst n h z r => exact .base (.lst h)
  | tup n h z r =>
    rcases h with h | ⟨o, h⟩
    · exact .base (.tup h)
    · exact .fTuple h
  | dct n h => exact .base (.dK h)
def isInt : PyData → Bool
  | .int _ => true
  | _ => false
def isBl : PyData → Bool
  | .bool _ => true
  | _ => false
def isStr : PyData → Bool
  | .str _ => true
  | _ => false
def isTup : PyData → Bool
  | .tuple _ => true
  | _ => false
theorem kit_int {K : PySem.W.Frag} {d : PyData} : PySem.W.kitOne K (.type (tyD d)) (.type "int") = some (isInt d || isBl d) := by cases d <;> exact kit_ty (by show L2.kitB _ _ = some _; simp only [tyD, isInt, isBl]; decide +kernel)
theorem kit_bool {K : PySem.W.Frag} {d : PyData} : PySem.W.kitOne K (.type (tyD d)) (.type "bool") = some (isBl d) := by cases d <;> exact kit_ty (by simp only [tyD, isBl]; decide +kernel)
theorem kit_str {K : PySem.W.Frag} {d : PyData} : PySem.W.kitOne K (.type (tyD d)) (.type "str") = some (isStr d) := by cases d <;> exact kit_ty (by simp only [tyD, isStr]; decide +kernel)
theorem kit_tup {K : PySem.W.Frag} {d : PyData} : PySem.W.kitOne K (.type (tyD d)) (.type "tuple") = some (isTup d) := by cases d <;> exact kit_ty (by simp only [tyD, isTup]; decide +kernel)
def isTupN (n : Nat) : PyData → Bool
  | .tuple ds => decide (ds.length = n)
  | _ => false
def isPair : PyData → Bool
  | .tuple [a, b] => isInt a && isInt b
  | _ => false
def letterC (c : Nat) : Bool := decide (97 ≤ c) && decide (c ≤ 122)
def isName : PyData → Bool
  | .str x => (decide (1 ≤ x.length) && decide (x.length ≤ 8)) && x.cps.toList.all letterC
  | _ => false
def isSpan (lo hi : Int) : PyData → Bool
  | .tuple [.int a, .int b] => decide (lo ≤ a) && (decide (a ≤ b) && decide (b ≤ hi))
  | _ => false
def isRow (n : Nat) : PyData → Bool
  | .tuple [nm, .tuple ss] => isName nm && (decide (ss.length = n) && ss.all (isSpan (-10000) 10000))
  | _ => false
def SpTN : Sp := fun vs H Q _ => ∃ p v d n, vs = [v, .int ((n : Nat) : Int)] ∧ Rp p H v d ∧ ∀ H', Same H H' → Q (.bl (isTupN n d)) H'
def SpSpan : Sp := fun vs H Q _ => ∃ p v d lo hi, vs = [v, .int lo, .int hi] ∧ Rp p H v d ∧ ∀ H', Same H H' → Q (.bl (isSpan lo hi d)) H'
def SpRow : Sp := fun vs H Q _ => ∃ p v d n, vs = [v, .int ((n : Nat) : Int)] ∧ Rp p H v d ∧ ∀ H', Same H H' → Q (.bl (isRow n d)) H'
theorem isPair_not {d : PyData} (h : isPair d = false) (lo hi : Int) : isSpan lo hi d = false := by
  unfold isSpan
  split
  · simp [isPair, isInt] at h
  · rfl
theorem vint_eq {a b : Nat} : decide (V.int ((a : Nat) : Int) = V.int ((b : Nat) : Int)) = decide (a = b) := by
  by_cases h : a = b
  · subst h
    rw [decide_eq_true rfl, decide_eq_true rfl]
  · rw [decide_eq_false h, decide_eq_false fun e => h (by injection e with e; omega)]
theorem one_lt {a b : Nat} : (([a] : List Nat) < [b]) ↔ a < b := by
  rw [List.cons_lt_cons_iff]
  constructor
  · rintro (h | ⟨_, h⟩)
    · exact h
    · exact absurd h (List.not_lt_nil _)
  · exact .inl
theorem letter_lo (c : Nat) : (!decide (([c] : List Nat) < [97])) = decide (97 ≤ c) := by
  rw [decide_eq_decide.mpr one_lt]
  by_cases h : 97 ≤ c
  · rw [decide_eq_true h, decide_eq_false (by omega)]; rfl
  · rw [decide_eq_false h, decide_eq_true (by omega)]; rfl
theorem letter_hi (c : Nat) : (!decide (([122] : List Nat) < [c])) = decide (c ≤ 122) := by
  rw [decide_eq_decide.mpr one_lt]
  by_cases h : c ≤ 122
  · rw [decide_eq_true h, decide_eq_false (by omega)]; rfl
  · rw [decide_eq_false h, decide_eq_true (by omega)]; rfl
/-- a value that is just given back -/
def SpB (f : PyData → Bool) : Sp := fun vs H Q _ => ∃ p v d, vs = [v] ∧ Rp p H v d ∧ ∀ H', Same H H' → Q (.bl (f d)) H'

/-! ### comprehensions that keep what there was -/
section
variable {K : PySem.W.Frag} {a : Addr} {te : TE} {vs : List Nat} {σ : L2.St} {H1 : Hp} {Q : VK} {g : TG} {tl : TE}
theorem lc_txt {x : Str} {ys : List V} (hl : ys.length = x.cps.size) (hz : x.length ≤ 1000) (ht : ∀ R : VK, R (.str x) H1 → tl σ H1 R)
    (hs : ∀ (j : Nat) (c : Nat) (y : V) (H : Hp), x.cps[j]? = some c → ys[j]? = some y → Same H1 H → ∀ R : VK, (∀ H3, Same H H3 → R y H3) →
      g (.str ⟨#[c]⟩) (wipe σ vs) H fun σ2 H2 => wipe σ2 vs = wipe σ vs ∧ te σ2 H2 R)
    (k : ∀ D H', H1 D = none → Same H1 H' → H' D = some (.lst ys) → Q (.ref D) H') : tLc (iStr tl) g tYes te vs σ H1 Q := by
  refine ht _ ⟨x, rfl, fun D hD => ?_⟩
  refine ⟨fun i m H => m + i = x.cps.size ∧ Same H1 H ∧ H D = some (.lst (ys.take i)), ⟨x.cps.size, rfl, same_new hD, upd_same⟩, fun i m H ⟨hm, sm, hd⟩ => ?_⟩
  by_cases hi : i < x.cps.size
  · refine .inr ⟨hi, fun H' => Same H1 H' ∧ H' D = some (.lst (ys.take (i + 1))), fun H' ⟨s', d'⟩ => ⟨m - 1, by omega, by omega, s', d'⟩, fun v H' ⟨e1, c, e2, e3⟩ => ?_⟩
    subst e1 e3
    have hy : i < ys.length := by omega
    have key := hs i c ys[i] H' e2 (List.getElem?_eq_getElem hy) sm (fun y H4 => ∃ acc, H4 D = some (.lst acc) ∧ acc.length < sizeLine ∧ Same H1 (upd H4 D (.lst (acc ++ [y]))) ∧ upd H4 D (.lst (acc ++ [y])) D = some (.lst (ys.take (i + 1)))) fun H3 s3 => ?_
    · exact key
    · refine ⟨ys.take i, s3 _ _ hd, ?_, fun b o e => ?_, ?_⟩
      · have q : x.length = x.cps.size := rfl
        rw [List.length_take]
        exact Nat.lt_of_le_of_lt (Nat.le_trans (Nat.min_le_right _ _) (by omega : ys.length ≤ 1000)) (by decide)
      · rw [upd_ne (ne_of_none e hD)]
        exact s3 _ _ (sm _ _ e)
      · rw [upd_same, List.take_succ, List.getElem?_eq_getElem hy]
        rfl
  · have e : i = x.cps.size := by omega
    subst e
    refine .inl ⟨Nat.le_refl _, k D H hD sm ?_⟩
    rw [hd, List.take_of_length_le (by omega)]
theorem lc_tupM {xs ys : List V} (hx : SqT K H1 a xs) (hl : ys.length = xs.length) (hz : xs.length ≤ 1000) (ht : ∀ R : VK, R (.ref a) H1 → tl σ H1 R)
    (hs : ∀ (j : Nat) (z y : V) (H : Hp), xs[j]? = some z → ys[j]? = some y → Same H1 H → ∀ R : VK, (∀ H3, Same H H3 → R y H3) →
      g z (wipe σ vs) H fun σ2 H2 => wipe σ2 vs = wipe σ vs ∧ te σ2 H2 R)
    (k : ∀ D H', H1 D = none → Same H1 H' → H' D = some (.lst ys) → Q (.ref D) H') : tLc (iTup K tl) g tYes te vs σ H1 Q := by
  have hT : ∀ {H}, Same H1 H → SqT K H a xs := fun {H} e => by
    rcases hx with (h | ⟨o, h⟩) | h
    · exact .inl (.inl (e _ _ h))
    · exact .inl (.inr ⟨o, e _ _ h⟩)
    · exact .inr h
  refine ht _ ⟨a, rfl, ⟨xs, hx⟩, fun D hD => ?_⟩
  refine lc_tup (K := K) (a := a) (xs := xs) (fun i H => Same H1 H ∧ H D = some (.lst (ys.take i))) ⟨same_new hD, upd_same⟩ (fun i H _ p => hT p.1) (fun i z H hi ⟨sm, hd⟩ => ?_) (fun H ⟨sm, hd⟩ => k D H hD sm ?_)
  · have hi2 := (List.getElem?_eq_some_iff.mp hi).1
    have hy : i < ys.length := by omega
    have key := hs i z ys[i] H hi (List.getElem?_eq_getElem hy) sm (fun y H4 => ∃ acc, H4 D = some (.lst acc) ∧ acc.length < sizeLine ∧ Same H1 (upd H4 D (.lst (acc ++ [y]))) ∧ upd H4 D (.lst (acc ++ [y])) D = some (.lst (ys.take (i + 1)))) fun H3 s3 => ?_
    · exact key
    · refine ⟨ys.take i, s3 _ _ hd, ?_, fun b o e => ?_, ?_⟩
      · rw [List.length_take]
        exact Nat.lt_of_le_of_lt (Nat.le_trans (Nat.min_le_right _ _) (by omega : ys.length ≤ 1000)) (by decide)
      · rw [upd_ne (ne_of_none e hD)]
        exact s3 _ _ (sm _ _ e)
      · rw [upd_same, List.take_succ, List.getElem?_eq_getElem hy]
        rfl
  · rw [hd, List.take_of_length_le (by omega)]
end
end Cs
set_option maxHeartbeats 4000000
local macro_rules | `(tactic| walk_at "hp") => `(tactic| first
  | assumption
  | with_reducible exact L2.upd_same
  | with_reducible exact Cs.upd_old (by assumption) (by assumption)
  | (with_reducible refine Cs.upd_old (by first | assumption | exact Cs.upd_new (by assumption)) ?_; walk_at "hp")
  | (with_reducible refine Cs.upd_mut (by walk_at "hp") (by intro z; cases z) ?_; walk_at "hp")
  | exact (by assumption : L2.Same _ _) _ _ (by walk_at "hp"))
local macro_rules | `(tactic| walk_at "rp") => `(tactic| first
  | assumption
  | exact Cs.Rp.keep (Cs.ExB.of (by assumption)) (by walk_at "rp"))
local macro_rules | `(tactic| walk_at "sm") => `(tactic| first
  | assumption
  | exact L2.Same.refl _
  | exact Cs.same_new (by assumption)
  | exact Cs.same_tr (by assumption) (by walk_at "sm")
  | exact Cs.same_tr (Cs.same_new (by assumption)) (by walk_at "sm"))
local macro_rules | `(tactic| walk_at "hz") => `(tactic| first
  | with_reducible assumption
  | exact Cs.Rd.back (by with_reducible assumption) (by with_reducible assumption)
  | exact Cs.Rd.back (by with_reducible assumption) (Cs.Rd.back (by with_reducible assumption) (by with_reducible assumption))
  | exact Cs.Rd.back (by with_reducible assumption) (Cs.Rd.back (by with_reducible assumption) (Cs.Rd.back (by with_reducible assumption) (by with_reducible assumption)))
  | exact Or.inl (by with_reducible assumption)
  | exact Or.inl (by with_reducible exact L2.upd_same)
  | exact Or.inl ((by with_reducible assumption : L2.Same _ _) _ _ (by with_reducible assumption)))
local macro_rules | `(tactic| walk_at "e") => `(tactic| first
  | refine ⟨_, rfl, ?_⟩
  | refine ⟨_, _, rfl, rfl, ?_⟩
  | refine Or.inr (Or.inl ⟨_, _, _, _, rfl, rfl, (Cs.SqT.rd (by walk_at "hz")), rfl, ?_⟩)
  | refine Or.inl ⟨_, _, rfl, Or.inr (Cs.SqT.rd (by walk_at "hz")), ?_⟩
  | refine ⟨_, _, rfl, (Cs.SqT.rd (by walk_at "hz")), rfl, ?_⟩
  | refine ⟨_, _, _, _, rfl, rfl, L2.SqL.of (by walk_at "hp"), rfl, ?_⟩
  | refine ⟨_, _, _, _, rfl, rfl, (by walk_at "hp"), rfl, ?_⟩
  | refine Or.inl ⟨_, rfl, ?_⟩
  | refine Or.inl ⟨rfl, ?_⟩
  | refine Or.inl ⟨_, _, rfl, rfl, ?_⟩
  | refine Or.inl ⟨_, _, _, _, rfl, rfl, L2.SqL.of (by walk_at "hp"), rfl, ?_⟩
  | refine Or.inr ⟨_, rfl, Cs.sz1000 (by assumption), ?_⟩
  | refine Or.inr ⟨_, _, rfl, rfl, ?_⟩
  | refine Or.inl ⟨_, _, rfl, Or.inl (L2.SqL.of (by walk_at "hp")), ?_⟩
  | refine ⟨_, _, _, _, _, rfl, .ty _, Cs.Rp.ty (by walk_at "rp"), (by first | exact Cs.kit_int | exact Cs.kit_bool | exact Cs.kit_str | exact Cs.kit_tup), ?_⟩
  | refine ⟨_, _, _, rfl, (by walk_at "rp"), fun _ _ => ?_⟩
  | refine ⟨_, _, _, _, rfl, (by walk_at "rp"), fun _ _ => ?_⟩
  | refine ⟨_, _, _, _, _, rfl, (by walk_at "rp"), fun _ _ => ?_⟩
  | refine ⟨_, _, rfl, ?_⟩
  | refine And.intro rfl ?_
  | refine And.intro (by first | decide | (dsimp only; decide)) ?_
  | refine And.intro (by first | assumption | (dsimp only; assumption)) ?_
  | refine And.intro (Or.inr ⟨by decide, by decide⟩) ?_
  | refine And.intro (Or.inl ⟨by omega, by omega⟩) ?_
  | refine And.intro ⟨by decide, by decide⟩ ?_
  | refine And.intro ⟨by assumption, by assumption⟩ ?_)
local macro_rules | `(tactic| walk_at "es") => `(tactic| repeat (walk_at "e"))
namespace Cs
open PySem L2 PyProof.Rows
def topS (i : Nat) : Stmt := PySem.Challenge.pw_cornersure_k04_tables_refused.main.body.getD i (.Pass ⟨0, 0, 0, 0⟩)
structure DefAt (K : PySem.W.Frag) (mg : Str → Option Value) (x : Str) (st : Stmt) (ps : List Str) : Prop where
  ex : ∃ (f : Addr) (fd : FuncData), FunD K x x (defArgs st) (defBody st) (defScope st) [] [] f fd ∧ mg x = some (.ref f) ∧ Binds K fd ps []
/-- what the module has not, so that a built-in is meant; its numbers -/
structure Txt (mg : Str → Option Value) : Prop where
  len_ : mg "len" = none
  isinstance_ : mg "isinstance" = none
  int_ : mg "int" = none
  str_ : mg "str" = none
  bool_ : mg "bool" = none
  tuple_ : mg "tuple" = none
  list_ : mg "list" = none
  all_ : mg "all" = none
  abs_ : mg "abs" = none
  divmod_ : mg "divmod" = none
  range_ : mg "range" = none
  enumerate_ : mg "enumerate" = none
  repr_ : mg "repr" = none
  c__MOST_LETTERS : ∃ u, mg "_MOST_LETTERS" = some u ∧ RelV (.int 8) u
  c_MOST_END : ∃ u, mg "MOST_END" = some u ∧ RelV (.int 10000) u
  c_MOST_COLUMNS : ∃ u, mg "MOST_COLUMNS" = some u ∧ RelV (.int 4) u
  c_MOST_ROWS : ∃ u, mg "MOST_ROWS" = some u ∧ RelV (.int 8) u
/-- sums -/
structure TxtS (mg : Str → Option Value) : Prop where
  sum_ : mg "sum" = none
  min_ : mg "min" = none
  max_ : mg "max" = none
/-- the greatest weight -/
structure TxtW (mg : Str → Option Value) : Prop where
  c_MOST_WEIGHT : ∃ u, mg "MOST_WEIGHT" = some u ∧ RelV (.int 1000) u
section
variable {P : Program} {w : World} {K : PySem.W.Frag} {mg : Str → Option Value} {base : Heap}
theorem DefAt.cal {x : Str} {st : Stmt} {N ps : List Str} {k : Nat} {sp : Sp} (D : DefAt K mg x st ps) (S : FnScope N ps (defScope st)) (len : ∀ vs H Q E, sp vs H Q E → vs.length = ps.length)
    (hbody : ∀ (f : Addr) (cdv : Value) (A : Around) (outer : List Env) (s : Shared) (H : Hp) (vs : List V) (Q : VK) (E : XK), Room k (A.deeper (envOfC x (defScope st) s.heap.objs.size f cdv)) → sp vs H Q E →
      ∃ t, PSs (cxOf CX0 P w K mg base N x (defScope st) f cdv A outer s H E).nox (defBody st) t ∧ t { nx := fun _ H' => Q .non H', rt := Q } (start N vs) H) : C8.Cal P w K mg base (k + 1) x sp [] := by
  obtain ⟨f, fd, F, g, b⟩ := D.ex
  refine ⟨f, fd, ps, [], F.ok S len fun cdv A outer s H vs Q E hr h => ?_, g, F.kp, b, .nil⟩
  obtain ⟨t, h1, h2⟩ := hbody f cdv A outer s H vs Q E hr h
  exact ⟨t, h1.nox, h2⟩
/-! ### kinds -/
theorem sc_is_integer : FnScope ["value"] ["value"] (defScope (topS 22)) := ⟨rfl, rfl, rfl, by decide +kernel, rfl, by decide +kernel, by decide +kernel⟩
theorem ok_is_integer (D : DefAt K mg "is_integer" (topS 22) ["value"]) (T : Txt mg) : C8.Cal P w K mg base 1 "is_integer" (SpB isInt) [] := by
  refine D.cal sc_is_integer (fun vs H Q E h => by obtain ⟨p, v, d, rfl, _⟩ := h; rfl) fun f cdv A outer s H vs Q E hr h => ?_
  obtain ⟨p, v, d, rfl, r, k⟩ := h
  refine ⟨_, (pss_one (ps_ret (pe_and (pe_callB call_isi (by rfl) T.isinstance_ (by decide +kernel) (pa_cons (pv 0) (pa_cons (pe_bltn (v := .ty "int") (u := .type "int") (by rfl) T.int_ (by decide +kernel) rfl) pa_nil))) (pe_one (pe_not (pe_callB call_isi (by rfl) T.isinstance_ (by decide +kernel) (pa_cons (pv 0) (pa_cons (pe_bltn (v := .ty "bool") (u := .type "bool") (by rfl) T.bool_ (by decide +kernel) rfl) pa_nil)))))))), ?_⟩
  walk_at "es"
  have e : isInt d = (if isInt d || isBl d then !isBl d else false) := by cases d <;> rfl
  refine ite2 (fun h => ?_) (fun h => ?_)
  · walk_at "es"
    have q := k H (Same.refl H)
    rw [e, if_pos h] at q
    exact q
  · have q := k H (Same.refl H)
    rw [e, if_neg h] at q
    exact q
theorem sc_is_tuple_of : FnScope ["value", "many"] ["value", "many"] (defScope (topS 23)) := ⟨rfl, rfl, rfl, by decide +kernel, rfl, by decide +kernel, by decide +kernel⟩
theorem ok_is_tuple_of (D : DefAt K mg "is_tuple_of" (topS 23) ["value", "many"]) (T : Txt mg) : C8.Cal P w K mg base 1 "is_tuple_of" SpTN [] := by
  refine D.cal sc_is_tuple_of (fun vs H Q E h => by obtain ⟨p, v, d, n, rfl, _⟩ := h; rfl) fun f cdv A outer s H vs Q E hr h => ?_
  obtain ⟨p, v, d, n, rfl, r, k⟩ := h
  have hu64 := hr.units
  refine ⟨_, (pss_one (ps_ret (pe_and (pe_callB call_isi (by rfl) T.isinstance_ (by decide +kernel) (pa_cons (pv 0) (pa_cons (pe_bltn (v := .ty "tuple") (u := .type "tuple") (by rfl) T.tuple_ (by decide +kernel) rfl) pa_nil))) (pe_one (pe_cmpR (opEq hu64) (pe_callB call_lenA (by rfl) T.len_ (by decide +kernel) (pa_cons (pv 0) pa_nil)) (pv 1) (nomark _)))))), ?_⟩
  walk_at "es"
  have q := k H (Same.refl H)
  cases r with
  | @tup a xs ds nn h z ra =>
    refine iteT ?_
    walk_at "es"
    show Q (V.bl (decide (V.int ((xs.length : Nat) : Int) = V.int ((n : Nat) : Int)))) H
    rw [vint_eq, ra.length]
    exact q
  | _ => exact iteF q
theorem sc_is_pair_of_integers : FnScope ["value"] ["value"] (defScope (topS 24)) := ⟨rfl, rfl, rfl, by decide +kernel, rfl, by decide +kernel, by decide +kernel⟩
theorem ok_is_pair_of_integers (D : DefAt K mg "is_pair_of_integers" (topS 24) ["value"]) (T : Txt mg) (cis_tuple_of : C8.Cal P w K mg base 1 "is_tuple_of" SpTN []) (cis_integer : C8.Cal P w K mg base 1 "is_integer" (SpB isInt) []) :
    C8.Cal P w K mg base 2 "is_pair_of_integers" (SpB isPair) [] := by
  refine D.cal sc_is_pair_of_integers (fun vs H Q E h => by obtain ⟨p, v, d, rfl, _⟩ := h; rfl) fun f cdv A outer s H vs Q E hr h => ?_
  obtain ⟨p, v, d, rfl, r, k⟩ := h
  have hu64 := hr.units
  refine ⟨_, (pss_one (ps_ret (pe_and (C8.pe_c cis_tuple_of hr (by decide) rfl (pa_cons (pv 0) (pa_cons pe_int pa_nil))) (pe_and (C8.pe_c cis_integer hr (by decide) rfl (pa_cons (pe_ix ix_seq (pv 0) pe_int (fun _ _ => rfl)) pa_nil)) (pe_one (C8.pe_c cis_integer hr (by decide) rfl (pa_cons (pe_ix ix_seq (pv 0) pe_int (fun _ _ => rfl)) pa_nil))))))), ?_⟩
  walk_at "e"
  refine ⟨p, v, d, 2, rfl, r, fun H1 s1 => ?_⟩
  walk_at "es"
  cases hd : isTupN 2 d with
  | false =>
    have e : isPair d = false := by
      unfold isPair
      split
      · simp [isTupN] at hd
      · rfl
    have q := k H1 s1
    rw [e] at q
    exact iteF q
  | true =>
    cases r with
    | @tup a xs ds nn h z ra =>
      cases ra with
      | nil => simp [isTupN] at hd
      | @cons v1 vs1 d1 ds1 r1 ra =>
        cases ra with
        | nil => simp [isTupN] at hd
        | @cons v2 vs2 d2 ds2 r2 ra =>
          cases ra with
          | cons _ _ => simp [isTupN] at hd
          | nil =>
            refine iteT ?_
            walk_at "es"
            walk_at "es"
            refine ite2 (fun e1 => ?_) (fun e1 => ?_)
            · walk_at "es"
              exact fin_b k (by simp_all [isPair]) (by walk_at "sm")
            · exact fin_b k (by simp_all [isPair]) (by walk_at "sm")
    | _ => simp [isTupN] at hd
theorem sc_is_stretch : FnScope ["value", "least", "most", "low", "high"] ["value", "least", "most"] (defScope (topS 27)) := ⟨rfl, rfl, rfl, by decide +kernel, rfl, by decide +kernel, by decide +kernel⟩
theorem ok_is_stretch (D : DefAt K mg "is_stretch" (topS 27) ["value", "least", "most"]) (cis_pair_of_integers : C8.Cal P w K mg base 2 "is_pair_of_integers" (SpB isPair) []) :
    C8.Cal P w K mg base 3 "is_stretch" SpSpan [] := by
  refine D.cal sc_is_stretch (fun vs H Q E h => by obtain ⟨p, v, d, lo, hi, rfl, _⟩ := h; rfl) fun f cdv A outer s H vs Q E hr h => ?_
  obtain ⟨p, v, d, lo, hi, rfl, r, k⟩ := h
  have nd := sc_is_stretch.nd
  refine ⟨_, (pss_cons (ps_if (pt_not (pt_val (C8.pe_c cis_pair_of_integers hr (by decide) rfl (pa_cons (pv 0) pa_nil)))) (pss_one (ps_ret pe_bl)) pss_nil)
      (pss_cons (ps_asg (pv 0) (pg_tup (by rfl) (pgs_cons (pg_name (i := 3) nd rfl (.inl rfl)) (pgs_cons (pg_name (i := 4) nd rfl (.inl rfl)) pgs_nil))))
      (pss_one (ps_ret (pe_chain3 opLe opLe opLe (pv 1) (pv 3) (pv 4) (pv 2)))))), ?_⟩
  walk_at "es"
  cases hd : isPair d with
  | false =>
    refine iteT ?_
    exact fin_b k (isPair_not hd _ _) (by walk_at "sm")
  | true =>
    refine iteF ?_
    cases r with
    | @tup a xs ds nn h z ra =>
      cases ra with
      | nil => simp [isPair] at hd
      | @cons v1 vs1 d1 ds1 r1 ra =>
        cases ra with
        | nil => simp [isPair] at hd
        | @cons v2 vs2 d2 ds2 r2 ra =>
          cases ra with
          | cons _ _ => simp [isPair] at hd
          | nil =>
            cases r1 with
            | int i =>
              cases r2 with
              | int j =>
                walk_at "es"
                refine ite2 (fun e1 => ?_) (fun e1 => ?_)
                · walk_at "es"
                  refine ite2 (fun e2 => ?_) (fun e2 => ?_)
                  · walk_at "es"
                    exact fin_b k (by show (decide _ && (decide _ && decide _)) = _; rw [e1, e2]; rfl) (by walk_at "sm")
                  · exact fin_b k (by show (decide _ && (decide _ && decide _)) = _; rw [e1, eq_false_of_ne_true e2]; rfl) (by walk_at "sm")
                · exact fin_b k (by show (decide _ && (decide _ && decide _)) = _; rw [eq_false_of_ne_true e1]; rfl) (by walk_at "sm")
              | _ => simp [isPair, isInt] at hd
            | _ => simp [isPair, isInt] at hd
    | _ => simp [isPair] at hd
theorem sc__is_end_pair : FnScope ["value"] ["value"] (defScope (topS 40)) := ⟨rfl, rfl, rfl, by decide +kernel, rfl, by decide +kernel, by decide +kernel⟩
theorem ok__is_end_pair (D : DefAt K mg "_is_end_pair" (topS 40) ["value"]) (T : Txt mg) (cis_stretch : C8.Cal P w K mg base 3 "is_stretch" SpSpan []) :
    C8.Cal P w K mg base 4 "_is_end_pair" (SpB (isSpan (-10000) 10000)) [] := by
  refine D.cal sc__is_end_pair (fun vs H Q E h => by obtain ⟨p, v, d, rfl, _⟩ := h; rfl) fun f cdv A outer s H vs Q E hr h => ?_
  obtain ⟨p, v, d, rfl, r, k⟩ := h
  refine ⟨_, (pss_one (ps_ret (C8.pe_c cis_stretch hr (by decide) rfl (pa_cons (pv 0) (pa_cons (pe_un un_neg (C8.pe_gc rfl T.c_MOST_END)) (pa_cons (C8.pe_gc rfl T.c_MOST_END) pa_nil)))))), ?_⟩
  walk_at "es"
  exact k _ (by walk_at "sm")
end
end Cs
set_option maxHeartbeats 4000000
namespace Cs
open PySem L2 PyProof.Rows
section
variable {P : Program} {w : World} {K : PySem.W.Frag} {mg : Str → Option Value} {base : Heap}
theorem sc_is_name : FnScope ["value", "letter"] ["value"] (defScope (topS 25)) := ⟨rfl, rfl, rfl, by decide +kernel, rfl, by decide +kernel, by decide +kernel⟩
theorem ok_is_name (D : DefAt K mg "is_name" (topS 25) ["value"]) (T : Txt mg) : C8.Cal P w K mg base 1 "is_name" (SpB isName) [] := by
  refine D.cal sc_is_name (fun vs H Q E h => by obtain ⟨p, v, d, rfl, _⟩ := h; rfl) fun f cdv A outer s H vs Q E hr h => ?_
  obtain ⟨p, v, d, rfl, r, k⟩ := h
  have nd := sc_is_name.nd
  refine ⟨_, (pss_cons (ps_if (PW.pt (pw_or (pt_not (pt_val (pe_callB call_isi (by rfl) T.isinstance_ (by decide +kernel) (pa_cons (pv 0) (pa_cons (pe_bltn (v := .ty "str") (u := .type "str") (by rfl) T.str_ (by decide +kernel) rfl) pa_nil))))) (pw_or1 (pt_not (pt_chain opLe opLe pe_int (pe_callB call_lenA (by rfl) T.len_ (by decide +kernel) (pa_cons (pv 0) pa_nil)) (C8.pe_gc rfl T.c__MOST_LETTERS)))))) (pss_one (ps_ret pe_bl)) pss_nil)
      (pss_one (ps_ret (pe_callB (cr_all rfl) (by rfl) T.all_ (by decide +kernel) (pa_cons (pe_lc (own := [("letter", 1)]) rfl nd (pi_str (pv 0)) (blkOk_by (N := ["value", "letter"]) (sc := defScope (topS 25)) (by decide +kernel)) (fun _ _ _ _ _ => (pg_name (i := 1) nd rfl (.inl rfl))) (fun _ _ _ _ _ => pts_nil) (fun _ _ _ _ _ => (pe_chain opLe opLe pe_str (pv 1) pe_str))) pa_nil))))), ?_⟩
  walk_at "es"
  have q := k _ (Same.refl H)
  cases r with
  | str x hx =>
    refine iteF ?_
    walk_at "es"
    have il : (x.length : Int) = x.cps.toList.length := rfl
    refine ite2 (fun e1 => ?_) (fun e1 => ?_)
    · walk_at "es"
      refine ite2 (fun e2 => ?_) (fun e2 => ?_)
      · exact fin_b k (by
          have q : ¬ ((x.length : Int) ≤ 8) := of_decide_eq_false (by simpa using e2)
          have q2 : decide (x.length ≤ 8) = false := decide_eq_false (by omega)
          show ((_ && decide (x.length ≤ 8)) && _) = false
          rw [q2, Bool.and_false, Bool.false_and]) (by walk_at "sm")
      · dsimp only [tNext, tRet, tCB, tCons]
        refine lc_txt (x := x) (ys := x.cps.toList.map fun c => V.bl (letterC c)) (by rw [List.length_map]; rfl) hx (fun R hR => ⟨_, rfl, hR⟩) (fun j c y H1 hc hy s1 R hR => ?_) (fun D H1 hD s1 h1 => ?_)
        · have ey : y = V.bl (letterC c) := by
            have q2 : x.cps.toList[j]? = some c := by rw [Array.getElem?_toList]; exact hc
            rw [List.getElem?_map, q2] at hy
            exact (Option.some.inj hy).symm
          subst ey
          refine ⟨rfl, ?_⟩
          walk_at "es"
          refine ite2 (fun e3 => ?_) (fun e3 => ?_)
          · walk_at "es"
            refine fin_b (b := letterC c) hR ?_ (Same.refl _)
            have q : decide (97 ≤ c) = true := (letter_lo c).symm.trans e3
            exact (show (decide (97 ≤ c) && decide (c ≤ 122)) = _ by rw [q, Bool.true_and]; exact (letter_hi c).symm)
          · refine fin_b (b := letterC c) hR ?_ (Same.refl _)
            have q : decide (97 ≤ c) = false := (letter_lo c).symm.trans (eq_false_of_ne_true e3)
            exact (show (decide (97 ≤ c) && decide (c ≤ 122)) = _ by rw [q, Bool.false_and])
        · refine ⟨D, x.cps.toList.map letterC, rfl, SqL.of (by rw [List.map_map]; exact h1), ?_⟩
          refine fin_b k ?_ (by walk_at "sm")
          have q : (x.length : Int) ≤ 8 := of_decide_eq_true (by simpa using e2)
          have q2 : (1 : Int) ≤ x.length := of_decide_eq_true e1
          show ((decide (1 ≤ x.length) && decide (x.length ≤ 8)) && _) = _
          rw [decide_eq_true (by omega), decide_eq_true (by omega), Bool.true_and, Bool.true_and, List.all_map]
          rfl
    · have q : ¬ ((1 : Int) ≤ x.length) := of_decide_eq_false (eq_false_of_ne_true e1)
      refine ⟨_, rfl, iteT ?_⟩
      refine fin_b k ?_ (by walk_at "sm")
      show ((decide (1 ≤ x.length) && _) && _) = false
      rw [decide_eq_false (by omega)]
      rfl
  | _ => exact iteT q
end
end Cs
set_option maxHeartbeats 4000000
namespace Cs
open PySem L2 PyProof.Rows
def isEPs (n : Nat) : PyData → Bool
  | .tuple ss => decide (ss.length = n) && ss.all (isSpan (-10000) 10000)
  | _ => false
def SpEP : Sp := fun vs H Q _ => ∃ p v d n, vs = [v, .int ((n : Nat) : Int)] ∧ Rp p H v d ∧ ∀ H', Same H H' → Q (.bl (isEPs n d)) H'
section
variable {P : Program} {w : World} {K : PySem.W.Frag} {mg : Str → Option Value} {base : Heap}
theorem sc_are_end_pairs : FnScope ["value", "many", "part"] ["value", "many"] (defScope (topS 39)) := ⟨rfl, rfl, rfl, by decide +kernel, rfl, by decide +kernel, by decide +kernel⟩
theorem ok_are_end_pairs (D : DefAt K mg "are_end_pairs" (topS 39) ["value", "many"]) (T : Txt mg) (cis_tuple_of : C8.Cal P w K mg base 1 "is_tuple_of" SpTN [])
    (c_is_end_pair : C8.Cal P w K mg base 4 "_is_end_pair" (SpB (isSpan (-10000) 10000)) []) : C8.Cal P w K mg base 5 "are_end_pairs" SpEP [] := by
  refine D.cal sc_are_end_pairs (fun vs H Q E h => by obtain ⟨p, v, d, n, rfl, _⟩ := h; rfl) fun f cdv A outer s H vs Q E hr h => ?_
  obtain ⟨p, v, d, n, rfl, r, k⟩ := h
  have nd := sc_are_end_pairs.nd
  refine ⟨_, (pss_one (ps_ret (pe_and (C8.pe_c cis_tuple_of hr (by decide) rfl (pa_cons (pv 0) (pa_cons (pv 1) pa_nil))) (pe_one (pe_callB (cr_all rfl) (by rfl) T.all_ (by decide +kernel) (pa_cons (pe_lc (own := [("part", 2)]) rfl nd (pi_tup (pv 0)) (blkOk_by (N := ["value", "many", "part"]) (sc := defScope (topS 39)) (by decide +kernel)) (fun _ _ _ _ _ => (pg_name (i := 2) nd rfl (.inl rfl))) (fun _ _ _ _ _ => pts_nil) (fun _ _ _ _ _ => (C8.pe_c c_is_end_pair hr (by decide) rfl (pa_cons (pv 2) pa_nil)))) pa_nil)))))), ?_⟩
  refine ⟨_, rfl, _, rfl, p, v, d, n, rfl, r, fun H1 s1 => ?_⟩
  walk_at "es"
  cases e2 : isTupN n d with
  | false =>
    refine iteF (fin_b k ?_ (by walk_at "sm"))
    unfold isEPs
    split
    · have e3 : decide (_ = n) = false := e2
      rw [e3, Bool.false_and]
    · rfl
  | true =>
    cases r with
    | @tup a2 xs2 ds2 nn2 h2 z2 ra2 =>
      refine iteT ?_
      dsimp only [tCB, tCons]
      refine lc_tupM (xs := xs2) (ys := ds2.map fun d => V.bl (isSpan (-10000) 10000 d)) (Cs.SqT.rd (by walk_at "hz")) (by rw [List.length_map, ra2.length]) z2 (fun R hR => ⟨_, rfl, hR⟩) (fun j y b H3 hy hb s3 R hR => ?_) (fun D' H3 hD s3 h3 => ?_)
      · obtain ⟨d3, hd3, r3⟩ := ra2.get hy
        have eb : b = V.bl (isSpan (-10000) 10000 d3) := by
          rw [List.getElem?_map, hd3] at hb
          exact (Option.some.inj hb).symm
        subst eb
        refine ⟨rfl, ?_⟩
        walk_at "e"
        refine ⟨p, y, d3, rfl, (by walk_at "rp"), fun H4 s4 => hR H4 s4⟩
      · refine ⟨D', ds2.map (isSpan (-10000) 10000), rfl, SqL.of (by rw [List.map_map]; exact h3), fin_b k ?_ (by walk_at "sm")⟩
        have e3 : decide (ds2.length = n) = true := e2
        show (decide (ds2.length = n) && _) = _
        rw [e3, Bool.true_and, List.all_map]
        rfl
    | _ => simp [isTupN] at e2
theorem isRow_eq {n : Nat} {d1 d2 : PyData} : isRow n (.tuple [d1, d2]) = (isName d1 && isEPs n d2) := by
  cases d2 <;> first | rfl | (simp only [isRow, isEPs, Bool.and_false])
theorem sc__is_row : FnScope ["value", "many", "name", "stretches"] ["value", "many"] (defScope (topS 41)) := ⟨rfl, rfl, rfl, by decide +kernel, rfl, by decide +kernel, by decide +kernel⟩
theorem ok__is_row (D : DefAt K mg "_is_row" (topS 41) ["value", "many"]) (T : Txt mg) (cis_tuple_of : C8.Cal P w K mg base 1 "is_tuple_of" SpTN []) (cis_name : C8.Cal P w K mg base 1 "is_name" (SpB isName) [])
    (care_end_pairs : C8.Cal P w K mg base 5 "are_end_pairs" SpEP []) : C8.Cal P w K mg base 6 "_is_row" SpRow [] := by
  refine D.cal sc__is_row (fun vs H Q E h => by obtain ⟨p, v, d, n, rfl, _⟩ := h; rfl) fun f cdv A outer s H vs Q E hr h => ?_
  obtain ⟨p, v, d, n, rfl, r, k⟩ := h
  have nd := sc__is_row.nd
  refine ⟨_, (pss_cons (ps_if (pt_not (pt_val (C8.pe_c cis_tuple_of hr (by decide) rfl (pa_cons (pv 0) (pa_cons pe_int pa_nil))))) (pss_one (ps_ret pe_bl)) pss_nil)
      (pss_cons (ps_asg (pv 0) (pg_tup (by rfl) (pgs_cons (pg_name (i := 2) nd rfl (.inl rfl)) (pgs_cons (pg_name (i := 3) nd rfl (.inl rfl)) pgs_nil))))
      (pss_one (ps_ret (pe_and (C8.pe_c cis_name hr (by decide) rfl (pa_cons (pv 2) pa_nil)) (pe_one (C8.pe_c care_end_pairs hr (by decide) rfl (pa_cons (pv 3) (pa_cons (pv 1) pa_nil))))))))), ?_⟩
  walk_at "e"
  refine ⟨p, v, d, 2, rfl, r, fun H1 s1 => ?_⟩
  walk_at "es"
  cases hd : isTupN 2 d with
  | false =>
    refine iteT (fin_b k ?_ (by walk_at "sm"))
    unfold isRow
    split
    · simp [isTupN] at hd
    · rfl
  | true =>
    refine iteF ?_
    cases r with
    | @tup a xs ds nn h z ra =>
      cases ra with
      | nil => simp [isTupN] at hd
      | @cons v1 vs1 d1 ds1 r1 ra =>
        cases ra with
        | nil => simp [isTupN] at hd
        | @cons v2 vs2 d2 ds2 r2 ra =>
          cases ra with
          | cons _ _ => simp [isTupN] at hd
          | nil =>
            walk_at "es"
            refine ite2 (fun e1 => ?_) (fun e1 => ?_)
            · refine ⟨_, rfl, _, rfl, p, v2, d2, n, rfl, (by walk_at "rp"), fun H2 s2 => ?_⟩
              refine fin_b k ?_ (by walk_at "sm")
              rw [isRow_eq, e1, Bool.true_and]
            · refine fin_b k ?_ (by walk_at "sm")
              rw [isRow_eq, eq_false_of_ne_true e1, Bool.false_and]
    | _ => simp [isTupN] at hd
end
end Cs
set_option maxHeartbeats 4000000
namespace Cs
open PySem L2 PyProof.Rows
def idxV : Option Nat → V
  | none => .non
  | some i => .int ((i : Nat) : Int)
/-- __init__ of an exception that keeps what it is made with under the name f -/
def SpXInit (C : Addr) (f : Str) : Sp := fun vs H Q _ => ∃ (a : Addr) (y : V), vs = [.ref a, y] ∧ H a = some (exo a C none) ∧
  ∀ d, H d = none → d ≠ a → Q .non (upd (upd H d (exd d [(f, y)])) a (exo a C (some d)))
/-- what is known of the class x at C, which keeps one thing under f -/
structure ExAt (K : PySem.W.Frag) (mg : Str → Option Value) (x : Str) (C : Addr) (f : Str) (st : Stmt) : Prop where
  T : OexC K C
  g : mg x = some (.ref C)
  no : PySem.W.findIn K (.ref C) f = some none
  ini : ∃ (fI : Addr) (fd : FuncData) (q : Str), PySem.W.findIn K (.ref C) "__init__" = some (some (.ref fI)) ∧ PySem.W.typeIn K (.ref fI) = some (.type "function") ∧
    FunD K "__init__" q (defArgs st) (defBody st) (defScope st) [] [] fI fd ∧ Binds K fd ["self", f] []
section
variable {P : Program} {w : World} {K : PySem.W.Frag} {mg : Str → Option Value} {base : Heap}
theorem ok_xinit {C fI : Addr} {fd : FuncData} {q : Str} (F : FunD K "__init__" q (defArgs (inClass (topS 11) 0)) (defBody (inClass (topS 11) 0)) (defScope (inClass (topS 11) 0)) [] [] fI fd)
    (T : OexC K C) (no : PySem.W.findIn K (.ref C) "index" = some none) : FnOk P w K mg base CX0 1 fI fd ["self", "index"] (SpXInit C "index") := by
  refine F.ok (N := ["self", "index"]) ⟨rfl, rfl, rfl, by decide +kernel, rfl, by decide +kernel, by decide +kernel⟩ (fun vs H Q E h => by obtain ⟨a, y, rfl, _⟩ := h; rfl) fun cdv A outer s H vs Q E hr h => ?_
  obtain ⟨a, y, rfl, ha, k⟩ := h
  refine ⟨_, PSs.nox (pss_one (ps_ost (pv 0) (pv 1))), ?_⟩
  walk_at "es"
  exact ⟨a, C, rfl, T, no, .inl ⟨ha, fun dx h1 h2 => k dx h1 h2⟩⟩
end
section
variable {X : Cx} {x f : Str} {C : Addr} {st : Stmt} {e : Expr} {te : TE} {p pos : Pos}
theorem pmk_ix (A : ExAt X.K X.mg x C f st) (hI : ∀ (fI : Addr) (fd : FuncData) (q : Str), FunD X.K "__init__" q (defArgs st) (defBody st) (defScope st) [] [] fI fd → FnOk X.prog X.w X.K X.mg X.base CX0 1 fI fd ["self", f] (SpXInit C f))
    (hr : Room 2 X.A) (hg : Gl X x) (he : PE X e te) (hdb : (x == ("__debug__" : Str)) = false) (hs : starEach [e] X.env = (false, eval e X.env) :: starEach [] X.env) :
    PMk X (.Call (.Name x p) [e] [] pos) (tMkO C (SpXInit C f) [] (tCons te tNil)) := by
  obtain ⟨fI, fd, q, h1, h2, F, b⟩ := A.ini
  exact pmk_oex (k := 1) (dvs := []) A.T h1 h2 (hI fI fd q F) hr b .nil pass0 hg A.g (pa_cons he pa_nil hs) hdb hs rfl
/-- behind the argument -/
theorem xmk {v : V} {H1 : Hp} {Q : XK} (k : ∀ d H', H1 d = none → Same H1 H' → H' d = some (.xd [(f, v)]) → Q (.ref C) (some d) H') :
    [v].length ≤ 1000 ∧ ∀ a, H1 a = none → SpXInit C f (.ref a :: ([v] ++ [])) (upd H1 a (exo a C none))
      (fun u H2 => u = .non ∧ ∃ (d : Addr) (fs : List (Str × V)), H2 a = some (exo a C (some d)) ∧ H2 d = some (exd d fs) ∧ H1 d = none ∧ Q (.ref C) (some d) (upd (del H2 a) d (.xd fs))) (fun _ _ _ => False) := by
  refine ⟨(by show 1 ≤ 1000; decide), fun a ha => ⟨a, v, rfl, upd_same, fun d hd hda => ⟨rfl, d, [(f, v)], upd_same, ?_, ?_, k d _ ?_ (fun b o e => ?_) upd_same⟩⟩⟩
  · rw [upd_ne hda, upd_same]
  · rw [upd_ne hda] at hd
    exact hd
  · rw [upd_ne hda] at hd
    exact hd
  · rw [upd_ne hda] at hd
    have nb : b ≠ d := ne_of_none e hd
    have na : b ≠ a := ne_of_none e ha
    rw [upd_ne nb, del_ne na, upd_ne na, upd_ne nb, upd_ne na]
    exact e
end
/-! ### what is wrong of columns, of rows: none for nothing, some none for what is no tuple or empty -/
def colsBad : Nat → List Str → List PyData → Option Nat
  | _, _, [] => none
  | i, seen, .str x :: r => if i = 4 then some i else if isName (.str x) && !seen.contains x then colsBad (i + 1) (seen ++ [x]) r else some i
  | i, _, _ :: _ => some i
def colsErr : PyData → Option (Option Nat)
  | .tuple [] => some none
  | .tuple ds => (colsBad 0 [] ds).map some
  | _ => some none
theorem colsBad_4 {seen : List Str} {d : PyData} {r : List PyData} : colsBad 4 seen (d :: r) = some 4 := by cases d <;> simp [colsBad]
theorem colsBad_bad {i : Nat} {seen : List Str} {d : PyData} {r : List PyData} (h : isName d = false) : colsBad i seen (d :: r) = some i := by
  cases d <;> first | rfl | (simp only [colsBad, h, Bool.false_and]; split <;> rfl)
theorem colsBad_in {i : Nat} {seen : List Str} {x : Str} {r : List PyData} (h : seen.contains x = true) : colsBad i seen (.str x :: r) = some i := by
  simp only [colsBad, h, Bool.not_true, Bool.and_false]
  split <;> rfl
theorem colsBad_ok {i : Nat} {seen : List Str} {x : Str} {r : List PyData} (h4 : i ≠ 4) (hn : isName (.str x) = true) (h : seen.contains x = false) : colsBad i seen (.str x :: r) = colsBad (i + 1) (seen ++ [x]) r := by
  simp only [colsBad, h, hn, Bool.not_false, Bool.and_true]
  rw [if_neg h4, if_pos trivial]
theorem inV_str {x : Str} : ∀ {l : List Str}, inV (.str x) (l.map V.str) = l.contains x
  | [] => rfl
  | y :: l => by
    have ih := inV_str (x := x) (l := l)
    unfold inV at ih ⊢
    rw [List.map_cons, List.any_cons, ih, List.contains_cons]
    have e : eqV (.str y) (.str x) = (x == y) := Bool.beq_comm
    rw [e]
theorem flat_str : ∀ {l : List Str}, (l.map V.str).all flatV = true
  | [] => rfl
  | y :: l => by rw [List.map_cons, List.all_cons, flat_str]; rfl
theorem cutV_to {xs : List V} {i : Nat} (h : i ≤ xs.length) : cutV xs none (some ((i : Nat) : Int)) = xs.take i := by
  unfold cutV
  rw [HT.sIx_none, HT.sIx_nat, List.drop_zero, Nat.min_eq_left h, Nat.sub_zero]
def SpCC (C : Addr) : Sp := fun vs H Q E => ∃ (p : Addr) (v : V) (d : PyData), vs = [v] ∧ Rp p H v d ∧ (colsErr d = none → ∀ H', Same H H' → Q .non H') ∧
  ∀ e, colsErr d = some e → ∀ dd H', H dd = none → Same H H' → H' dd = some (.xd [("index", idxV e)]) → E (.ref C) (some dd) H'
/-- a def that may raise -/
structure CalX (P : Program) (w : World) (K : PySem.W.Frag) (mg : Str → Option Value) (base : Heap) (k : Nat) (x : Str) (sp : Sp) : Prop where
  ex : ∃ (f : Addr) (fd : FuncData) (ps : List Str), FnOk P w K mg base (L2.CX P w) k f fd ps sp ∧ mg x = some (.ref f) ∧ PySem.W.keepIn K (.ref f) = true ∧ Binds K fd ps []
section
variable {P : Program} {w : World} {K : PySem.W.Frag} {mg : Str → Option Value} {base : Heap}
theorem DefAt.calX {x : Str} {st : Stmt} {N ps : List Str} {k : Nat} {sp : Sp} (D : DefAt K mg x st ps) (S : FnScope N ps (defScope st)) (len : ∀ vs H Q E, sp vs H Q E → vs.length = ps.length)
    (hbody : ∀ (f : Addr) (cdv : Value) (A : Around) (outer : List Env) (s : Shared) (H : Hp) (vs : List V) (Q : VK) (E : XK), Room k (A.deeper (envOfC x (defScope st) s.heap.objs.size f cdv)) → sp vs H Q E →
      ∃ t, PSs (cxOf (L2.CX P w) P w K mg base N x (defScope st) f cdv A outer s H E) (defBody st) t ∧ t { nx := fun _ H' => Q .non H', rt := Q } (start N vs) H) : CalX P w K mg base (k + 1) x sp := by
  obtain ⟨f, fd, F, g, b⟩ := D.ex
  exact ⟨⟨f, fd, ps, F.ok S len fun cdv A outer s H vs Q E hr h => hbody f cdv A outer s H vs Q E hr h, g, F.kp, b⟩⟩
theorem sc_check_columns : FnScope ["columns", "index", "name"] ["columns"] (defScope (topS 34)) := ⟨rfl, rfl, rfl, by decide +kernel, rfl, by decide +kernel, by decide +kernel⟩
theorem ok_check_columns {C : Addr} (D : DefAt K mg "check_columns" (topS 34) ["columns"]) (T : Txt mg) (cis_name : C8.Cal P w K mg base 1 "is_name" (SpB isName) [])
    (xInvalidColumns : ExAt K mg "InvalidColumns" C "index" (inClass (topS 11) 0)) : CalX P w K mg base 4 "check_columns" (SpCC C) := by
  refine D.calX sc_check_columns (fun vs H Q E h => by obtain ⟨p, v, d, rfl, _⟩ := h; rfl) fun f cdv A outer s H vs Q E hr h => ?_
  obtain ⟨p, v, d, rfl, r, kn, kx⟩ := h
  have nd := sc_check_columns.nd
  have hu64 := hr.units
  have iInvalidColumns : ∀ (fI : Addr) (fd : FuncData) (q : Str), FunD K "__init__" q (defArgs (inClass (topS 11) 0)) (defBody (inClass (topS 11) 0)) (defScope (inClass (topS 11) 0)) [] [] fI fd → FnOk P w K mg base CX0 1 fI fd ["self", "index"] (SpXInit C "index") :=
    fun fI fd q F => ok_xinit F xInvalidColumns.T xInvalidColumns.no
  refine ⟨_, (pss_cons (ps_if (PW.pt (pw_or (pt_not (pt_val (pe_callB call_isi (by rfl) T.isinstance_ (by decide +kernel) (pa_cons (pv 0) (pa_cons (pe_bltn (v := .ty "tuple") (u := .type "tuple") (by rfl) T.tuple_ (by decide +kernel) rfl) pa_nil))))) (pw_or1 (pt_not (pt_truth (pv 0) (by intro _; rfl)))))) (pss_one (ps_raise rfl (takes_of rfl rfl rfl rfl) (pmk_ix xInvalidColumns iInvalidColumns (hr.mono (by decide)) rfl pe_non (by decide) rfl))) pss_nil)
      (pss_one (ps_for (passes_of rfl) rfl (pi_enumT rfl T.enumerate_ (pa_cons (pv 0) pa_nil)) (pg_tup (by rfl) (pgs_cons (pg_name (i := 1) nd rfl (.inl rfl)) (pgs_cons (pg_name (i := 2) nd rfl (.inl rfl)) pgs_nil))) (pss_one (ps_if (PW.pt (pw_or (pt_cmpR (opEq hu64) (pv 1) (C8.pe_gc rfl T.c_MOST_COLUMNS) (nomark _)) (pw_or (pt_not (pt_val (C8.pe_c cis_name hr (by decide) rfl (pa_cons (pv 2) pa_nil)))) (pw_or1 (pt_cmpR opIn (pv 2) (pe_slice slAny (pv 0) po_none (po_some (pv 1))) (by rfl)))))) (pss_one (ps_raise rfl (takes_of rfl rfl rfl rfl) (pmk_ix xInvalidColumns iInvalidColumns (hr.mono (by decide)) rfl (pv 1) (by decide) rfl))) pss_nil))))), ?_⟩
  walk_at "es"
  cases r with
  | @tup a xs ds nn h z ra =>
    refine iteF ?_
    walk_at "e"
    refine ⟨!xs.isEmpty, .inr (.inl ⟨xs, SqT.rd h, rfl⟩), ?_⟩
    cases ra with
    | nil => exact iteT (xmk fun dd H' n s e => kx none rfl dd H' n s e)
    | @cons v1 vs1 d1 ds1 r1 ra =>
      refine iteF ?_
      generalize hxs : v1 :: vs1 = xs at *
      generalize hds : d1 :: ds1 = ds at *
      have ra : RpA p H xs ds := by rw [← hxs, ← hds]; exact .cons r1 ra
      have ce : colsErr (.tuple ds) = (colsBad 0 [] ds).map some := by rw [← hds]; rfl
      refine ⟨_, rfl, a, rfl, ⟨xs, SqT.rd h⟩, for_enumT (xs := xs) (fun i σ H' => ∃ u1 u2 seen, σ = [some (.ref a), u1, u2] ∧ Same H H' ∧ seen.length = i ∧ xs.take i = seen.map V.str ∧ colsBad 0 [] ds = colsBad i seen (ds.drop i))
        ⟨none, none, [], rfl, Same.refl H, rfl, rfl, rfl⟩ (fun i σ H' _ ⟨_, _, _, _, sm, _⟩ => SqT.rd (Rd.same h sm)) ?_ ?_⟩
      · rintro i x t σ H' hi ⟨u1, u2, seen, rfl, sm, sl, e1, e2⟩ ht
        obtain ⟨d, hd, rd⟩ := ra.get hi
        have hdrop : ds.drop i = d :: ds.drop (i + 1) := (List.drop_eq_getElem?_toList_append).trans (by rw [hd]; rfl)
        rw [hdrop] at e2
        have s2 : Same H (upd H' t (.tup [.int ((i : Nat) : Int), x])) := same_tr (same_new ht) sm
        walk_at "es"
        have il := (List.getElem?_eq_some_iff.mp hi).1
        refine ite2 (fun q1 => ?_) (fun q1 => ?_)
        · have i4 : i = 4 := by
            have z := of_decide_eq_true q1
            injection z with z
            omega
          subst i4
          exact iteT ⟨_, rfl, xmk fun dd H2 n s3 e => kx (some _) (by rw [ce, e2, colsBad_4]; rfl) dd H2 (s2.free n) (s2.trans s3) e⟩
        · have i4 : i ≠ 4 := fun z => q1 (by rw [z]; rfl)
          walk_at "e"
          refine ⟨p, x, d, rfl, Rp.keep (ExB.of s2) rd, fun H2 s3 => ?_⟩
          walk_at "es"
          have s4 : Same H H2 := s2.trans s3
          cases q2 : isName d with
          | false => exact iteT (iteT ⟨_, rfl, xmk fun dd H2 n s3 e => kx (some i) (by rw [ce, e2, colsBad_bad q2]; rfl) dd H2 (s4.free n) (s4.trans s3) e⟩)
          | true =>
            refine iteF ?_
            cases rd with
            | str y hy =>
              walk_at "es"
              refine .inr (.inl ⟨_, xs, rfl, SqT.rd (Rd.same h s4), fun hw => ?_, fun _ p2 hp2 => ?_⟩)
              · have z := hw.2
                rw [HT.sIx_nat] at z
                omega
              · rw [cutV_to (by omega), e1]
                refine .inl ⟨p2, _, rfl, .inr (SqT.of upd_same), rfl, flat_str, ?_⟩
                walk_at "es"
                have s5 : Same H (upd H2 p2 (.tup (seen.map V.str))) := same_tr (same_new hp2) s4
                show (if inV (.str y) (seen.map V.str) = true then _ else _)
                rw [inV_str]
                cases q3 : seen.contains y with
                | true => exact iteT ⟨_, rfl, xmk fun dd H2 n s3 e => kx (some i) (by rw [ce, e2, colsBad_in q3]; rfl) dd H2 (s5.free n) (s5.trans s3) e⟩
                | false =>
                  refine iteF ⟨_, _, seen ++ [y], rfl, s5, by rw [List.length_append, sl]; rfl, ?_, ?_⟩
                  · rw [List.take_succ, hi, e1, List.map_append]
                    rfl
                  · rw [e2, colsBad_ok i4 q2 q3]
            | _ => simp [isName] at q2
      · rintro σ H' ⟨u1, u2, seen, rfl, sm, sl, e1, e2⟩
        rw [ra.length, List.drop_length] at e2
        exact kn (by rw [ce, e2]; rfl) H' sm
  | _ => exact iteT (iteT (xmk fun dd H' n s e => kx none rfl dd H' n s e))
end
end Cs
set_option maxHeartbeats 4000000
namespace Cs
open PySem L2 PyProof.Rows
def nameOf : PyData → Option Str
  | .tuple (.str x :: _) => some x
  | _ => none
def rowsBad (n : Nat) : Nat → List Str → List PyData → Option Nat
  | _, _, [] => none
  | i, seen, d :: r => if i = 8 then some i else if isRow n d then (match nameOf d with
    | some x => if seen.contains x then some i else rowsBad n (i + 1) (seen ++ [x]) r
    | none => some i) else some i
def rowsErr (n : Nat) : PyData → Option (Option Nat)
  | .tuple [] => some none
  | .tuple ds => (rowsBad n 0 [] ds).map some
  | _ => some none
theorem isRow_name {n : Nat} {d : PyData} (h : isRow n d = true) : ∃ x r, d = .tuple (.str x :: r) := by
  unfold isRow at h
  split at h
  · rename_i nm ss
    cases nm <;> first | exact ⟨_, _, rfl⟩ | simp [isName] at h
  · cases h
def SpCR (C : Addr) : Sp := fun vs H Q E => ∃ (p : Addr) (vc v : V) (cs : List PyData) (d : PyData), vs = [vc, v] ∧ Rp p H vc (.tuple cs) ∧ Rp p H v d ∧ (rowsErr cs.length d = none → ∀ H', Same H H' → Q .non H') ∧
  ∀ e, rowsErr cs.length d = some e → ∀ dd H', H dd = none → Same H H' → H' dd = some (.xd [("index", idxV e)]) → E (.ref C) (some dd) H'
section
variable {P : Program} {w : World} {K : PySem.W.Frag} {mg : Str → Option Value} {base : Heap}
theorem ok_xinit2 {C fI : Addr} {fd : FuncData} {q : Str} (F : FunD K "__init__" q (defArgs (inClass (topS 12) 0)) (defBody (inClass (topS 12) 0)) (defScope (inClass (topS 12) 0)) [] [] fI fd)
    (T : OexC K C) (no : PySem.W.findIn K (.ref C) "index" = some none) : FnOk P w K mg base CX0 1 fI fd ["self", "index"] (SpXInit C "index") := by
  refine F.ok (N := ["self", "index"]) ⟨rfl, rfl, rfl, by decide +kernel, rfl, by decide +kernel, by decide +kernel⟩ (fun vs H Q E h => by obtain ⟨a, y, rfl, _⟩ := h; rfl) fun cdv A outer s H vs Q E hr h => ?_
  obtain ⟨a, y, rfl, ha, k⟩ := h
  refine ⟨_, PSs.nox (pss_one (ps_ost (pv 0) (pv 1))), ?_⟩
  walk_at "es"
  exact ⟨a, C, rfl, T, no, .inl ⟨ha, fun dx h1 h2 => k dx h1 h2⟩⟩
theorem sc_check_rows : FnScope ["columns", "rows", "names", "index", "row"] ["columns", "rows"] (defScope (topS 35)) := ⟨rfl, rfl, rfl, by decide +kernel, rfl, by decide +kernel, by decide +kernel⟩
theorem ok_check_rows {C : Addr} (D : DefAt K mg "check_rows" (topS 35) ["columns", "rows"]) (T : Txt mg) (c_is_row : C8.Cal P w K mg base 6 "_is_row" SpRow [])
    (xInvalidRows : ExAt K mg "InvalidRows" C "index" (inClass (topS 12) 0)) : CalX P w K mg base 7 "check_rows" (SpCR C) := by
  refine D.calX sc_check_rows (fun vs H Q E h => by obtain ⟨p, vc, v, cs, d, rfl, _⟩ := h; rfl) fun f cdv A outer s H vs Q E hr h => ?_
  obtain ⟨p, vc, v, cs, d, rfl, rc, r, kn, kx⟩ := h
  have nd := sc_check_rows.nd
  have hu64 := hr.units
  have iInvalidRows : ∀ (fI : Addr) (fd : FuncData) (q : Str), FunD K "__init__" q (defArgs (inClass (topS 12) 0)) (defBody (inClass (topS 12) 0)) (defScope (inClass (topS 12) 0)) [] [] fI fd → FnOk P w K mg base CX0 1 fI fd ["self", "index"] (SpXInit C "index") :=
    fun fI fd q F => ok_xinit2 F xInvalidRows.T xInvalidRows.no
  refine ⟨_, (pss_cons (ps_if (PW.pt (pw_or (pt_not (pt_val (pe_callB call_isi (by rfl) T.isinstance_ (by decide +kernel) (pa_cons (pv 1) (pa_cons (pe_bltn (v := .ty "tuple") (u := .type "tuple") (by rfl) T.tuple_ (by decide +kernel) rfl) pa_nil))))) (pw_or1 (pt_not (pt_truth (pv 1) (by intro _; rfl)))))) (pss_one (ps_raise rfl (takes_of rfl rfl rfl rfl) (pmk_ix xInvalidRows iInvalidRows (hr.mono (by decide)) rfl pe_non (by decide) rfl))) pss_nil)
      (pss_cons (ps_set (i := 2) nd rfl (.inl rfl) (pe_lst pa_nil))
      (pss_one (ps_for (passes_of rfl) rfl (pi_enumT rfl T.enumerate_ (pa_cons (pv 1) pa_nil)) (pg_tup (by rfl) (pgs_cons (pg_name (i := 3) nd rfl (.inl rfl)) (pgs_cons (pg_name (i := 4) nd rfl (.inl rfl)) pgs_nil))) (pss_cons (ps_if (PW.pt (pw_or (pt_cmpR (opEq hu64) (pv 3) (C8.pe_gc rfl T.c_MOST_ROWS) (nomark _)) (pw_or (pt_not (pt_val (C8.pe_c c_is_row hr (by decide) rfl (pa_cons (pv 4) (pa_cons (pe_callB call_lenA (by rfl) T.len_ (by decide +kernel) (pa_cons (pv 0) pa_nil)) pa_nil))))) (pw_or1 (pt_cmpR opIn (pe_ix ix_seq (pv 4) pe_int (fun _ _ => rfl)) (pv 2) (by rfl)))))) (pss_one (ps_raise rfl (takes_of rfl rfl rfl rfl) (pmk_ix xInvalidRows iInvalidRows (hr.mono (by decide)) rfl (pv 3) (by decide) rfl))) pss_nil)
      (pss_one (ps_expr (pe_bm PySem.F.plainAttrs_list PySem.F.slot_list_append PySem.F.type_list_append mt_append (pv 2) (pa_cons (pe_ix ix_seq (pv 4) pe_int (fun _ _ => rfl)) pa_nil))))))))), ?_⟩
  refine ⟨_, rfl, _, _, _, _, _, rfl, .ty _, Cs.Rp.ty r, Cs.kit_tup, ?_⟩
  walk_at "es"
  cases rc with
  | @tup ac xc _ nc hc zc rac =>
    cases r with
    | @tup a xs ds nn h z ra =>
      refine iteF ?_
      walk_at "e"
      refine ⟨!xs.isEmpty, .inr (.inl ⟨xs, SqT.rd h, rfl⟩), ?_⟩
      cases ra with
      | nil => exact iteT (xmk fun dd H' n s e => kx none rfl dd H' n s e)
      | @cons v1 vs1 d1 ds1 r1 ra =>
        refine iteF ?_
        generalize hxs : v1 :: vs1 = xs at *
        generalize hds : d1 :: ds1 = ds at *
        have ra : RpA p H xs ds := by rw [← hxs, ← hds]; exact .cons r1 ra
        have ce : rowsErr cs.length (.tuple ds) = (rowsBad cs.length 0 [] ds).map some := by rw [← hds]; rfl
        refine ⟨Nat.zero_le _, fun l hl => ?_⟩
        have s0 : Same H (upd H l (.lst [])) := same_new hl
        refine ⟨_, rfl, a, rfl, ⟨xs, SqT.rd (Rd.same h s0)⟩, for_enumT (xs := xs) (fun i σ H' => ∃ u1 u2 seen, σ = [some (.ref ac), some (.ref a), some (.ref l), u1, u2] ∧ Same H H' ∧ H' l = some (.lst (seen.map V.str)) ∧ seen.length = i ∧ rowsBad cs.length 0 [] ds = rowsBad cs.length i seen (ds.drop i))
          ⟨none, none, [], rfl, s0, upd_same, rfl, rfl⟩ (fun i σ H' _ ⟨_, _, _, _, sm, _⟩ => SqT.rd (Rd.same h sm)) ?_ ?_⟩
        · rintro i x t σ H' hi ⟨u1, u2, seen, rfl, sm, hl', sl, e2⟩ ht
          obtain ⟨d, hd, rd⟩ := ra.get hi
          have hdrop : ds.drop i = d :: ds.drop (i + 1) := (List.drop_eq_getElem?_toList_append).trans (by rw [hd]; rfl)
          rw [hdrop] at e2
          have s2 : Same H (upd H' t (.tup [.int ((i : Nat) : Int), x])) := same_tr (same_new ht) sm
          walk_at "es"
          refine ite2 (fun q1 => ?_) (fun q1 => ?_)
          · have i4 : i = 8 := by
              have z := of_decide_eq_true q1
              injection z with z
              omega
            subst i4
            exact iteT ⟨_, rfl, xmk fun dd H2 n s3 e => kx (some _) (by rw [ce, e2]; simp [rowsBad]) dd H2 (s2.free n) (s2.trans s3) e⟩
          · have i4 : i ≠ 8 := fun z => q1 (by rw [z]; rfl)
            walk_at "e"
            walk_at "e"
            walk_at "e"
            refine ⟨p, x, d, xc.length, rfl, Rp.keep (ExB.of s2) rd, fun H2 s3 => ?_⟩
            have s4 : Same H H2 := s2.trans s3
            have hl2 : H2 l = some (.lst (seen.map V.str)) := s3 _ _ (upd_old ht hl')
            rw [rac.length]
            walk_at "es"
            cases q2 : isRow cs.length d with
            | false => exact iteT (iteT ⟨_, rfl, xmk fun dd H2 n s3 e => kx (some i) (by rw [ce, e2]; simp [rowsBad, i4, q2, idxV]) dd H2 (s4.free n) (s4.trans s3) e⟩)
            | true =>
              refine iteF ?_
              obtain ⟨y, rr, rfl⟩ := isRow_name q2
              cases rd with
              | @tup ar xr _ nr hr2 zr rr =>
                cases rr with
                | @cons v2 vs2 _ _ r2 rr =>
                  cases r2 with
                  | str _ hy =>
                    walk_at "es"
                    refine .inr (.inl ⟨ar, _, 0, V.str y, rfl, rfl, SqT.rd (Rd.same hr2 s4), atI_nat (j := 0) rfl, ?_⟩)
                    walk_at "es"
                    refine And.intro flat_str ?_
                    walk_at "es"
                    show (if inV (.str y) (seen.map V.str) = true then _ else _)
                    rw [inV_str]
                    cases q3 : seen.contains y with
                    | true => exact iteT ⟨_, rfl, xmk fun dd H2 n s3 e => kx (some i) (by rw [ce, e2]; simp only [rowsBad, q2, nameOf, q3, if_neg i4]; rfl) dd H2 (s4.free n) (s4.trans s3) e⟩
                    | false =>
                      refine iteF ?_
                      walk_at "e"
                      refine And.intro (.inl ⟨rfl, _, SqL.of hl2⟩) ?_
                      walk_at "e"
                      refine .inr (.inl ⟨ar, _, 0, V.str y, rfl, rfl, SqT.rd (Rd.same hr2 s4), atI_nat (j := 0) rfl, ?_⟩)
                      refine ⟨l, _, _, rfl, rfl, hl2, ?_, ?_⟩
                      · rw [List.length_map, sl]
                        exact Nat.lt_of_lt_of_le (Nat.lt_of_lt_of_le (List.getElem?_eq_some_iff.mp hi).1 z) (by decide)
                      · have nl : ∀ b o, H b = some o → b ≠ l := fun b o e => ne_of_none e hl
                        refine ⟨_, _, seen ++ [y], rfl, fun b o e => ?_, ?_, by rw [List.length_append, sl]; rfl, ?_⟩
                        · rw [upd_ne (nl b o e)]
                          exact s4 _ _ e
                        · rw [upd_same, List.map_append]
                          rfl
                        · rw [e2]
                          simp only [rowsBad, q2, nameOf, q3, if_neg i4]
                          rfl
        · rintro σ H' ⟨u1, u2, seen, rfl, sm, hl', sl, e2⟩
          rw [ra.length, List.drop_length] at e2
          exact kn (by rw [ce, e2]; rfl) H' sm
    | _ => exact iteT (iteT (xmk fun dd H' n s e => kx none rfl dd H' n s e))
end
end Cs
set_option maxHeartbeats 4000000
/-! Rules of my own: isinstance and fields of a caught error that keeps something, also in a def called in the suite; three classes in one except. -/
namespace Cs
open PySem L2 PyProof.Rows
open PySem.W (KitX InstAt)
theorem cs_check {M : Model} {A : Around} {E : Value → Shared → Prop} {s : Shared} {self u : Value} {i o n : String} {Q : Unit → Shared → Prop} (k2 : builtinKind i = some Manifest.AttrKind.slot)
    (k3 : splitId i = some (o, n)) (sub : PySem.W.Looks M s.heap (isInstance self (.type o)) true) (ao : argsOk i ⟨[self, u], []⟩) (q : Q () s) : wpAny M A (checkBuiltinCall i ⟨[self, u], []⟩) Q E s :=
  PySem.W.check_slot k2 k3 sub ao q
theorem cs_classX {prog : Program} {w : World} {A : Around} {E : Value → Shared → Prop} {s : Shared} {K : PySem.W.Frag} {x D : Addr} {ox od : Obj} {Q : Option Value → Shared → Prop} (C : ExcC K D)
    (X : K.In s.heap) (I : InstAt s.heap x ox D (some od)) (h : Q (some (.ref D)) { s with toks := s.toks + 1 }) : wpAny (model prog w) A (getAttr? (.ref x) "__class__") Q E s := by
  have hf : PySem.W.findObj K D (some od) "__class__" = _ := PySem.W.findObj_data (by
    obtain ⟨cd, hc, _⟩ := PySem.W.any_some C.hd
    rw [hc]; rfl) C.ha C.hn C.ht
  obtain ⟨hp, g, d, t, os⟩ := s
  have L0 := fun M => InstAt.type (M := M) I
  have L1 := fun M => PySem.W.looks_findIn (M := M) X C.hg
  have L2 := fun M => PySem.W.looks_findIn (M := M) X C.hk
  have L3 := fun M => PySem.W.looks_find (M := M) X I hf
  have sub : PySem.W.Looks (model prog w) hp (isInstance (.ref x) (.type "BaseException")) true := PySem.W.Looks.andThen (L0 (model prog w)) (PySem.W.looks_subIn X C.hs)
  refine wpAny_bind (wpAny_mkText ?_)
  refine wpAny_bind (wpAny_attempt (wpAny_holding (wpAny_bind ((L0 _).at (wpAny_bind ((L1 _).at ?_))))))
  have hx1 : (onTheHeap (.ref D) && (Value.builtin "BaseException.__getattribute__" == Value.builtin "object.__getattribute__")) = false := by
    rw [PySem.W.kin_classE._proof_1, Bool.and_false]
  dsimp only
  rw [hx1, if_neg Bool.false_ne_true]
  refine wpAny_bind ?_
  unfold hookBefore
  rw [if_pos (by rfl)]
  refine (L2 _).at (wpAny_bind (wpAny_attempt (wpAny_holding ?_)))
  dsimp only [Option.toList]
  unfold callGetattribute
  rw [if_neg (by decide)]
  unfold boundAndCalled
  refine wpAny_bind ?_
  rw [F.excAttr_ValueError.ga.bind (.ref x)]
  refine wpAny_pure ?_
  refine wpAny_call ?_
  refine codeAny_call_builtin F.excAttr_ValueError.ga.plain F.entry_bexc_ga ?_
  dsimp only [List.cons_append, List.nil_append]
  have ao := F.args_bexc_ga (.ref x) (.str "__class__" t)
  have z := fun Q E => @cs_check (model prog w) A.in1 E ⟨hp, g, d, t + 1, os⟩ (.ref x) (.str "__class__" t) _ _ _ Q PySem.W.kin_classE._proof_2 PySem.W.kin_classE._proof_3 sub ao
  refine z _ _ ?_
  refine wpAny_bind (wpAny_of_eq (Eq.refl (slotArgs "__getattribute__" 1 ⟨[.ref x, .str "__class__" t], []⟩)) (wpAny_bind (wpAny_pure ?_)))
  refine wpAny_bind ((L0 _).at ?_)
  refine wpAny_bind ((L3 _).at ?_)
  refine wpAny_bind (wpAny_holding ?_)
  refine wpAny_call (PySem.W.class_get X I C.hm (wpAny_pure ?_))
  dsimp only
  rw [PySem.W.handedOut_of rfl]
  exact wpAny_pure (wpAny_pure h)
theorem cs_cls {K : PySem.W.Frag} {D : Addr} (h : PySem.W.hasDictIn K D = true) : ∃ cls dict cd sl, K.lookup D = some ⟨cls, dict, .cls cd, sl⟩ := by
  obtain ⟨cd, hc, _⟩ := PySem.W.any_some h
  unfold PySem.W.clsIn at hc
  split at hc
  · rename_i e
    exact ⟨_, _, _, _, e⟩
  · cases hc
theorem cs_kitx {K : PySem.W.Frag} {x D : Addr} {ox od : Obj} (C : ExcC K D) : KitX K (.ref x) (.ref D) fun h => InstAt h x ox D (some od) := by
  obtain ⟨cls, dict, cd, sl, e⟩ := cs_cls C.hd
  refine ⟨fun M h X I => I.type, fun M h X _ A Q E s k q => ?_, fun h tp dd its n sl' X ht => ?_, fun X I q => cs_classX C X I q⟩
  · exact wpAny_bind (wpAny_loadPart (k D _ (X D _ e)) (wpAny_pure q))
  · refine Bool.eq_false_iff.mpr fun q => ?_
    have e1 := Value.ref.inj (beq_iff_eq.mp q)
    subst e1
    rw [X D _ e] at ht
    cases ht
/-- a caught error of the class C, whose own dict stands at dd, is pinned at a -/
def ExPin (X : Cx) (a C dd : Addr) : Prop := ∃ oe, (a, oe) ∈ X.pn ∧ Zc (.ref C) (some dd) oe ∧ ∃ vs, oe.data = .fields vs
theorem ExPin.inst {X : Cx} {a C dd : Addr} (P : ExPin X a C dd) {pins : List (Addr × Obj)} {s : Shared} {σ : L2.St} {H : Hp} (I : L2.Inv X pins σ H s) {fs : List (Str × V)} (h : H dd = some (.xd fs)) :
    ∃ ox od, InstAt s.heap a ox C (some od) ∧ ∀ f v, fs.lookup f = some v → ∃ u, PySem.W.lookIn f od = some (some u) ∧ RelV v u := by
  obtain ⟨oe, hm, ⟨hc, hd⟩, vs, hv⟩ := P
  obtain ⟨hg, _⟩ := I.pin (a, oe) (List.mem_append_left pins hm)
  obtain ⟨mA, hns, hr⟩ := I.hok dd _ h
  obtain ⟨od, ho, hl⟩ := lookIn_ns hns
  refine ⟨oe, od, ⟨hg, hc, ?_, ?_⟩, fun f v hf => ?_⟩
  · unfold PySem.W.notCls
    rw [hv]
  · rw [hd]
    exact ho
  · have r := hr f
    rw [hf] at r
    obtain ⟨u, e, ru⟩ := RelO.some_of r
    exact ⟨u, by rw [hl f, e], ru⟩
section
variable {X : Cx} {a C dd : Addr}
def rIsX (K : PySem.W.Frag) (C a dd : Addr) : List V → Hp → VK → Prop := fun xs H Q => ∃ (c : V) (cv : Value) (b : Bool) (fs : List (Str × V)), xs = [.ref a, c] ∧ ClsV c cv ∧ H dd = some (.xd fs) ∧ PySem.W.kitOne K (.ref C) cv = some b ∧ Q (.bl b) H
theorem call_isX (P : ExPin X a C dd) (T : ExcC X.K C) : CallR X (.builtin "isinstance") (rIsX X.K C a dd) := by
  rintro pins s σ H xs us Q I r ⟨c, cv, b, fs, rfl, hc, hd, e, q⟩
  obtain ⟨ox, od, i, _⟩ := P.inst I hd
  obtain ⟨u1, u2, rfl, r1, r2⟩ := vals2 r
  have e2 := hc.eq r2
  subst e2
  cases r1
  exact PySem.W.kia_one (cs_kitx T) I.kIn i e (by intro z; cases z) fun tk => ⟨.bl b, H, I.tok tk, rfl, q⟩
def tXfX (a dd : Addr) (f : Str) (te : TE) : TE := fun σ H Q => te σ H fun x H1 => x = .ref a ∧ ∃ (fs : List (Str × V)) (v : V), H1 dd = some (.xd fs) ∧ fs.lookup f = some v ∧ Q v H1
theorem pe_xfX {e : Expr} {te : TE} {pos : Pos} {n : Str} (P : ExPin X a C dd) (T : XfC X.K C) (hno : PySem.W.findIn X.K (.ref C) n = some none) (he : PE X e te)
    (hb : attributeBase e n X.env (eval e X.env) = eval e X.env := by rfl) : PE X (.Attribute e n pos) (tXfX a dd n te) := by
  refine ⟨fun pins s σ H Q I h => attr_of hb (thn (he.run pins s σ H _ I h) ?_)⟩
  rintro u s1 ⟨x, H1, I1, rx, rfl, fs, v, hd, hf, q⟩
  cases rx
  obtain ⟨ox, od, i, k⟩ := P.inst I1 hd
  obtain ⟨u, hl, ru⟩ := k n v hf
  exact PySem.HandSPX.exc_get I1.kIn i T.ga T.gg T.exC (PySem.W.findObj_own T.hdC hno rfl hl) (handed_of ru) ⟨v, H1, I1.tok _, ru, q⟩
end
end Cs
set_option maxHeartbeats 4000000
/-! A def called in an except suite with the caught error: its promise may speak of the error. Three classes in one except. -/
namespace Cs
open PySem L2 L2H PyProof.Rows
structure FnE (P : Program) (w : World) (K : PySem.W.Frag) (mg : Str → Option Value) (base : Heap) (k : Nat) (f : Addr) (fd : FuncData) (ps : List Str) (sp : Addr × Obj → Sp) : Prop where
  len : ∀ p vs H Q E, sp p vs H Q E → vs.length = ps.length
  run : ∀ (A : Around) (outer : List Env) (s : Shared) (H : Hp) (args : Args) (us : List Value) (vs : List V) (Q : VK) (E : XK) (p : Addr × Obj),
    RoomH k A → PinOk outer H s p → Env0 P w K mg base A outer s H → BindsTo s fd args (ps.zip us) → Vals vs us → sp p vs H Q E → codeAny (model P w) A (.call (.ref f) args) (CR CX0 outer P w H s Q E) s
theorem fn_ofE {P : Program} {w : World} {K : PySem.W.Frag} {mg : Str → Option Value} {base : Heap} {k : Nat} {f : Addr} {name qual : Str} {params : Arguments} {body : List Stmt} {scope : Scope}
    {dV kV doc pm cdv ct oc : Value} {an od : Option Addr} {osl : Array (Option Value)} {N ps : List Str} {sp : Addr × Obj → Sp}
    (lk : K.lookup f = some ⟨oc, od, .func (PySem.W.fnOf name qual params body scope dV kV doc pm an cdv ct), osl⟩) (hcd : PySem.W.codeIn K cdv qual = true) (S : FnScope N ps scope)
    (len : ∀ p vs H Q E, sp p vs H Q E → vs.length = ps.length)
    (hbody : ∀ (A : Around) (outer : List Env) (s : Shared) (H : Hp) (vs : List V) (Q : VK) (E : XK) (p : Addr × Obj), RoomH k (A.deeper (envOfC qual scope s.heap.objs.size f cdv)) → sp p vs H Q E →
      ∃ t, PSs (cxH CX0 P w K mg base N qual scope f cdv A outer s H E p) body t ∧ t { nx := fun _ H' => Q .non H', rt := Q } (L2.start N vs) H) :
    FnE P w K mg base (k + 1) f (PySem.W.fnOf name qual params body scope dV kV doc pm an cdv ct) ps sp := by
  refine ⟨len, fun A outer s H args us vs Q E p hr hpin e0 hb r hsp => ?_⟩
  have hl := len p vs H Q E hsp
  have KX := PySem.W.Frag.In.keeps e0.mod.kin fun b o e => (e0.bs b o e).1
  have lim := Heap.NoLimit.keeps e0.mod.nolimit fun b o e => (e0.bs b o e).1
  refine codeAny_call_function hr.depth (KX f _ lk) rfl S.co S.gen rfl (PySem.W.codeRec_of KX hcd) ?_
  refine hb (model P w) A.in1 _ _ ?_
  refine wpAny_newFunctionEnv_cells S.kind (fun y hy => ?_) fun env he s1 x => ?_
  · obtain ⟨n, v⟩ := y
    rcases S.par n (List.of_mem_zip hy).1 with q | q
    · exact .inl q
    · exact .inr ⟨q, PySem.W.cellsFrom_some scope.names (s.heap.objs.size + 1) [] (.inl q)⟩
  · subst he
    refine ⟨lim.keeps x.toInCall.keep, codeAny_func ?_⟩
    obtain ⟨t, ht, hq⟩ := hbody A outer s H vs Q E p (hr.deeper _) hsp
    have I := inv_startH (CX := CX0) (w := w) (E := E) S hpin e0 hl r x
    refine wpAny_mono (ht.run [] s1 (L2.start N vs) H _ I hq) (fun fl s' hs => ?_) (fun e s' hs => hs)
    cases fl with
    | next =>
      obtain ⟨σ', H', J, q⟩ := hs
      exact ⟨V.non, H', J.os, J.bare, J.base, J.hok, rfl, q⟩
    | brk =>
      obtain ⟨_, _, _, q⟩ := hs
      exact q.elim
    | cont =>
      obtain ⟨_, _, _, q⟩ := hs
      exact q.elim
    | ret u =>
      obtain ⟨v, σ', H', J, rv, q⟩ := hs
      exact ⟨v, H', J.os, J.bare, J.base, J.hok, rv, q⟩
section
variable {X : Cx}
theorem pe_callE {k : Nat} {f : Addr} {fd : FuncData} {ps : List Str} {sp : Addr × Obj → Sp} {x : Str} {q pos : Pos} {e : Expr} {es : List Expr} {t : TA} {p : Addr × Obj}
    (F : FnE X.prog X.w X.K X.mg X.base k f fd ps sp) (hr : RoomH k X.A) (hp : p ∈ X.pn) (hg : Gl X x) (hm : X.mg x = some (.ref f)) (hk : PySem.W.keepIn X.K (.ref f) = true) (hb : Binds X.K fd ps [])
    (ha : PA X (e :: es) t) (hdb : (x == ("__debug__" : Str)) = false := by rfl) (he : starEach (e :: es) X.env = (false, eval e X.env) :: starEach es X.env := by rfl)
    (hpl : ((backTo pos (starEach es X.env)).any fun x => x.1) = false := by rfl) : PE X (.Call (.Name x q) (e :: es) [] pos) (fun σ H Q => t σ H fun vs H1 => sp p vs H1 Q fun _ _ _ => False) := by
  refine ⟨fun pins s σ H Q I h => wpAny_Call_Name_kw (ld_glob I hg hm (PySem.W.callWith_K I.ok.mod.kin hk (thn (ha.run pos pins s σ H _ I h) ?_) he hpl) hdb)⟩
  rintro us s1 ⟨vs, H1, I1, r, q1⟩
  refine ⟨I1.kIn, ?_⟩
  have hl : us.length = ps.length := by
    rw [← r.length]
    exact F.len p vs H1 Q _ q1
  have b := hb s1 us I1.kIn (by rw [List.append_nil]; exact hl)
  have P1 := I1.pin p (List.mem_append_left pins hp)
  have hpin : PinOk X.stack H1 s1 p := ⟨P1.1, P1.2.1, fun hm => (List.mem_cons.mp (I1.stkSub p.1 hm)).elim P1.2.2.1 P1.2.2.2.1, P1.2.2.2.2⟩
  rw [List.append_nil] at b
  refine wpAny_call (codeAny_mono (F.run X.A X.stack s1 H1 ⟨us, []⟩ us vs Q _ p hr hpin I1.env0 b r q1) fun rr s' hq => ?_)
  cases rr with
  | error e => exact hq.elim
  | ok fl =>
    cases fl with
    | next => exact hq.elim
    | brk => exact hq.elim
    | cont => exact hq.elim
    | ret u => exact I1.after hq
end
theorem funFrames_keep {h h' base : Heap} (k : ∀ b o, h.get? b = some o → h'.get? b = some o) : ∀ {l : List Env}, h.FunFrames base l → h'.FunFrames base l
  | [], f => f
  | e :: l, f => by
    unfold Heap.FunFrames at f ⊢
    obtain ⟨f1, ⟨L, o, e1, e2, e3, e4⟩, f3⟩ := f
    exact ⟨f1, ⟨L, o, e1, e2, k _ _ e3, e4⟩, funFrames_keep k f3⟩
theorem flying_keep {base h h' : Heap} {l : List Env} {e : Addr} {Z : Obj → Prop} (F : HandSPX.FlyingZ base l e Z h) (k : ∀ b o, h.get? b = some o → h'.get? b = some o) : HandSPX.FlyingZ base l e Z h' := by
  obtain ⟨f1, f2, f3, oe, vs, T, oT, ts, g1, g2, g3, g4, g5, g6, g7, g8, g9⟩ := F
  exact ⟨fun b o q => k _ _ (f1 b o q), f2, funFrames_keep k f3, oe, vs, T, oT, ts, k _ _ g1, g2, g3, g4, g5, g6, k _ _ g7, g8, g9⟩
theorem upTo_keep {h h' : Heap} (k : ∀ b o, h.get? b = some o → h'.get? b = some o) : h.UpToSlots h' := fun b o e _ => ⟨o.slots, k b o e⟩
def wAs3 (K : PySem.W.Frag) (cs : List Value) (m i : Nat) (ts : Addr → Value → Option Addr → TS) (D : Ends) : WX := fun cls d σ H => σ.length = m → PySem.W.exmAny K cls cs = some true ∧ ∀ a, H a = none →
  ts a cls d { nx := fun σ' H' => D.nx (σ'.set i none) H', rt := D.rt, bk := fun σ' H' => D.bk (σ'.set i none) H', ct := fun σ' H' => D.ct (σ'.set i none) H' } (σ.set i (some (.ref a))) H
theorem name_ok {X : Cx} {x : Str} {c : Value} (hc : Names X x c) {a : Addr} {pn : List (Addr × Obj)} {pins : List (Addr × Obj)} {s : Shared} {σ : L2.St} {H : Hp} (I : L2.Inv (X.suite a pn) pins σ H s)
    {p : Pos} {Q : Value → Shared → Prop} {E : Value → Shared → Prop} (q : Q c s) : wpAny (model X.prog X.w) (X.A.mark (some (.ref a))) (eval (.Name x p) X.env) Q E s := by
  obtain ⟨hg, hd, hm | ⟨hm, hv, hn⟩⟩ := hc
  · exact ld_glob I hg hm q hd
  · exact ld_blt I hg hm hv q hn hd
theorem ps_try_as3 {X : Cx} {x1 x2 x3 n : Str} {c1 c2 c3 : Value} {i : Nat} {body suite : List Stmt} {b₀ : Stmt} {p1 p2 p3 tp pos pos' : Pos} {kk m : Nat} {tb : WX → TS} {ts : Addr → Value → Option Addr → TS}
    (hs : X.stack = X.env :: X.outer) (hf : X.env.frame = some X.env.locals) (hN : X.N.Nodup) (hi : X.N[i]? = some n) (hln : X.env.kindOf n = some .local)
    (hm : X.N.length = m) (hc1 : Names X x1 c1) (hc2 : Names X x2 c2) (hc3 : Names X x3 c3)
    (hb : ∀ (W : WX) (pn : List (Addr × Obj)) (xe : Value → Shared → Prop), Takes (X.tr pn xe) W → PassesOwn (model X.prog X.w) X.A X.env xe → PSs (X.tr pn xe) body (tb W))
    (hsu : ∀ (a : Addr) (oe : Obj) (cls : Value) (d : Option Addr) (pn : List (Addr × Obj)), Zc cls d oe → (∃ vs, oe.data = .fields vs) → PSs (X.suite a ((a, oe) :: pn)) (b₀ :: suite) (ts a cls d)) :
    PS X (.Try body [.ExceptHandler (some (.Tuple [.Name x1 p1, .Name x2 p2, .Name x3 p3] kk tp)) (some n) (b₀ :: suite) pos'] [] [] pos) (fun D σ H => tb (wAs3 X.K [c1, c2, c3] m i ts D) D σ H) := by
  refine ⟨fun pins s σ H D I h => ?_⟩
  have ok := I.ok
  have hfr : X.A.frames = some (X.env :: X.outer) := by rw [ok.frames, hs]
  refine wpAny_Try_except (wpAny_mono ((hb (wAs3 X.K [c1, c2, c3] m i ts D) (X.pn ++ pins) _ ?_ PassesOwn.looking).run [] s σ H D (I.toTry _) h) (fun f s1 hsp => ?_) (fun e s1 he => he))
  · rintro u s' ⟨a, B, sI, pins', σ', H', cls, d, rfl, J', nb, up, sky, na, os, ag, hW⟩
    obtain ⟨hb1, hyes⟩ := hW (J'.len.trans hm)
    have J := J'.ofTry ok
    have sky' : L2.Sky B (X.env :: X.outer) a (Zc cls d) X.env.locals s'.heap := by
      rw [← hs]
      exact sky
    refine L2.Sky.land Zc.steady hfr hf sky' fun h3 fl3 up3 => ?_
    have J3 : L2.Inv X pins σ' H' { s' with heap := h3 } := J.landed nb fl3.1 (up.trans up3) os ag
    obtain ⟨oe3, vs3, he3, hz3, hd3⟩ := fl3.there
    have nfr : a ∉ frs (X.env :: X.outer) := fun hm => by
      obtain ⟨_, o', e', hnf⟩ := Heap.FunFrames.mem fl3.2.2.1 hm
      have e2 := e'.symm.trans he3
      cases e2
      exact hnf vs3 hd3
    have nL : a ≠ X.env.locals := fun z => nfr (List.mem_filterMap.mpr ⟨X.env, List.mem_cons_self, by rw [hf, z]⟩)
    have nF : a ∉ X.fs := fun hm => by
      obtain ⟨e, he, q⟩ := List.mem_filterMap.mp hm
      exact nfr (List.mem_filterMap.mpr ⟨e, List.mem_cons_of_mem _ he, q⟩)
    have S3 := J3.suite he3 hd3 na nL nF
    refine wpAny_handleBy_cons (codeAny_handlers_test ?_) (by intro q; cases q)
    refine wpAny_Tuple ?_
    refine Calls.spliced_cons (name_ok hc1 S3 (Calls.spliced_cons (name_ok hc2 S3 (Calls.spliced_cons (name_ok hc3 S3 (Calls.spliced_nil ?_))))))
    refine ⟨(by show 3 ≤ sizeLine; decide), ?_⟩
    have kp : ∀ b o, h3.get? b = some o → (h3.push { cls := .type "tuple", data := .seq #[c1, c2, c3] }).get? b = some o := fun b o e => Heap.get?_push_of_some _ e
    have fl5 := flying_keep fl3 kp
    have up5 := upTo_keep kp
    have LT : PySem.W.Looks (model X.prog X.w) (h3.push { cls := .type "tuple", data := .seq #[c1, c2, c3] }) (typeOf (.ref a)) cls := fun A Q E s k q => wpAny_typeOf_ref (k a oe3 (kp _ _ he3)) (by
      rw [hz3.1]
      exact q)
    have K5 : X.K.In (h3.push { cls := .type "tuple", data := .seq #[c1, c2, c3] }) := PySem.W.Frag.In.keeps J3.kIn kp
    have LM := PySem.W.exm_tup3 K5 LT (Heap.get?_push_size h3 rfl) hb1
    refine PySem.W.Looks.here LM ?_
    refine codeAny_handlers_suite_as (HandSPX.lands_againZ fl5 fun h4 fl4 up4 => ?_)
    have J4 : L2.Inv X pins σ' H' { s' with heap := h4 } := J.landed nb fl4.1 (((up.trans up3).trans up5).trans up4) os ag
    obtain ⟨oe4, vs4, he4, hz4, hd4⟩ := fl4.there
    have S4 := J4.suite he4 hd4 na nL nF
    refine store_ok (X := X.suite a ((a, oe4) :: (X.pn ++ pins))) (pins := []) (σ := σ') (H := H') (v := .ref a) S4 hN hi (.inl hln) rfl (fun s5 S5 => ?_) (.inr hln)
    refine wpAny_mono ((hsu a oe4 cls d (X.pn ++ pins) hz4 ⟨vs4, hd4⟩).run [] s5 _ H' _ S5 (hyes a na)) (fun f s6 hsp => ?_) (fun _ _ z => z.elim)
    cases f with
    | next =>
      obtain ⟨σ6, H6, S6, q6⟩ := hsp
      exact gone_ok (S6.unsuite ok) hN hi hln fun s7 J7 => ⟨_, H6, J7, q6⟩
    | brk =>
      obtain ⟨σ6, H6, S6, q6⟩ := hsp
      exact gone_ok (S6.unsuite ok) hN hi hln fun s7 J7 => ⟨_, H6, J7, q6⟩
    | cont =>
      obtain ⟨σ6, H6, S6, q6⟩ := hsp
      exact gone_ok (S6.unsuite ok) hN hi hln fun s7 J7 => ⟨_, H6, J7, q6⟩
    | ret u =>
      obtain ⟨v6, σ6, H6, S6, r6, q6⟩ := hsp
      exact gone_ok (S6.unsuite ok) hN hi hln fun s7 J7 => ⟨v6, _, H6, J7, r6, q6⟩
  · cases f with
    | next =>
      obtain ⟨σ', H', J', q⟩ := hsp
      exact wpAny_execs_nil ⟨σ', H', J'.ofTry ok, q⟩
    | brk =>
      obtain ⟨σ', H', J', q⟩ := hsp
      exact ⟨σ', H', J'.ofTry ok, q⟩
    | cont =>
      obtain ⟨σ', H', J', q⟩ := hsp
      exact ⟨σ', H', J'.ofTry ok, q⟩
    | ret u =>
      obtain ⟨v, σ', H', J', r, q⟩ := hsp
      exact ⟨v, σ', H', J'.ofTry ok, r, q⟩
theorem pe_weak {X : Cx} {e : Expr} {t t' : TE} (h : PE X e t) (w : ∀ σ H Q, t' σ H Q → t σ H Q) : PE X e t' := ⟨fun pins s σ H Q I q => h.run pins s σ H Q I (w σ H Q q)⟩
end Cs
set_option maxHeartbeats 4000000
/-! CsHot's defs, for callers that show nothing just now. -/
namespace Cs
open PySem L2 L2H PyProof.Rows
structure FnEG (P : Program) (w : World) (K : PySem.W.Frag) (mg : Str → Option Value) (base : Heap) (k : Nat) (f : Addr) (fd : FuncData) (ps : List Str) (sp : Addr × Obj → Sp) : Prop where
  len : ∀ p vs H Q E, sp p vs H Q E → vs.length = ps.length
  run : ∀ (A : Around) (outer : List Env) (s : Shared) (H : Hp) (args : Args) (us : List Value) (vs : List V) (Q : VK) (E : XK) (p : Addr × Obj),
    A.guards = some [] → RoomH k A → PinOk outer H s p → Env0 P w K mg base A outer s H → BindsTo s fd args (ps.zip us) → Vals vs us → sp p vs H Q E → codeAny (model P w) A (.call (.ref f) args) (CR CX0 outer P w H s Q E) s
theorem fn_ofEG {P : Program} {w : World} {K : PySem.W.Frag} {mg : Str → Option Value} {base : Heap} {k : Nat} {f : Addr} {name qual : Str} {params : Arguments} {body : List Stmt} {scope : Scope}
    {dV kV doc pm cdv ct oc : Value} {an od : Option Addr} {osl : Array (Option Value)} {N ps : List Str} {sp : Addr × Obj → Sp}
    (lk : K.lookup f = some ⟨oc, od, .func (PySem.W.fnOf name qual params body scope dV kV doc pm an cdv ct), osl⟩) (hcd : PySem.W.codeIn K cdv qual = true) (S : FnScope N ps scope)
    (len : ∀ p vs H Q E, sp p vs H Q E → vs.length = ps.length)
    (hbody : ∀ (A : Around) (outer : List Env) (s : Shared) (H : Hp) (vs : List V) (Q : VK) (E : XK) (p : Addr × Obj), A.guards = some [] → RoomH k (A.deeper (envOfC qual scope s.heap.objs.size f cdv)) → sp p vs H Q E →
      ∃ t, PSs (cxH CX0 P w K mg base N qual scope f cdv A outer s H E p) body t ∧ t { nx := fun _ H' => Q .non H', rt := Q } (L2.start N vs) H) :
    FnEG P w K mg base (k + 1) f (PySem.W.fnOf name qual params body scope dV kV doc pm an cdv ct) ps sp := by
  refine ⟨len, fun A outer s H args us vs Q E p hg hr hpin e0 hb r hsp => ?_⟩
  have hl := len p vs H Q E hsp
  have KX := PySem.W.Frag.In.keeps e0.mod.kin fun b o e => (e0.bs b o e).1
  have lim := Heap.NoLimit.keeps e0.mod.nolimit fun b o e => (e0.bs b o e).1
  refine codeAny_call_function hr.depth (KX f _ lk) rfl S.co S.gen rfl (PySem.W.codeRec_of KX hcd) ?_
  refine hb (model P w) A.in1 _ _ ?_
  refine wpAny_newFunctionEnv_cells S.kind (fun y hy => ?_) fun env he s1 x => ?_
  · obtain ⟨n, v⟩ := y
    rcases S.par n (List.of_mem_zip hy).1 with q | q
    · exact .inl q
    · exact .inr ⟨q, PySem.W.cellsFrom_some scope.names (s.heap.objs.size + 1) [] (.inl q)⟩
  · subst he
    refine ⟨lim.keeps x.toInCall.keep, codeAny_func ?_⟩
    obtain ⟨t, ht, hq⟩ := hbody A outer s H vs Q E p hg (hr.deeper _) hsp
    have I := inv_startH (CX := CX0) (w := w) (E := E) S hpin e0 hl r x
    refine wpAny_mono (ht.run [] s1 (L2.start N vs) H _ I hq) (fun fl s' hs => ?_) (fun e s' hs => hs)
    cases fl with
    | next =>
      obtain ⟨σ', H', J, q⟩ := hs
      exact ⟨V.non, H', J.os, J.bare, J.base, J.hok, rfl, q⟩
    | brk =>
      obtain ⟨_, _, _, q⟩ := hs
      exact q.elim
    | cont =>
      obtain ⟨_, _, _, q⟩ := hs
      exact q.elim
    | ret u =>
      obtain ⟨v, σ', H', J, rv, q⟩ := hs
      exact ⟨v, H', J.os, J.bare, J.base, J.hok, rv, q⟩
section
variable {X : Cx}
theorem pe_callEG {k : Nat} {f : Addr} {fd : FuncData} {ps : List Str} {sp : Addr × Obj → Sp} {x : Str} {q pos : Pos} {e : Expr} {es : List Expr} {t : TA} {p : Addr × Obj}
    (F : FnEG X.prog X.w X.K X.mg X.base k f fd ps sp) (hG : X.A.guards = some []) (hr : RoomH k X.A) (hp : p ∈ X.pn) (hg : Gl X x) (hm : X.mg x = some (.ref f)) (hk : PySem.W.keepIn X.K (.ref f) = true) (hb : Binds X.K fd ps [])
    (ha : PA X (e :: es) t) (hdb : (x == ("__debug__" : Str)) = false := by rfl) (he : starEach (e :: es) X.env = (false, eval e X.env) :: starEach es X.env := by rfl)
    (hpl : ((backTo pos (starEach es X.env)).any fun x => x.1) = false := by rfl) : PE X (.Call (.Name x q) (e :: es) [] pos) (fun σ H Q => t σ H fun vs H1 => sp p vs H1 Q fun _ _ _ => False) := by
  refine ⟨fun pins s σ H Q I h => wpAny_Call_Name_kw (ld_glob I hg hm (PySem.W.callWith_K I.ok.mod.kin hk (thn (ha.run pos pins s σ H _ I h) ?_) he hpl) hdb)⟩
  rintro us s1 ⟨vs, H1, I1, r, q1⟩
  refine ⟨I1.kIn, ?_⟩
  have hl : us.length = ps.length := by
    rw [← r.length]
    exact F.len p vs H1 Q _ q1
  have b := hb s1 us I1.kIn (by rw [List.append_nil]; exact hl)
  have P1 := I1.pin p (List.mem_append_left pins hp)
  have hpin : PinOk X.stack H1 s1 p := ⟨P1.1, P1.2.1, fun hm => (List.mem_cons.mp (I1.stkSub p.1 hm)).elim P1.2.2.1 P1.2.2.2.1, P1.2.2.2.2⟩
  rw [List.append_nil] at b
  refine wpAny_call (codeAny_mono (F.run X.A X.stack s1 H1 ⟨us, []⟩ us vs Q _ p hG hr hpin I1.env0 b r q1) fun rr s' hq => ?_)
  cases rr with
  | error e => exact hq.elim
  | ok fl =>
    cases fl with
    | next => exact hq.elim
    | brk => exact hq.elim
    | cont => exact hq.elim
    | ret u => exact I1.after hq
end
end Cs
set_option maxHeartbeats 4000000
/-! Expressions that are data: what they tell, while the pail at p and all else stand. -/
namespace Cs
open PySem L2 PyProof.Rows
def Has (p : Addr) (H : Hp) : Prop := ∃ o, H p = some o
theorem Has.keep {p : Addr} {H H' : Hp} (h : Has p H) (s : Same H H') : Has p H' := by
  obtain ⟨o, e⟩ := h
  exact ⟨o, s _ _ e⟩
theorem Has.ne {p t : Addr} {H : Hp} (h : Has p H) (n : H t = none) : t ≠ p := by
  obtain ⟨o, e⟩ := h
  intro z
  rw [z, e] at n
  cases n
abbrev DF := L2.St → Hp → PyData → Prop
abbrev DFs := L2.St → Hp → List PyData → Prop
def tDat (p : Addr) (f : DF) : TE := fun σ H Q => Has p H ∧ ∃ d, f σ H d ∧ ∀ v H', Same H H' → Rp p H' v d → Q v H'
def tDats (p : Addr) (f : DFs) : TA := fun σ H Q => Has p H ∧ ∃ ds, f σ H ds ∧ ∀ vs H', Same H H' → RpA p H' vs ds → Q vs H'
theorem tdat {p : Addr} {f : DF} {σ : L2.St} {H : Hp} {Q : VK} {d : PyData} (hp : Has p H) (hf : f σ H d) (k : ∀ v H', Same H H' → Rp p H' v d → Q v H') : tDat p f σ H Q := ⟨hp, d, hf, k⟩
structure PD (X : Cx) (e : Expr) (p : Addr) (f : DF) : Prop where
  pe : PE X e (tDat p f)
  mono : ∀ σ H H' d, Same H H' → f σ H d → f σ H' d
structure PDs (X : Cx) (es : List Expr) (p : Addr) (f : DFs) : Prop where
  pa : PA X es (tDats p f)
  mono : ∀ σ H H' d, Same H H' → f σ H d → f σ H' d
theorem pe_wk {X : Cx} {e : Expr} {t t' : TE} (h : PE X e t) (w : ∀ σ H Q, t' σ H Q → t σ H Q) : PE X e t' := ⟨fun pins s σ H Q I q => h.run pins s σ H Q I (w σ H Q q)⟩
theorem pa_wk {X : Cx} {es : List Expr} {t t' : TA} (h : PA X es t) (w : ∀ σ H Q, t' σ H Q → t σ H Q) : PA X es t' := ⟨fun pos pins s σ H Q I q => h.run pos pins s σ H Q I (w σ H Q q)⟩
theorem Rp.int_inv {p : Addr} {H : Hp} {v : V} {i : Int} (r : Rp p H v (.int i)) : v = .int i := by cases r; rfl
theorem Rp.str_inv {p : Addr} {H : Hp} {v : V} {x : Str} (r : Rp p H v (.str x)) : v = .str x := by cases r; rfl
theorem Rp.lst_inv {p : Addr} {H : Hp} {v : V} {ds : List PyData} (r : Rp p H v (.list ds)) : ∃ a xs, v = .ref a ∧ a ≠ p ∧ H a = some (.lst xs) ∧ xs.length ≤ 1000 ∧ RpA p H xs ds := by
  cases r with
  | lst n h z r => exact ⟨_, _, rfl, n, h, z, r⟩
theorem Rp.tup_inv {p : Addr} {H : Hp} {v : V} {ds : List PyData} (r : Rp p H v (.tuple ds)) : ∃ a xs, v = .ref a ∧ a ≠ p ∧ Rd H a (.tup xs) ∧ xs.length ≤ 1000 ∧ RpA p H xs ds := by
  cases r with
  | tup n h z r => exact ⟨_, _, rfl, n, h, z, r⟩
theorem RpA.take {p : Addr} {H : Hp} : ∀ {vs : List V} {ds : List PyData} (n : Nat), RpA p H vs ds → RpA p H (vs.take n) (ds.take n)
  | _, _, 0, _ => .nil
  | _, _, n + 1, .nil => .nil
  | _, _, n + 1, .cons h t => .cons h (RpA.take n t)
theorem RpA.drop {p : Addr} {H : Hp} : ∀ {vs : List V} {ds : List PyData} (n : Nat), RpA p H vs ds → RpA p H (vs.drop n) (ds.drop n)
  | _, _, 0, h => h
  | _, _, n + 1, .nil => .nil
  | _, _, n + 1, .cons h t => RpA.drop n t
theorem RpA.rep {p : Addr} {H : Hp} {vs : List V} {ds : List PyData} (r : RpA p H vs ds) : ∀ (n : Nat), RpA p H (List.replicate n vs).flatten (List.replicate n ds).flatten
  | 0 => .nil
  | n + 1 => by
    rw [List.replicate_succ, List.replicate_succ, List.flatten_cons, List.flatten_cons]
    exact RpA.append r (RpA.rep r n)
section
variable {X : Cx} {p : Addr}
theorem pd_var {e : Expr} {t : TE} {i : Nat} (h : PE X e t) (w : ∀ σ H Q, (∃ v, σ[i]? = some (some v) ∧ Q v H) → t σ H Q) : PD X e p (fun σ H d => ∃ v, σ[i]? = some (some v) ∧ Rp p H v d) :=
  ⟨pe_wk h fun σ H Q q => by
    obtain ⟨hp, d, ⟨v, hv, r⟩, k⟩ := q
    exact w σ H Q ⟨v, hv, k v H (Same.refl H) r⟩,
  fun σ H H' d s f => by
    obtain ⟨v, hv, r⟩ := f
    exact ⟨v, hv, r.keep (ExB.of s)⟩⟩
theorem pd_c {e : Expr} {v : V} {d0 : PyData} (h : PE X e (tC v)) (r : ∀ H, Rp p H v d0) : PD X e p (fun _ _ d => d = d0) :=
  ⟨pe_wk h fun σ H Q q => by
    obtain ⟨hp, d, rfl, k⟩ := q
    exact k v H (Same.refl H) (r H),
  fun σ H H' d s f => f⟩
theorem pds_nil : PDs X [] p (fun _ _ ds => ds = []) :=
  ⟨pa_wk pa_nil fun σ H Q q => by
    obtain ⟨hp, d, rfl, k⟩ := q
    exact k [] H (Same.refl H) .nil,
  fun σ H H' d s f => f⟩
theorem pds_cons {e : Expr} {es : List Expr} {f : DF} {g : DFs} (a : PD X e p f) (b : PDs X es p g) (hs : starEach (e :: es) X.env = (false, eval e X.env) :: starEach es X.env := by rfl) :
    PDs X (e :: es) p (fun σ H l => ∃ d ds, f σ H d ∧ g σ H ds ∧ l = d :: ds) :=
  ⟨pa_wk (pa_cons a.pe b.pa hs) fun σ H Q q => by
    obtain ⟨hp, _, ⟨d, ds, hf, hg, rfl⟩, k⟩ := q
    refine ⟨hp, d, hf, fun v H1 s1 r1 => ⟨hp.keep s1, ds, b.mono σ H H1 ds s1 hg, fun vs H2 s2 r2 => k _ H2 (s1.trans s2) (.cons (r1.keep (ExB.of s2)) r2)⟩⟩,
  fun σ H H' d s f => by
    obtain ⟨d, ds, hf, hg, rfl⟩ := f
    exact ⟨d, ds, a.mono _ _ _ _ s hf, b.mono _ _ _ _ s hg, rfl⟩⟩
theorem pd_tup {es : List Expr} {k : Nat} {pos : Pos} {g : DFs} (b : PDs X es p g) : PD X (.Tuple es k pos) p (fun σ H d => ∃ ds, g σ H ds ∧ ds.length ≤ 1000 ∧ d = .tuple ds) :=
  ⟨pe_wk (pe_tup b.pa) fun σ H Q q => by
    obtain ⟨hp, _, ⟨ds, hg, hl, rfl⟩, k⟩ := q
    refine ⟨hp, ds, hg, fun vs H1 s1 r1 => ⟨by rw [r1.length]; exact sz1000 hl, fun t ht => ?_⟩⟩
    have s2 : Same H1 (upd H1 t (.tup vs)) := same_new ht
    exact k _ _ (s1.trans s2) (.tup ((hp.keep s1).ne ht) (.inl upd_same) (by rw [r1.length]; exact hl) (r1.keep (ExB.of s2))),
  fun σ H H' d s f => by
    obtain ⟨ds, hg, hl, rfl⟩ := f
    exact ⟨ds, b.mono _ _ _ _ s hg, hl, rfl⟩⟩
theorem pd_lst {es : List Expr} {k : Pos} {g : DFs} (b : PDs X es p g) (hl : PE X (.List es k) (tLst (tDats p g))) : PD X (.List es k) p (fun σ H d => ∃ ds, g σ H ds ∧ ds.length ≤ 1000 ∧ d = .list ds) :=
  ⟨pe_wk hl fun σ H Q q => by
    obtain ⟨hp, _, ⟨ds, hg, hl, rfl⟩, k⟩ := q
    refine ⟨hp, ds, hg, fun vs H1 s1 r1 => ⟨by rw [r1.length]; exact sz1000 hl, fun t ht => ?_⟩⟩
    have s2 : Same H1 (upd H1 t (.lst vs)) := same_new ht
    exact k _ _ (s1.trans s2) (.lst ((hp.keep s1).ne ht) upd_same (by rw [r1.length]; exact hl) (r1.keep (ExB.of s2))),
  fun σ H H' d s f => by
    obtain ⟨ds, hg, hl, rfl⟩ := f
    exact ⟨ds, b.mono _ _ _ _ s hg, hl, rfl⟩⟩
theorem pd_lst' {es : List Expr} {k : Pos} {g : DFs} (b : PDs X es p g) : PD X (.List es k) p (fun σ H d => ∃ ds, g σ H ds ∧ ds.length ≤ 1000 ∧ d = .list ds) := pd_lst b (pe_lst b.pa)
theorem pd_bin {a b : Expr} {op : Operator} {r : R2} {pos : Pos} {f g : DF} (ho : OpR X (binaryOp op) r) (ha : PD X a p f) (hb : PD X b p g) (F : PyData → PyData → PyData → Prop)
    (w : ∀ x y d e c H Q, Has p H → Rp p H x d → Rp p H y e → F d e c → (∀ v H', Same H H' → Rp p H' v c → Q v H') → r x y H Q) (he : PE X (.BinOp a op b pos) (tOp r (tDat p f) (tDat p g))) :
    PD X (.BinOp a op b pos) p (fun σ H c => ∃ d e, f σ H d ∧ g σ H e ∧ F d e c) :=
  ⟨pe_wk he fun σ H Q q => by
    obtain ⟨hp, c, ⟨d, e, hf, hg, hF⟩, k⟩ := q
    refine ⟨hp, d, hf, fun x H1 s1 r1 => ⟨hp.keep s1, e, hb.mono _ _ _ _ s1 hg, fun y H2 s2 r2 => ?_⟩⟩
    exact w x y d e c H2 Q (hp.keep (s1.trans s2)) (r1.keep (ExB.of s2)) r2 hF fun v H3 s3 r3 => k v H3 (s1.trans (s2.trans s3)) r3,
  fun σ H H' c s f => by
    obtain ⟨d, e, hf, hg, hF⟩ := f
    exact ⟨d, e, ha.mono _ _ _ _ s hf, hb.mono _ _ _ _ s hg, hF⟩⟩
def FAdd (d e c : PyData) : Prop := ∃ i j : Int, d = .int i ∧ e = .int j ∧ c = .int (i + j)
def FSub (d e c : PyData) : Prop := ∃ i j : Int, d = .int i ∧ e = .int j ∧ c = .int (i - j)
def FCat (d e c : PyData) : Prop := ∃ xs ys, d = .list xs ∧ e = .list ys ∧ xs.length + ys.length ≤ 1000 ∧ c = .list (xs ++ ys)
def FCatT (d e c : PyData) : Prop := ∃ xs ys, d = .tuple xs ∧ e = .tuple ys ∧ xs.length + ys.length ≤ 1000 ∧ c = .tuple (xs ++ ys)
def FRep (d e c : PyData) : Prop := ∃ xs n, d = .list xs ∧ e = .int ((n : Nat) : Int) ∧ n ≤ 1000 ∧ xs.length * n ≤ 1000 ∧ c = .list (List.replicate n xs).flatten
theorem w_add {x y : V} {d e c : PyData} {H : Hp} {Q : VK} (rx : Rp p H x d) (ry : Rp p H y e) (hF : FAdd d e c) (k : ∀ v H', Same H H' → Rp p H' v c → Q v H') : rI0 (fun i j => V.int (i + j)) x y H Q := by
  obtain ⟨i, j, rfl, rfl, rfl⟩ := hF
  exact ⟨i, j, rx.int_inv, ry.int_inv, k _ _ (Same.refl H) (.int _)⟩
theorem w_sub {x y : V} {d e c : PyData} {H : Hp} {Q : VK} (rx : Rp p H x d) (ry : Rp p H y e) (hF : FSub d e c) (k : ∀ v H', Same H H' → Rp p H' v c → Q v H') : rI0 (fun i j => V.int (i - j)) x y H Q := by
  obtain ⟨i, j, rfl, rfl, rfl⟩ := hF
  exact ⟨i, j, rx.int_inv, ry.int_inv, k _ _ (Same.refl H) (.int _)⟩
theorem w_cat {x y : V} {d e c : PyData} {H : Hp} {Q : VK} (hp : Has p H) (rx : Rp p H x d) (ry : Rp p H y e) (hF : FCat d e c) (k : ∀ v H', Same H H' → Rp p H' v c → Q v H') : rCat x y H Q := by
  obtain ⟨ds, es, rfl, rfl, hl, rfl⟩ := hF
  obtain ⟨a, xs, rfl, na, ha, za, ra⟩ := rx.lst_inv
  obtain ⟨b, ys, rfl, nb, hb, zb, rb⟩ := ry.lst_inv
  refine ⟨a, b, xs, ys, rfl, rfl, ha, hb, by rw [ra.length, rb.length]; exact sz1000 hl, fun t ht => k _ _ (same_new ht) (.lst (hp.ne ht) upd_same ?_ (RpA.keep (ExB.of (same_new ht)) (ra.append rb)))⟩
  rw [List.length_append, ra.length, rb.length]
  exact hl
theorem w_catT {K : PySem.W.Frag} {x y : V} {d e c : PyData} {H : Hp} {Q : VK} (hp : Has p H) (rx : Rp p H x d) (ry : Rp p H y e) (hF : FCatT d e c) (k : ∀ v H', Same H H' → Rp p H' v c → Q v H') : rCatA K x y H Q := by
  obtain ⟨ds, es, rfl, rfl, hl, rfl⟩ := hF
  obtain ⟨a, xs, rfl, na, ha, za, ra⟩ := rx.tup_inv
  obtain ⟨b, ys, rfl, nb, hb, zb, rb⟩ := ry.tup_inv
  refine ⟨a, b, xs, ys, rfl, rfl, SqT.rd ha, SqT.rd hb, by rw [ra.length, rb.length]; exact sz1000 hl, fun e0 => ?_, fun _ e0 => ?_, fun _ _ t ht => k _ _ (same_new ht) (.tup (hp.ne ht) (.inl upd_same) ?_ (RpA.keep (ExB.of (same_new ht)) (ra.append rb)))⟩
  · subst e0
    cases ra
    exact k _ _ (Same.refl H) (.tup nb hb zb rb)
  · subst e0
    cases rb
    rw [List.append_nil] at k
    exact k _ _ (Same.refl H) (.tup na ha za ra)
  · rw [List.length_append, ra.length, rb.length]
    exact hl
theorem w_rep {x y : V} {d e c : PyData} {H : Hp} {Q : VK} (hp : Has p H) (rx : Rp p H x d) (ry : Rp p H y e) (hF : FRep d e c) (k : ∀ v H', Same H H' → Rp p H' v c → Q v H') : rRep x y H Q := by
  obtain ⟨ds, n, rfl, rfl, hn, hl, rfl⟩ := hF
  obtain ⟨a, xs, rfl, na, ha, za, ra⟩ := rx.lst_inv
  have hl2 : xs.length * n ≤ 1000 := by rw [ra.length]; exact hl
  refine ⟨a, n, xs, rfl, ry.int_inv, ha, by omega, by omega, sz1000 hl2, fun t ht => k _ _ (same_new ht) (.lst (hp.ne ht) upd_same ?_ (RpA.keep (ExB.of (same_new ht)) (ra.rep n)))⟩
  show (List.replicate n xs).flatten.length ≤ 1000
  rw [List.length_flatten, List.map_replicate, List.sum_replicate_nat, Nat.mul_comm]
  exact hl2
theorem pd_add {a b : Expr} {pos : Pos} {f g : DF} (ha : PD X a p f) (hb : PD X b p g) : PD X (.BinOp a .Add b pos) p (fun σ H c => ∃ d e, f σ H d ∧ g σ H e ∧ FAdd d e c) :=
  pd_bin op_add ha hb FAdd (fun x y d e c H Q hp rx ry hF k => w_add rx ry hF k) (pe_op op_add ha.pe hb.pe)
theorem pd_sub {a b : Expr} {pos : Pos} {f g : DF} (ha : PD X a p f) (hb : PD X b p g) : PD X (.BinOp a .Sub b pos) p (fun σ H c => ∃ d e, f σ H d ∧ g σ H e ∧ FSub d e c) :=
  pd_bin op_sub ha hb FSub (fun x y d e c H Q hp rx ry hF k => w_sub rx ry hF k) (pe_op op_sub ha.pe hb.pe)
theorem pd_cat {a b : Expr} {pos : Pos} {f g : DF} (ha : PD X a p f) (hb : PD X b p g) : PD X (.BinOp a .Add b pos) p (fun σ H c => ∃ d e, f σ H d ∧ g σ H e ∧ FCat d e c) :=
  pd_bin op_cat ha hb FCat (fun x y d e c H Q hp rx ry hF k => w_cat hp rx ry hF k) (pe_op op_cat ha.pe hb.pe)
theorem pd_catT {a b : Expr} {pos : Pos} {f g : DF} (ha : PD X a p f) (hb : PD X b p g) : PD X (.BinOp a .Add b pos) p (fun σ H c => ∃ d e, f σ H d ∧ g σ H e ∧ FCatT d e c) :=
  pd_bin op_catA ha hb FCatT (fun x y d e c H Q hp rx ry hF k => w_catT hp rx ry hF k) (pe_op op_catA ha.pe hb.pe)
theorem pd_rep {a b : Expr} {pos : Pos} {f g : DF} (ha : PD X a p f) (hb : PD X b p g) : PD X (.BinOp a .Mult b pos) p (fun σ H c => ∃ d e, f σ H d ∧ g σ H e ∧ FRep d e c) :=
  pd_bin op_rep ha hb FRep (fun x y d e c H Q hp rx ry hF k => w_rep hp rx ry hF k) (pe_op op_rep ha.pe hb.pe)
/-! slices -/
structure PDO (X : Cx) (e : Option Expr) (p : Addr) (f : L2.St → Hp → Option Int → Prop) (t : TO) : Prop where
  po : PO X e t
  w : ∀ σ H (Q : Option Int → Hp → Prop) i, Has p H → f σ H i → (∀ H', Same H H' → Q i H') → t σ H Q
  mono : ∀ σ H H' d, Same H H' → f σ H d → f σ H' d
def cutD (ds : List PyData) (lo hi : Option Int) : List PyData := (ds.drop (HT.sIx ds.length 0 lo)).take (HT.sIx ds.length ds.length hi - HT.sIx ds.length 0 lo)
theorem RpA.cut {H : Hp} {vs : List V} {ds : List PyData} (r : RpA p H vs ds) (lo hi : Option Int) : RpA p H (cutV vs lo hi) (cutD ds lo hi) := by
  unfold cutV cutD
  rw [r.length]
  exact (r.drop _).take _
theorem pdo_none : PDO X none p (fun _ _ i => i = none) tNoPart :=
  ⟨po_none, fun σ H Q i _ hf k => by
    subst hf
    exact k H (Same.refl H), fun _ _ _ _ _ f => f⟩
theorem pdo_some {e : Expr} {f : DF} (h : PD X e p f) : PDO X (some e) p (fun σ H i => ∃ j : Int, f σ H (.int j) ∧ i = some j) (tPart (tDat p f)) :=
  ⟨po_some h.pe, fun σ H Q i hp hf k => by
    obtain ⟨j, hj, rfl⟩ := hf
    exact ⟨hp, .int j, hj, fun v H' s r => ⟨j, r.int_inv, k H' s⟩⟩, fun σ H H' i s hf => by
    obtain ⟨j, hj, rfl⟩ := hf
    exact ⟨j, h.mono _ _ _ _ s hj, rfl⟩⟩
theorem w_slL {K : PySem.W.Frag} {x : V} {ds : List PyData} {lo hi : Option Int} {H : Hp} {Q : VK} (hp : Has p H) (rx : Rp p H x (.list ds)) (hl : (cutD ds lo hi).length ≤ 1000)
    (k : ∀ v H', Same H H' → Rp p H' v (.list (cutD ds lo hi)) → Q v H') : rSlL K x lo hi H Q := by
  obtain ⟨a, xs, rfl, na, ha, za, ra⟩ := rx.lst_inv
  have rc := ra.cut lo hi
  exact ⟨a, xs, rfl, SqL.of ha, fun t ht => k _ _ (same_new ht) (.lst (hp.ne ht) upd_same (by rw [rc.length]; exact hl) (rc.keep (ExB.of (same_new ht))))⟩
theorem w_slT {K : PySem.W.Frag} {x : V} {ds : List PyData} {lo hi : Option Int} {H : Hp} {Q : VK} (hp : Has p H) (rx : Rp p H x (.tuple ds)) (hl : (cutD ds lo hi).length ≤ 1000)
    (k : ∀ v H', Same H H' → Rp p H' v (.tuple (cutD ds lo hi)) → Q v H') : rSlA K x lo hi H Q := by
  obtain ⟨a, xs, rfl, na, ha, za, ra⟩ := rx.tup_inv
  have rc := ra.cut lo hi
  refine ⟨a, xs, rfl, SqT.rd ha, fun e => ?_, fun _ t ht => k _ _ (same_new ht) (.tup (hp.ne ht) (.inl upd_same) (by rw [rc.length]; exact hl) (rc.keep (ExB.of (same_new ht))))⟩
  have e2 : cutD ds lo hi = ds := by
    unfold cutD
    rw [← ra.length, e.1, e.2, List.drop_zero, Nat.sub_zero, List.take_of_length_le (by rw [ra.length]; exact Nat.le_refl _)]
  rw [e2] at k
  exact k _ _ (Same.refl H) (.tup na ha za ra)
theorem pd_slL {e : Expr} {lo hi : Option Expr} {pos p2 : Pos} {f : DF} {fl fh : L2.St → Hp → Option Int → Prop} {tl th : TO} (h : PD X e p f) (hl : PDO X lo p fl tl) (hh : PDO X hi p fh th) :
    PD X (.Subscript e (.Slice lo hi none p2) pos) p (fun σ H c => ∃ ds i j, f σ H (.list ds) ∧ fl σ H i ∧ fh σ H j ∧ (cutD ds i j).length ≤ 1000 ∧ c = .list (cutD ds i j)) :=
  ⟨pe_wk (pe_slice sl_list h.pe hl.po hh.po) fun σ H Q q => by
    obtain ⟨hp, _, ⟨ds, i, j, h1, h2, h3, h4, rfl⟩, k⟩ := q
    exact ⟨hp, _, h1, fun v H1 s1 r1 => hl.w σ H1 _ i (hp.keep s1) (hl.mono _ _ _ _ s1 h2) fun H2 s2 => hh.w σ H2 _ j (hp.keep (s1.trans s2)) (hh.mono _ _ _ _ (s1.trans s2) h3) fun H3 s3 =>
      w_slL (hp.keep (s1.trans (s2.trans s3))) (r1.keep (ExB.of (s2.trans s3))) h4 fun u H4 s4 r4 => k u H4 (s1.trans (s2.trans (s3.trans s4))) r4⟩,
  fun σ H H' c s q => by
    obtain ⟨ds, i, j, h1, h2, h3, h4, rfl⟩ := q
    exact ⟨ds, i, j, h.mono _ _ _ _ s h1, hl.mono _ _ _ _ s h2, hh.mono _ _ _ _ s h3, h4, rfl⟩⟩
theorem pd_slT {e : Expr} {lo hi : Option Expr} {pos p2 : Pos} {f : DF} {fl fh : L2.St → Hp → Option Int → Prop} {tl th : TO} (h : PD X e p f) (hl : PDO X lo p fl tl) (hh : PDO X hi p fh th) :
    PD X (.Subscript e (.Slice lo hi none p2) pos) p (fun σ H c => ∃ ds i j, f σ H (.tuple ds) ∧ fl σ H i ∧ fh σ H j ∧ (cutD ds i j).length ≤ 1000 ∧ c = .tuple (cutD ds i j)) :=
  ⟨pe_wk (pe_slice sl_tupA h.pe hl.po hh.po) fun σ H Q q => by
    obtain ⟨hp, _, ⟨ds, i, j, h1, h2, h3, h4, rfl⟩, k⟩ := q
    exact ⟨hp, _, h1, fun v H1 s1 r1 => hl.w σ H1 _ i (hp.keep s1) (hl.mono _ _ _ _ s1 h2) fun H2 s2 => hh.w σ H2 _ j (hp.keep (s1.trans s2)) (hh.mono _ _ _ _ (s1.trans s2) h3) fun H3 s3 =>
      w_slT (hp.keep (s1.trans (s2.trans s3))) (r1.keep (ExB.of (s2.trans s3))) h4 fun u H4 s4 r4 => k u H4 (s1.trans (s2.trans (s3.trans s4))) r4⟩,
  fun σ H H' c s q => by
    obtain ⟨ds, i, j, h1, h2, h3, h4, rfl⟩ := q
    exact ⟨ds, i, j, h.mono _ _ _ _ s h1, hl.mono _ _ _ _ s h2, hh.mono _ _ _ _ s h3, h4, rfl⟩⟩
/-! items -/
theorem RpA.at_ {H : Hp} {vs : List V} {ds : List PyData} {i : Int} {d : PyData} (r : RpA p H vs ds) (h : atI ds i = some d) : ∃ v, atI vs i = some v ∧ Rp p H v d := by
  unfold atI at h ⊢
  rw [← r.length] at h
  obtain ⟨j, hj, hd⟩ := Option.bind_eq_some_iff.mp h
  have hv : j < vs.length := by
    rw [r.length]
    exact (List.getElem?_eq_some_iff.mp hd).1
  obtain ⟨d2, h2, rd⟩ := r.get (List.getElem?_eq_getElem hv)
  rw [hd] at h2
  cases h2
  exact ⟨vs[j], by rw [hj]; exact List.getElem?_eq_getElem hv, rd⟩
theorem pd_ixT {e i : Expr} {pos : Pos} {f g : DF} (h : PD X e p f) (hi : PD X i p g) (pl : PlainIx i) :
    PD X (.Subscript e i pos) p (fun σ H c => ∃ ds j, f σ H (.tuple ds) ∧ g σ H (.int j) ∧ atI ds j = some c) :=
  ⟨pe_wk (pe_ix ix_seq h.pe hi.pe pl) fun σ H Q q => by
    obtain ⟨hp, c, ⟨ds, j, h1, h2, h3⟩, k⟩ := q
    refine ⟨hp, _, h1, fun x H1 s1 r1 => ⟨hp.keep s1, _, hi.mono _ _ _ _ s1 h2, fun y H2 s2 r2 => ?_⟩⟩
    obtain ⟨a, xs, rfl, na, ha, za, ra⟩ := (r1.keep (ExB.of s2)).tup_inv
    obtain ⟨v, hv, rv⟩ := ra.at_ h3
    exact .inr (.inl ⟨a, xs, j, v, rfl, r2.int_inv, SqT.rd ha, hv, k v H2 (s1.trans s2) rv⟩),
  fun σ H H' c s q => by
    obtain ⟨ds, j, h1, h2, h3⟩ := q
    exact ⟨ds, j, h.mono _ _ _ _ s h1, hi.mono _ _ _ _ s h2, h3⟩⟩
/-! list(t), str(i) -/
theorem pd_list {e : Expr} {q pos : Pos} {f : DF} (h : PD X e p f) (hg : Gl X "list") (hm : X.mg "list" = none) (hs : starEach [e] X.env = (false, eval e X.env) :: starEach [] X.env := by rfl)
    (hpl : ((backTo pos (starEach [] X.env)).any fun x => x.1) = false := by rfl) : PD X (.Call (.Name "list" q) [e] [] pos) p (fun σ H c => ∃ ds, f σ H (.tuple ds) ∧ c = .list ds) :=
  ⟨pe_wk (pe_callTy call_list_of hg hm (by decide +kernel) (pa_cons h.pe pa_nil hs) (by decide) (by decide) hs hpl) fun σ H Q q => by
    obtain ⟨hp, _, ⟨ds, h1, rfl⟩, k⟩ := q
    refine ⟨hp, _, h1, fun x H1 s1 r1 => ?_⟩
    obtain ⟨a, xs, rfl, na, ha, za, ra⟩ := r1.tup_inv
    exact ⟨a, xs, rfl, .inr (SqT.rd ha), fun t ht => k _ _ (s1.trans (same_new ht)) (.lst ((hp.keep s1).ne ht) upd_same za (ra.keep (ExB.of (same_new ht))))⟩,
  fun σ H H' c s q => by
    obtain ⟨ds, h1, rfl⟩ := q
    exact ⟨ds, h.mono _ _ _ _ s h1, rfl⟩⟩
theorem pd_str {e : Expr} {q pos : Pos} {f : DF} (h : PD X e p f) (hg : Gl X "str") (hm : X.mg "str" = none) (hs : starEach [e] X.env = (false, eval e X.env) :: starEach [] X.env := by rfl)
    (hpl : ((backTo pos (starEach [] X.env)).any fun x => x.1) = false := by rfl) : PD X (.Call (.Name "str" q) [e] [] pos) p (fun σ H c => ∃ n : Nat, f σ H (.int (n : Nat)) ∧ n ≤ 20 ∧ c = .str (toString ((n : Nat) : Int))) :=
  ⟨pe_wk (pe_callTy call_str_int hg hm (by decide +kernel) (pa_cons h.pe pa_nil hs) (by decide) (by decide) hs hpl) fun σ H Q q => by
    obtain ⟨hp, _, ⟨n, h1, hn, rfl⟩, k⟩ := q
    refine ⟨hp, _, h1, fun x H1 s1 r1 => ?_⟩
    refine ⟨n, by rw [r1.int_inv], Nat.lt_of_le_of_lt (Nat.log2_le_self n) (by omega), k _ _ s1 (.str _ ?_)⟩
    exact (by decide +kernel : ∀ n, n < 21 → (Str.ofString (toString ((n : Nat) : Int))).length ≤ 1000) n (by omega),
  fun σ H H' c s q => by
    obtain ⟨n, h1, hn, rfl⟩ := q
    exact ⟨n, h.mono _ _ _ _ s h1, hn, rfl⟩⟩
theorem pd_neg {e : Expr} {pos : Pos} {f : DF} (h : PD X e p f) : PD X (.UnaryOp .USub e pos) p (fun σ H c => ∃ i : Int, f σ H (.int i) ∧ c = .int (-i)) :=
  ⟨pe_wk (pe_un un_neg h.pe) fun σ H Q q => by
    obtain ⟨hp, _, ⟨i, h1, rfl⟩, k⟩ := q
    exact ⟨hp, _, h1, fun x H1 s1 r1 => ⟨i, r1.int_inv, k _ _ s1 (.int _)⟩⟩,
  fun σ H H' c s q => by
    obtain ⟨i, h1, rfl⟩ := q
    exact ⟨i, h.mono _ _ _ _ s h1, rfl⟩⟩
theorem pd_ifGt {a b c e : Expr} {pos pos2 : Pos} {fa fb fc fe : DF} (hc : PD X c p fc) (he : PD X e p fe) (ha : PD X a p fa) (hb : PD X b p fb) :
    PD X (.IfExp (.Compare c [.Gt] [e] pos2) a b pos) p (fun σ H d => ∃ i j : Int, fc σ H (.int i) ∧ fe σ H (.int j) ∧ (j < i → fa σ H d) ∧ (¬ j < i → fb σ H d)) :=
  ⟨pe_wk (pe_ifExp (pt_cmpR op_gt hc.pe he.pe (nomark _)) ha.pe hb.pe) fun σ H Q q => by
    obtain ⟨hp, d, ⟨i, j, h1, h2, h3, h4⟩, k⟩ := q
    refine ⟨hp, _, h1, fun x H1 s1 r1 => ⟨hp.keep s1, _, he.mono _ _ _ _ s1 h2, fun y H2 s2 r2 => ⟨i, j, (r1.keep (ExB.of s2)).int_inv, r2.int_inv, _, rfl, ?_⟩⟩⟩
    have s3 := s1.trans s2
    refine ite2 (fun e => ?_) (fun e => ?_)
    · exact ⟨hp.keep s3, d, ha.mono _ _ _ _ s3 (h3 (of_decide_eq_true e)), fun v H4 s4 r4 => k v H4 (s3.trans s4) r4⟩
    · exact ⟨hp.keep s3, d, hb.mono _ _ _ _ s3 (h4 (of_decide_eq_false (eq_false_of_ne_true e))), fun v H4 s4 r4 => k v H4 (s3.trans s4) r4⟩,
  fun σ H H' d s q => by
    obtain ⟨i, j, h1, h2, h3, h4⟩ := q
    exact ⟨i, j, hc.mono _ _ _ _ s h1, he.mono _ _ _ _ s h2, fun z => ha.mono _ _ _ _ s (h3 z), fun z => hb.mono _ _ _ _ s (h4 z)⟩⟩
theorem pd_dict {pos : Pos} : PD X (.Dict [] [] pos) p (fun _ _ d => d = .dict []) :=
  ⟨pe_wk pe_dnewK fun σ H Q q => by
    obtain ⟨hp, _, rfl, k⟩ := q
    exact fun t ht => k _ _ (same_new ht) (.dct (hp.ne ht) upd_same),
  fun σ H H' d s f => f⟩
end
/-! data of tuples alone -/
mutual
inductive RpT (p : Addr) (H : Hp) : V → PyData → Prop
  | non : RpT p H .non .none
  | bl (b : Bool) : RpT p H (.bl b) (.bool b)
  | int (i : Int) : RpT p H (.int i) (.int i)
  | str (x : Str) (h : x.length ≤ 1000) : RpT p H (.str x) (.str x)
  | tup {a : Addr} {xs : List V} {ds : List PyData} (n : a ≠ p) (h : Rd H a (.tup xs)) (z : xs.length ≤ 1000) (r : RpTA p H xs ds) : RpT p H (.ref a) (.tuple ds)
inductive RpTA (p : Addr) (H : Hp) : List V → List PyData → Prop
  | nil : RpTA p H [] []
  | cons {v : V} {vs : List V} {d : PyData} {ds : List PyData} (h : RpT p H v d) (t : RpTA p H vs ds) : RpTA p H (v :: vs) (d :: ds)
end
def ExT (p : Addr) (H H' : Hp) : Prop := ∀ b xs, b ≠ p → Rd H b (.tup xs) → Rd H' b (.tup xs)
theorem ExT.of {p : Addr} {H H' : Hp} (e : ExB p H H') : ExT p H H' := fun b _ n h => rd_keep (fun o q => e b o n q) h
theorem ExT.trans {p : Addr} {H H1 H2 : Hp} (a : ExT p H H1) (b : ExT p H1 H2) : ExT p H H2 := fun c xs n h => b c xs n (a c xs n h)
theorem ExT.put {p l : Addr} {H : Hp} {xs : List V} {o : HO} (h : H l = some (.lst xs)) : ExT p H (upd H l o) := fun b ys n e => rd_keep (fun u q => by
  rw [upd_ne (fun z => by
    rw [z] at e
    rcases e with e | ⟨o', e⟩ <;> (rw [h] at e; cases e))]
  exact q) e
mutual
theorem RpT.keep {p : Addr} {H H' : Hp} (e : ExT p H H') : ∀ {v : V} {d : PyData}, RpT p H v d → RpT p H' v d
  | _, _, .non => .non
  | _, _, .bl b => .bl b
  | _, _, .int i => .int i
  | _, _, .str x h => .str x h
  | _, _, .tup n h z r => .tup n (e _ _ n h) z (RpTA.keep e r)
theorem RpTA.keep {p : Addr} {H H' : Hp} (e : ExT p H H') : ∀ {vs : List V} {ds : List PyData}, RpTA p H vs ds → RpTA p H' vs ds
  | _, _, .nil => .nil
  | _, _, .cons h t => .cons (RpT.keep e h) (RpTA.keep e t)
end
mutual
theorem RpT.rp {p : Addr} {H : Hp} : ∀ {v : V} {d : PyData}, RpT p H v d → Rp p H v d
  | _, _, .non => .non
  | _, _, .bl b => .bl b
  | _, _, .int i => .int i
  | _, _, .str x h => .str x h
  | _, _, .tup n h z r => .tup n h z (RpTA.rp r)
theorem RpTA.rp {p : Addr} {H : Hp} : ∀ {vs : List V} {ds : List PyData}, RpTA p H vs ds → RpA p H vs ds
  | _, _, .nil => .nil
  | _, _, .cons h t => .cons (RpT.rp h) (RpTA.rp t)
end
theorem RpTA.append {p : Addr} {H : Hp} : ∀ {vs ws : List V} {ds es : List PyData}, RpTA p H vs ds → RpTA p H ws es → RpTA p H (vs ++ ws) (ds ++ es)
  | _, _, _, _, .nil, s => s
  | _, _, _, _, .cons h t, s => .cons h (RpTA.append t s)
theorem RpTA.length {p : Addr} {H : Hp} {vs : List V} {ds : List PyData} (r : RpTA p H vs ds) : vs.length = ds.length := r.rp.length
/-! how what is told is found -/
theorem x_tup {g : List PyData → Prop} {ds : List PyData} (h : g ds) (hl : ds.length ≤ 1000) : ∃ es, g es ∧ es.length ≤ 1000 ∧ PyData.tuple ds = .tuple es := ⟨ds, h, hl, rfl⟩
theorem x_lst {g : List PyData → Prop} {ds : List PyData} (h : g ds) (hl : ds.length ≤ 1000) : ∃ es, g es ∧ es.length ≤ 1000 ∧ PyData.list ds = .list es := ⟨ds, h, hl, rfl⟩
theorem x_cons {f : PyData → Prop} {g : List PyData → Prop} {d : PyData} {ds : List PyData} (h : f d) (k : g ds) : ∃ e es, f e ∧ g es ∧ d :: ds = e :: es := ⟨d, ds, h, k, rfl⟩
theorem x_neg {f : Int → Prop} {i : Int} (h : f i) : ∃ j, f j ∧ PyData.int (-i) = .int (-j) := ⟨i, h, rfl⟩
theorem x_var {σ : L2.St} {i : Nat} {p : Addr} {H : Hp} {v : V} {d : PyData} (h : σ[i]? = some (some v)) (r : Rp p H v d) : ∃ u, σ[i]? = some (some u) ∧ Rp p H u d := ⟨v, h, r⟩
theorem x_bin {f g : PyData → Prop} {F : PyData → PyData → PyData → Prop} {d e c : PyData} (h : f d) (k : g e) (l : F d e c) : ∃ d e, f d ∧ g e ∧ F d e c := ⟨d, e, h, k, l⟩
theorem x_add {i j : Int} : FAdd (.int i) (.int j) (.int (i + j)) := ⟨i, j, rfl, rfl, rfl⟩
theorem x_sub {i j : Int} : FSub (.int i) (.int j) (.int (i - j)) := ⟨i, j, rfl, rfl, rfl⟩
theorem x_cat {xs ys : List PyData} (h : xs.length + ys.length ≤ 1000) : FCat (.list xs) (.list ys) (.list (xs ++ ys)) := ⟨xs, ys, rfl, rfl, h, rfl⟩
theorem x_catT {xs ys : List PyData} (h : xs.length + ys.length ≤ 1000) : FCatT (.tuple xs) (.tuple ys) (.tuple (xs ++ ys)) := ⟨xs, ys, rfl, rfl, h, rfl⟩
theorem x_rep {xs : List PyData} {n : Nat} (h1 : n ≤ 1000) (h : xs.length * n ≤ 1000) : FRep (.list xs) (.int (n : Nat)) (.list (List.replicate n xs).flatten) := ⟨xs, n, rfl, rfl, h1, h, rfl⟩
theorem x_sl {f : List PyData → Prop} {fl fh : Option Int → Prop} {C : List PyData → PyData} {ds : List PyData} {i j : Option Int} (h : f ds) (h1 : fl i) (h2 : fh j) (hl : (cutD ds i j).length ≤ 1000) :
    ∃ es a b, f es ∧ fl a ∧ fh b ∧ (cutD es a b).length ≤ 1000 ∧ C (cutD ds i j) = C (cutD es a b) := ⟨ds, i, j, h, h1, h2, hl, rfl⟩
theorem x_po {f : Int → Prop} {j : Int} (h : f j) : ∃ k, f k ∧ some j = some k := ⟨j, h, rfl⟩
theorem x_ix {f : List PyData → Prop} {g : Int → Prop} {ds : List PyData} {j : Int} {c : PyData} (h : f ds) (k : g j) (e : atI ds j = some c) : ∃ es i, f es ∧ g i ∧ atI es i = some c := ⟨ds, j, h, k, e⟩
theorem x_list {f : List PyData → Prop} {ds : List PyData} (h : f ds) : ∃ es, f es ∧ PyData.list ds = .list es := ⟨ds, h, rfl⟩
theorem x_str {f : Nat → Prop} {n : Nat} (h : f n) (k : n ≤ 20) : ∃ m, f m ∧ m ≤ 20 ∧ PyData.str (toString ((n : Nat) : Int)) = .str (toString ((m : Nat) : Int)) := ⟨n, h, k, rfl⟩
end Cs
set_option maxHeartbeats 4000000
/-! repr of data, where nothing is being shown just now. -/
namespace Cs
open PySem L2 PyProof.Rows
mutual
/-- no list stands in it -/
def noL : PyData → Bool
  | .list _ => false
  | .tuple ds => noLs ds
  | _ => true
def noLs : List PyData → Bool
  | [] => true
  | d :: ds => noL d && noLs ds
end
section
variable {X : Cx} {pins : List (Addr × Obj)} {σ : L2.St} {H : Hp} {s : Shared} {p : Addr}
mutual
theorem Rp.readsA (I : L2.Inv X pins σ H s) : ∀ {v : V} {d : PyData}, Rp p H v d → ∀ u, RelV v u → ∃ as, Reads s.heap u d as ∧ (noL d = true → sysModules ∉ as)
  | _, _, .non, u, r => by
    obtain rfl : u = .none := r
    exact ⟨_, .none, fun _ => List.not_mem_nil⟩
  | _, _, .bl b, u, r => by
    obtain rfl : u = .bool b := r
    exact ⟨_, .bool b, fun _ => List.not_mem_nil⟩
  | _, _, .int i, u, r => by
    obtain ⟨t, rfl⟩ := r
    exact ⟨_, .int i t, fun _ => List.not_mem_nil⟩
  | _, _, .str x _, u, r => by
    obtain ⟨t, rfl⟩ := r
    exact ⟨_, .str x t, fun _ => List.not_mem_nil⟩
  | _, _, .lst _ h z ra, u, r => by
    obtain rfl := r
    obtain ⟨its, rv, ⟨o, n, ho, hc, _, hd⟩, _⟩ := I.list (SqL.of h)
    obtain ⟨as, hr, _⟩ := RpA.readsA I ra its rv
    exact ⟨_, .list ho hc hd hr, fun h => by simp [noL] at h⟩
  | _, _, .tup _ h z ra, u, r => by
    obtain rfl := r
    obtain ⟨its, rv, ⟨o, ho, hc, n, hd⟩, _⟩ := I.tuple (SqT.rd h)
    obtain ⟨as, hr, k⟩ := RpA.readsA I ra its rv
    exact ⟨_, .tuple ho hc hd hr, fun h2 => k (by simpa [noL] using h2)⟩
  | _, _, .dct _ h, u, r => by
    obtain rfl := r
    obtain ⟨_, ns, vs, kv, o, es, ep, ho, ex, hd, he1, he2⟩ := I.hok _ _ h
    cases kv
    have e0 : es = #[] := Array.toList_inj.mp (List.eq_nil_of_length_eq_zero he2.1.length)
    subst e0
    refine ⟨_, .dict (kvs := []) ho ex.1 hd .nil .nil, fun _ hm => ?_⟩
    have e2 := List.mem_singleton.mp hm
    rw [← e2] at ns
    simp at ns
theorem RpA.readsA (I : L2.Inv X pins σ H s) : ∀ {vs : List V} {ds : List PyData}, RpA p H vs ds → ∀ us, Vals vs us → ∃ as, ReadsAll s.heap us ds as ∧ (noLs ds = true → sysModules ∉ as)
  | _, _, .nil, _, .nil => ⟨_, .nil, fun _ => List.not_mem_nil⟩
  | _, _, .cons h t, _, .cons r rr => by
    obtain ⟨as, h1, k1⟩ := Rp.readsA I h _ r
    obtain ⟨bs, h2, k2⟩ := RpA.readsA I t _ rr
    refine ⟨_, .cons h1 h2, fun hn hm => ?_⟩
    have hn : (noL _ && noLs _) = true := hn
    rw [Bool.and_eq_true] at hn
    exact (List.mem_append.mp hm).elim (k1 hn.1) (k2 hn.2)
end
end
/-- what may be shown: lists and dicts do not stand in one another, but a list at the top -/
def topSafe : PyData → Bool
  | .list ds => !PyData.hasDictAll ds || noLs ds
  | d => !d.hasDict || noL d
section
variable {prog : Program} {w : World} {A : Around} {E : Value → Shared → Prop} {s : Shared} {Q : Value → Shared → Prop} {a : Addr} {as : List Addr}
/-- a list at the top is shown -/
theorem show_list {ds : List PyData} {o : Obj} {vs : Array Value} {n : Nat} {as1 : List Addr} (ho : s.heap.get? a = some o) (hc : o.cls = .type "list") (hdt : o.data = .seq vs n) (hr : ReadsAll s.heap vs.toList ds as1) (in_ : PyData.hasDictAll ds = true → sysModules ∉ as1) (ok : PyData.showableAll ds = true) (hg : A.guards = some []) (hu : A.units + 64 < cLine) (hd : (PyData.list ds).depth ≤ 60)
    (hz : (PyData.list ds).shown.length ≤ sizeLine) (k : ∀ h' u tk, (∀ b o, s.heap.get? b = some o → h'.get? b = some o) → Q (.str (PyData.list ds).shown u) { s with heap := h', toks := tk }) :
    wpAny (model prog w) A (call (.builtin "repr") [.ref a]) Q E s := by
  have r0 : Reads s.heap (.ref a) (.list ds) (a :: as1) := .list ho hc hdt hr
  have hz2 : (listText (PyData.shownAll ds)).length ≤ sizeLine := by simpa only [PyData.shown] using hz
  simp only [PyData.depth] at hd
  simp only [PyData.shown] at k
  obtain ⟨bs, hb, hk⟩ := ReprAllK.of_readsAll (prog := prog) (w := w) hr ok (fun hx hm => in_ hx hm) (fun t ht => Nat.le_trans (listText_mem_le ht) hz2)
  have na : a ∉ bs := not_mem_of_deeper r0 (by simp only [PyData.depth]; omega) hb
  have ty : ∀ t : Shared, (∀ b o, s.heap.get? b = some o → t.heap.get? b = some o) → t.TypeIs (.ref a) "list" := fun t kt => ⟨o, kt _ _ ho, hc⟩
  refine call_repr_slot (by omega) (ty s fun _ _ e => e) F.slot_list_repr.toG ?_
  obtain ⟨l⟩ := vs
  cases l with
  | nil =>
    have hr2 : ReadsAll s.heap [] ds as1 := hr
    cases hr2
    simp only [PyData.shownAll, listText_nil] at k
    exact call_list_repr_empty (ty s fun _ _ e => e) ho hdt ⟨_, _, rfl, k s.heap _ _ fun _ _ e => e⟩
  | cons y l =>
    exact call_list_reprK ho hc hdt na (by simpa using hk.length_eq) (fun i y e => hk.item i y (by simpa using e)) (A := A.in1) hg (fun b _ => Clear.nil b) (by show A.units + 1 + _ < cLine; omega) (fun _ _ e => e) (fun h' u tk kp => ⟨_, _, rfl, k h' u tk kp⟩) hz2
end
def tReprD : List V → Hp → VK → Prop := fun xs H Q => ∃ (p : Addr) (v : V) (d : PyData), xs = [v] ∧ Rp p H v d ∧ d.showable = true ∧ topSafe d = true ∧ d.depth ≤ 60 ∧ d.shown.length ≤ sizeLine ∧ Q (.str d.shown) H
theorem callReprD {X : Cx} (hG : X.A.guards = some []) (hu : X.A.units + 64 < cLine) : CallR X (.builtin "repr") tReprD := by
  rintro pins s σ H xs us Q I r ⟨p, v, d, rfl, rp, ok, top, dep, sz, q⟩
  obtain ⟨u, rfl, ru⟩ := r.one
  have fin : ∀ h' t tk, (∀ b o, s.heap.get? b = some o → h'.get? b = some o) → EP X pins σ Q (.str d.shown t) { s with heap := h', toks := tk } := fun h' t tk kp => ⟨.str d.shown, H, I.kept (t' := tk) kp, ⟨_, rfl⟩, q⟩
  obtain ⟨as, hr, hs⟩ := Rp.readsA I rp u ru
  cases rp with
  | non => cases hr; exact PySem.P.repr_of_none (fin _ _ _ fun _ _ e => e)
  | bl b => cases hr; exact PySem.P.repr_of_bool (by
      have z := fin s.heap s.toks (s.toks + 1) fun _ _ e => e
      simp only [PyData.shown] at z
      cases b <;> exact z)
  | int i => cases hr; exact PySem.P.repr_of_int (by simpa [PyData.showable] using ok) (fin _ _ _ fun _ _ e => e)
  | str x z => cases hr; exact PySem.P.repr_of_str (fin _ _ _ fun _ _ e => e) sz
  | @lst a vs ds n h z ra =>
    obtain rfl := ru
    obtain ⟨its, rv, ⟨o, m, ho, hc, _, hdt⟩, _⟩ := I.list (SqL.of h)
    obtain ⟨bs, hr2, hs2⟩ := RpA.readsA I ra its rv
    exact show_list ho hc hdt hr2 (fun hx => hs2 (by simpa [topSafe, hx] using top)) (by simpa [PyData.showable] using ok) hG hu dep sz fin
  | tup n h z ra =>
    obtain rfl := ru
    exact repr_of_reads' hr ok (fun hx => hs (by simpa [topSafe, hx] using top)) hG (by omega) (fun _ _ e => e) fin sz
  | dct n h =>
    obtain rfl := ru
    exact repr_of_reads' hr ok (fun hx => hs rfl) hG (by simp [PyData.depth, PyData.depthKv] at dep ⊢; omega) (fun _ _ e => e) fin sz
end Cs
set_option maxHeartbeats 4000000
namespace Cs
open PySem L2 L2H PyProof.Rows
def idxT : Option Nat → Str
  | none => "None"
  | some i => toString ((i : Nat) : Int)
theorem callReprI {X : Cx} : CallR X (.builtin "repr") (fun xs H Q => ∃ e : Option Nat, xs = [idxV e] ∧ (∀ i, e = some i → i ≤ 1000) ∧ Q (.str (idxT e)) H) := by
  rintro pins s σ H xs us Q I r ⟨e, rfl, hb, q⟩
  cases e with
  | none =>
    obtain ⟨u, rfl, ru⟩ := r.one
    have eu : u = .none := ru
    subst eu
    exact PySem.P.repr_of_none ⟨V.str "None", H, I.tok _, ⟨_, rfl⟩, q⟩
  | some i =>
    refine SkE.call_repr_int pins s σ H _ us Q I r ⟨_, rfl, ?_, q⟩
    have h := hb i rfl
    show (i : Nat).log2 < 1920
    exact Nat.lt_of_le_of_lt (Nat.log2_le_self i) (by omega)
/-- where the classes stand -/
structure ClsT (mg : Str → Option Value) (cl : Str → Addr) : Prop where
  v_InvalidColumns : ∃ u, mg "InvalidColumns" = some u ∧ RelV (.ref (cl "InvalidColumns")) u
  v_InvalidRows : ∃ u, mg "InvalidRows" = some u ∧ RelV (.ref (cl "InvalidRows")) u
  v_InvalidText : ∃ u, mg "InvalidText" = some u ∧ RelV (.ref (cl "InvalidText")) u
  v_InvalidColumn : ∃ u, mg "InvalidColumn" = some u ∧ RelV (.ref (cl "InvalidColumn")) u
  v_InvalidStretch : ∃ u, mg "InvalidStretch" = some u ∧ RelV (.ref (cl "InvalidStretch")) u
  v_InvalidSigns : ∃ u, mg "InvalidSigns" = some u ∧ RelV (.ref (cl "InvalidSigns")) u
  v_InvalidMember : ∃ u, mg "InvalidMember" = some u ∧ RelV (.ref (cl "InvalidMember")) u
  v_InvalidWeights : ∃ u, mg "InvalidWeights" = some u ∧ RelV (.ref (cl "InvalidWeights")) u
  v_NotATable : ∃ u, mg "NotATable" = some u ∧ RelV (.ref (cl "NotATable")) u
  v_InvalidCommand : ∃ u, mg "InvalidCommand" = some u ∧ RelV (.ref (cl "InvalidCommand")) u
  v_UnknownName : ∃ u, mg "UnknownName" = some u ∧ RelV (.ref (cl "UnknownName")) u
  v_TooFew : ∃ u, mg "TooFew" = some u ∧ RelV (.ref (cl "TooFew")) u
  v_TooMany : ∃ u, mg "TooMany" = some u ∧ RelV (.ref (cl "TooMany")) u
  v_NotWhole : ∃ u, mg "NotWhole" = some u ∧ RelV (.ref (cl "NotWhole")) u
  v_NothingToUndo : ∃ u, mg "NothingToUndo" = some u ∧ RelV (.ref (cl "NothingToUndo")) u
  v_WrongValue : ∃ u, mg "WrongValue" = some u ∧ RelV (.ref (cl "WrongValue")) u
  v_WrongName : ∃ u, mg "WrongName" = some u ∧ RelV (.ref (cl "WrongName")) u
  v_NotPossible : ∃ u, mg "NotPossible" = some u ∧ RelV (.ref (cl "NotPossible")) u
  ValueError_ : mg "ValueError" = none
  LookupError_ : mg "LookupError" = none
  ArithmeticError_ : mg "ArithmeticError" = none
/-- what an error of the class C is told to be, n its number -/
structure ExW (K : PySem.W.Frag) (cl : Str → Addr) (C : Addr) (n : Nat) : Prop where
  x : ExcC K C
  f : XfC K C
  em : PySem.W.exmAny K (.ref C) [.ref (cl "WrongValue"), .ref (cl "WrongName"), .ref (cl "NotPossible")] = some true
  nf_index : PySem.W.findIn K (.ref C) "index" = some none
  nf_given : PySem.W.findIn K (.ref C) "given" = some none
  k_InvalidColumns : PySem.W.kitOne K (.ref C) (.ref (cl "InvalidColumns")) = some (n == 0)
  k_InvalidRows : PySem.W.kitOne K (.ref C) (.ref (cl "InvalidRows")) = some (n == 1)
  k_InvalidText : PySem.W.kitOne K (.ref C) (.ref (cl "InvalidText")) = some (n == 2)
  k_InvalidColumn : PySem.W.kitOne K (.ref C) (.ref (cl "InvalidColumn")) = some (n == 3)
  k_InvalidStretch : PySem.W.kitOne K (.ref C) (.ref (cl "InvalidStretch")) = some (n == 4)
  k_InvalidSigns : PySem.W.kitOne K (.ref C) (.ref (cl "InvalidSigns")) = some (n == 5)
  k_InvalidMember : PySem.W.kitOne K (.ref C) (.ref (cl "InvalidMember")) = some (n == 6)
  k_InvalidWeights : PySem.W.kitOne K (.ref C) (.ref (cl "InvalidWeights")) = some (n == 7)
  k_NotATable : PySem.W.kitOne K (.ref C) (.ref (cl "NotATable")) = some (n == 8)
  k_InvalidCommand : PySem.W.kitOne K (.ref C) (.ref (cl "InvalidCommand")) = some (n == 9)
  k_UnknownName : PySem.W.kitOne K (.ref C) (.ref (cl "UnknownName")) = some (n == 10)
  k_TooFew : PySem.W.kitOne K (.ref C) (.ref (cl "TooFew")) = some (n == 11)
  k_TooMany : PySem.W.kitOne K (.ref C) (.ref (cl "TooMany")) = some (n == 12)
  k_NotWhole : PySem.W.kitOne K (.ref C) (.ref (cl "NotWhole")) = some (n == 13)
  k_NothingToUndo : PySem.W.kitOne K (.ref C) (.ref (cl "NothingToUndo")) = some (n == 14)
  k_WrongValue : PySem.W.kitOne K (.ref C) (.ref (cl "WrongValue")) = some (decide (n < 10))
  k_WrongName : PySem.W.kitOne K (.ref C) (.ref (cl "WrongName")) = some (decide (n = 10))
  k_NotPossible : PySem.W.kitOne K (.ref C) (.ref (cl "NotPossible")) = some (decide (10 < n))
  k_ValueError : PySem.W.kitOne K (.ref C) (.type "ValueError") = some (decide (n < 10))
  k_LookupError : PySem.W.kitOne K (.ref C) (.type "LookupError") = some (decide (n = 10))
  k_ArithmeticError : PySem.W.kitOne K (.ref C) (.type "ArithmeticError") = some (decide (10 < n))
theorem same_of {H H' : Hp} {l : Addr} {o : HO} (e : upd H l o = H') (n : H l = none) : Same H H' := e ▸ same_new n
theorem at_new {H H' : Hp} {l : Addr} {o : HO} (e : upd H l o = H') : H' l = some o := e ▸ upd_same
def bl3 (a b c : Bool) : PyData := .list [.bool a, .bool b, .bool c]
theorem dp3 {K : PySem.W.Frag} {H : Hp} {l : Addr} {a b c : Bool} (h : H l = some (.lst [.bl a, .bl b, .bl c])) : Dp K H (.ref l) (bl3 a b c) := .lst (SqL.of h) (.cons (.bl a) (.cons (.bl b) (.cons (.bl c) .nil)))
theorem eqv3 (a b c : Bool) : (bl3 a b c).eqv (bl3 a b c) = true := by cases a <;> cases b <;> cases c <;> rfl
theorem iteNe {p q : Prop} {d e : PyData} (h : d.eqv e = true) (k : q) : if (!d.eqv e) = true then p else q := by
  rw [h]
  exact k
def wordOf : Nat → Str
  | 0 => "columns"
  | 1 => "rows"
  | _ => ""
def fldOf (n : Nat) : Str := if n < 2 then "index" else "given"
/-- data that can be shown -/
def Tl (p : Addr) (H : Hp) (v : V) (d : PyData) : Prop := Rp p H v d ∧ d.showable = true ∧ topSafe d = true ∧ d.depth ≤ 60 ∧ d.shown.length ≤ sizeLine
def SpWord (K : PySem.W.Frag) (cl : Str → Addr) : Addr × Obj → Sp := fun p vs H Q _ => ∃ (C dd : Addr) (n : Nat) (v : V) (dt : PyData) (p0 : Addr), vs = [.ref p.1] ∧ Zc (.ref C) (some dd) p.2 ∧ (∃ us, p.2.data = .fields us) ∧ ExW K cl C n ∧ (n = 0 ∨ n = 1) ∧
  H dd = some (.xd [(fldOf n, v)]) ∧ Tl p0 H v dt ∧ ∀ l H', H l = none → Same H H' → H' l = some (.lst [.str (wordOf n), .str dt.shown]) → Q (.ref l) H'
section
variable {P : Program} {w : World} {K : PySem.W.Frag} {mg : Str → Option Value} {base : Heap}
theorem sc__law_word : FnScope ["_law_e", "_law_flags", "_law_bases", "_law_plain", "_law_at", "_law_words"] ["_law_e"] (defScope (topS 50)) := ⟨rfl, rfl, rfl, by decide +kernel, rfl, by decide +kernel, by decide +kernel⟩
theorem DefAt.hotG {x : Str} {st : Stmt} {N ps : List Str} {k : Nat} {sp : Addr × Obj → Sp} (D : DefAt K mg x st ps) (S : FnScope N ps (defScope st)) (len : ∀ p vs H Q E, sp p vs H Q E → vs.length = ps.length)
    (hbody : ∀ (f : Addr) (cdv : Value) (A : Around) (outer : List Env) (s : Shared) (H : Hp) (vs : List V) (Q : VK) (E : XK) (p : Addr × Obj), A.guards = some [] → RoomH k (A.deeper (envOfC x (defScope st) s.heap.objs.size f cdv)) → sp p vs H Q E →
      ∃ t, PSs (cxH CX0 P w K mg base N x (defScope st) f cdv A outer s H E p) (defBody st) t ∧ t { nx := fun _ H' => Q .non H', rt := Q } (L2.start N vs) H) :
    ∃ f fd, FnEG P w K mg base (k + 1) f fd ps sp ∧ mg x = some (.ref f) ∧ PySem.W.keepIn K (.ref f) = true ∧ Binds K fd ps [] := by
  obtain ⟨f, fd, F, g, b⟩ := D.ex
  refine ⟨f, fd, ?_, g, F.kp, b⟩
  obtain ⟨oc, od, dV, kV, doc, pm, an, cdv, ct, osl, rfl, lk, hcd, _, _⟩ := F.ex
  exact fn_ofEG lk hcd S len fun A outer s H vs Q E p hg hr h => hbody f cdv A outer s H vs Q E p hg hr h
theorem ok__law_word {cl : Str → Addr} (D : DefAt K mg "_law_word" (topS 50) ["_law_e"]) (T : Txt mg) (G : ClsT mg cl) :
    ∃ f fd, FnEG P w K mg base 1 f fd ["_law_e"] (SpWord K cl) ∧ mg "_law_word" = some (.ref f) ∧ PySem.W.keepIn K (.ref f) = true ∧ Binds K fd ["_law_e"] [] := by
  refine D.hotG sc__law_word (fun p vs H Q E h => by obtain ⟨C, dd, n, v, dt, p0, rfl, _⟩ := h; rfl) fun f cdv A outer s H vs Q E p hg hr h => ?_
  obtain ⟨C, dd, n, v, dt, p0, rfl, hz, hf, B, hn, hd, hb, k⟩ := h
  have nd := sc__law_word.nd
  have hu64 : (A.deeper (envOfC "_law_word" (defScope (topS 50)) s.heap.objs.size f cdv)).units + 64 < cLine := Nat.lt_of_le_of_lt (by omega) hr.un
  have hG : (A.deeper (envOfC "_law_word" (defScope (topS 50)) s.heap.objs.size f cdv)).guards = some [] := hg
  have hP : ExPin (cxH CX0 P w K mg base ["_law_e", "_law_flags", "_law_bases", "_law_plain", "_law_at", "_law_words"] "_law_word" (defScope (topS 50)) f cdv A outer s H E p) p.1 C dd := ⟨p.2, List.mem_cons_self, hz, hf⟩
  have hT := B.x
  have hXf := B.f
  refine ⟨_, (pss_cons (ps_set (i := 1) nd rfl (.inl rfl) (pe_lst (pa_cons (pe_callB (call_isX hP hT) (by rfl) T.isinstance_ (by decide +kernel) (pa_cons (pv 0) (pa_cons (C8.pe_gc rfl G.v_InvalidColumns) pa_nil))) (pa_cons (pe_callB (call_isX hP hT) (by rfl) T.isinstance_ (by decide +kernel) (pa_cons (pv 0) (pa_cons (C8.pe_gc rfl G.v_InvalidRows) pa_nil))) (pa_cons (pe_callB (call_isX hP hT) (by rfl) T.isinstance_ (by decide +kernel) (pa_cons (pv 0) (pa_cons (C8.pe_gc rfl G.v_InvalidText) pa_nil))) pa_nil)))))
      (pss_cons (ps_set (i := 1) nd rfl (.inl rfl) (pe_op opAdd (pv 1) (pe_lst (pa_cons (pe_callB (call_isX hP hT) (by rfl) T.isinstance_ (by decide +kernel) (pa_cons (pv 0) (pa_cons (C8.pe_gc rfl G.v_InvalidColumn) pa_nil))) (pa_cons (pe_callB (call_isX hP hT) (by rfl) T.isinstance_ (by decide +kernel) (pa_cons (pv 0) (pa_cons (C8.pe_gc rfl G.v_InvalidStretch) pa_nil))) (pa_cons (pe_callB (call_isX hP hT) (by rfl) T.isinstance_ (by decide +kernel) (pa_cons (pv 0) (pa_cons (C8.pe_gc rfl G.v_InvalidSigns) pa_nil))) pa_nil))))))
      (pss_cons (ps_set (i := 1) nd rfl (.inl rfl) (pe_op opAdd (pv 1) (pe_lst (pa_cons (pe_callB (call_isX hP hT) (by rfl) T.isinstance_ (by decide +kernel) (pa_cons (pv 0) (pa_cons (C8.pe_gc rfl G.v_InvalidMember) pa_nil))) (pa_cons (pe_callB (call_isX hP hT) (by rfl) T.isinstance_ (by decide +kernel) (pa_cons (pv 0) (pa_cons (C8.pe_gc rfl G.v_InvalidWeights) pa_nil))) (pa_cons (pe_callB (call_isX hP hT) (by rfl) T.isinstance_ (by decide +kernel) (pa_cons (pv 0) (pa_cons (C8.pe_gc rfl G.v_NotATable) pa_nil))) pa_nil))))))
      (pss_cons (ps_set (i := 1) nd rfl (.inl rfl) (pe_op opAdd (pv 1) (pe_lst (pa_cons (pe_callB (call_isX hP hT) (by rfl) T.isinstance_ (by decide +kernel) (pa_cons (pv 0) (pa_cons (C8.pe_gc rfl G.v_InvalidCommand) pa_nil))) (pa_cons (pe_callB (call_isX hP hT) (by rfl) T.isinstance_ (by decide +kernel) (pa_cons (pv 0) (pa_cons (C8.pe_gc rfl G.v_UnknownName) pa_nil))) (pa_cons (pe_callB (call_isX hP hT) (by rfl) T.isinstance_ (by decide +kernel) (pa_cons (pv 0) (pa_cons (C8.pe_gc rfl G.v_TooFew) pa_nil))) pa_nil))))))
      (pss_cons (ps_set (i := 1) nd rfl (.inl rfl) (pe_op opAdd (pv 1) (pe_lst (pa_cons (pe_callB (call_isX hP hT) (by rfl) T.isinstance_ (by decide +kernel) (pa_cons (pv 0) (pa_cons (C8.pe_gc rfl G.v_TooMany) pa_nil))) (pa_cons (pe_callB (call_isX hP hT) (by rfl) T.isinstance_ (by decide +kernel) (pa_cons (pv 0) (pa_cons (C8.pe_gc rfl G.v_NotWhole) pa_nil))) (pa_cons (pe_callB (call_isX hP hT) (by rfl) T.isinstance_ (by decide +kernel) (pa_cons (pv 0) (pa_cons (C8.pe_gc rfl G.v_NothingToUndo) pa_nil))) pa_nil))))))
      (pss_cons (ps_set (i := 2) nd rfl (.inl rfl) (pe_lst (pa_cons (pe_callB (call_isX hP hT) (by rfl) T.isinstance_ (by decide +kernel) (pa_cons (pv 0) (pa_cons (C8.pe_gc rfl G.v_WrongValue) pa_nil))) (pa_cons (pe_callB (call_isX hP hT) (by rfl) T.isinstance_ (by decide +kernel) (pa_cons (pv 0) (pa_cons (C8.pe_gc rfl G.v_WrongName) pa_nil))) (pa_cons (pe_callB (call_isX hP hT) (by rfl) T.isinstance_ (by decide +kernel) (pa_cons (pv 0) (pa_cons (C8.pe_gc rfl G.v_NotPossible) pa_nil))) pa_nil)))))
      (pss_cons (ps_set (i := 3) nd rfl (.inl rfl) (pe_lst (pa_cons (pe_callB (call_isX hP hT) (by rfl) T.isinstance_ (by decide +kernel) (pa_cons (pv 0) (pa_cons (pe_bltn (v := .ty "ValueError") (u := .type "ValueError") (by rfl) G.ValueError_ (by decide +kernel) rfl) pa_nil))) (pa_cons (pe_callB (call_isX hP hT) (by rfl) T.isinstance_ (by decide +kernel) (pa_cons (pv 0) (pa_cons (pe_bltn (v := .ty "LookupError") (u := .type "LookupError") (by rfl) G.LookupError_ (by decide +kernel) rfl) pa_nil))) (pa_cons (pe_callB (call_isX hP hT) (by rfl) T.isinstance_ (by decide +kernel) (pa_cons (pv 0) (pa_cons (pe_bltn (v := .ty "ArithmeticError") (u := .type "ArithmeticError") (by rfl) G.ArithmeticError_ (by decide +kernel) rfl) pa_nil))) pa_nil)))))
      (pss_cons (ps_set (i := 4) nd rfl (.inl rfl) (pe_ifExp (pt_cmpR (opEq hu64) (pe_bm PySem.F.plainAttrs_list PySem.F.slot_list_count PySem.F.type_list_count mt_countF (pv 1) (pa_cons pe_bl pa_nil)) pe_int (nomark _)) (pe_bm PySem.F.plainAttrs_list PySem.F.slot_list_index PySem.F.type_list_index mt_index (pv 1) (pa_cons pe_bl pa_nil)) (pe_un un_neg pe_int)))
      (pss_cons (ps_if (PW.pt (pw_or (pt_cmpR opLt (pv 4) pe_int (nomark _)) (pw_or (pt_cmpR (opNe hu64) (pv 2) (pv 3) (nomark _)) (pw_or1 (pt_cmpR (opNe hu64) (pv 2) (pe_lst (pa_cons (pe_cmpR opLt (pv 4) pe_int (nomark _)) (pa_cons (pe_cmpR (opEq hu64) (pv 4) pe_int (nomark _)) (pa_cons (pe_cmpR op_gt (pv 4) pe_int (nomark _)) pa_nil)))) (nomark _)))))) (pss_one (ps_ret (pe_lst (pa_cons pe_str (pa_cons pe_str pa_nil))))) pss_nil)
      (pss_cons (ps_set (i := 5) nd rfl (.inl rfl) (pe_lst (pa_cons pe_str (pa_cons pe_str (pa_cons pe_str (pa_cons pe_str (pa_cons pe_str (pa_cons pe_str (pa_cons pe_str (pa_cons pe_str (pa_cons pe_str (pa_cons pe_str (pa_cons pe_str pa_nil)))))))))))))
      (pss_cons (ps_if (pt_cmpR (opEq hu64) (pv 4) pe_int (nomark _)) (pss_one (ps_ret (pe_lst (pa_cons pe_str (pa_cons pe_str pa_nil))))) pss_nil)
      (pss_one (ps_ret (pe_lst (pa_cons (pe_ix ix_seq (pe_op opAdd (pv 5) (pe_lst (pa_cons pe_str (pa_cons pe_str (pa_cons pe_str pa_nil))))) (pv 4) (fun _ _ => rfl)) (pa_cons (pe_callB (callReprD hG hu64) (by rfl) T.repr_ (by decide +kernel) (pa_cons (pe_ifExp (pt_cmpR opLt (pv 4) pe_int (nomark _)) (pe_xfX hP hXf B.nf_index (pv 0)) (pe_xfX hP hXf B.nf_given (pv 0))) pa_nil)) pa_nil)))))))))))))))), ?_⟩
  walk_at "e"
  refine ⟨_, _, _, _, rfl, .own _, (by walk_at "hp"), B.k_InvalidColumns, ?_⟩
  walk_at "e"
  refine ⟨_, _, _, _, rfl, .own _, (by walk_at "hp"), B.k_InvalidRows, ?_⟩
  walk_at "e"
  refine ⟨_, _, _, _, rfl, .own _, (by walk_at "hp"), B.k_InvalidText, ?_⟩
  refine ⟨len_le (n := 3) rfl (by decide), ?_⟩
  (intro l1 n1; generalize hh : upd _ l1 _ = H1; have s1 := same_of hh n1; have h1 := at_new hh; clear hh)
  walk_at "e"
  walk_at "e"
  refine ⟨_, _, _, _, rfl, .own _, (by walk_at "hp"), B.k_InvalidColumn, ?_⟩
  walk_at "e"
  refine ⟨_, _, _, _, rfl, .own _, (by walk_at "hp"), B.k_InvalidStretch, ?_⟩
  walk_at "e"
  refine ⟨_, _, _, _, rfl, .own _, (by walk_at "hp"), B.k_InvalidSigns, ?_⟩
  refine ⟨len_le (n := 3) rfl (by decide), ?_⟩
  (intro l2 n2; generalize hh : upd _ l2 _ = H2; have s2 := same_of hh n2; have h2 := at_new hh; clear hh)
  refine .inr (.inr (.inl ⟨_, _, _, _, rfl, rfl, (by walk_at "hp"), (by walk_at "hp"), len2_le (n := 6) rfl (by decide), ?_⟩))
  (intro l3 n3; generalize hh : upd _ l3 _ = H3; have s3 := same_of hh n3; have h3 := at_new hh; clear hh)
  walk_at "e"
  walk_at "e"
  refine ⟨_, _, _, _, rfl, .own _, (by walk_at "hp"), B.k_InvalidMember, ?_⟩
  walk_at "e"
  refine ⟨_, _, _, _, rfl, .own _, (by walk_at "hp"), B.k_InvalidWeights, ?_⟩
  walk_at "e"
  refine ⟨_, _, _, _, rfl, .own _, (by walk_at "hp"), B.k_NotATable, ?_⟩
  refine ⟨len_le (n := 3) rfl (by decide), ?_⟩
  (intro l4 n4; generalize hh : upd _ l4 _ = H4; have s4 := same_of hh n4; have h4 := at_new hh; clear hh)
  refine .inr (.inr (.inl ⟨_, _, _, _, rfl, rfl, (by walk_at "hp"), (by walk_at "hp"), len2_le (n := 9) rfl (by decide), ?_⟩))
  (intro l5 n5; generalize hh : upd _ l5 _ = H5; have s5 := same_of hh n5; have h5 := at_new hh; clear hh)
  walk_at "e"
  walk_at "e"
  refine ⟨_, _, _, _, rfl, .own _, (by walk_at "hp"), B.k_InvalidCommand, ?_⟩
  walk_at "e"
  refine ⟨_, _, _, _, rfl, .own _, (by walk_at "hp"), B.k_UnknownName, ?_⟩
  walk_at "e"
  refine ⟨_, _, _, _, rfl, .own _, (by walk_at "hp"), B.k_TooFew, ?_⟩
  refine ⟨len_le (n := 3) rfl (by decide), ?_⟩
  (intro l6 n6; generalize hh : upd _ l6 _ = H6; have s6 := same_of hh n6; have h6 := at_new hh; clear hh)
  refine .inr (.inr (.inl ⟨_, _, _, _, rfl, rfl, (by walk_at "hp"), (by walk_at "hp"), len2_le (n := 12) rfl (by decide), ?_⟩))
  (intro l7 n7; generalize hh : upd _ l7 _ = H7; have s7 := same_of hh n7; have h7 := at_new hh; clear hh)
  walk_at "e"
  walk_at "e"
  refine ⟨_, _, _, _, rfl, .own _, (by walk_at "hp"), B.k_TooMany, ?_⟩
  walk_at "e"
  refine ⟨_, _, _, _, rfl, .own _, (by walk_at "hp"), B.k_NotWhole, ?_⟩
  walk_at "e"
  refine ⟨_, _, _, _, rfl, .own _, (by walk_at "hp"), B.k_NothingToUndo, ?_⟩
  refine ⟨len_le (n := 3) rfl (by decide), ?_⟩
  (intro l8 n8; generalize hh : upd _ l8 _ = H8; have s8 := same_of hh n8; have h8 := at_new hh; clear hh)
  refine .inr (.inr (.inl ⟨_, _, _, _, rfl, rfl, (by walk_at "hp"), (by walk_at "hp"), len2_le (n := 15) rfl (by decide), ?_⟩))
  (intro l9 n9; generalize hh : upd _ l9 _ = H9; have s9 := same_of hh n9; have h9 := at_new hh; clear hh)
  walk_at "e"
  refine ⟨_, _, _, _, rfl, .own _, (by walk_at "hp"), B.k_WrongValue, ?_⟩
  walk_at "e"
  refine ⟨_, _, _, _, rfl, .own _, (by walk_at "hp"), B.k_WrongName, ?_⟩
  walk_at "e"
  refine ⟨_, _, _, _, rfl, .own _, (by walk_at "hp"), B.k_NotPossible, ?_⟩
  refine ⟨len_le (n := 3) rfl (by decide), ?_⟩
  (intro l10 n10; generalize hh : upd _ l10 _ = H10; have s10 := same_of hh n10; have h10 := at_new hh; clear hh)
  walk_at "e"
  refine ⟨_, _, _, _, rfl, .ty _, (by walk_at "hp"), B.k_ValueError, ?_⟩
  walk_at "e"
  refine ⟨_, _, _, _, rfl, .ty _, (by walk_at "hp"), B.k_LookupError, ?_⟩
  walk_at "e"
  refine ⟨_, _, _, _, rfl, .ty _, (by walk_at "hp"), B.k_ArithmeticError, ?_⟩
  refine ⟨len_le (n := 3) rfl (by decide), ?_⟩
  (intro l11 n11; generalize hh : upd _ l11 _ = H11; have s11 := same_of hh n11; have h11 := at_new hh; clear hh)
  walk_at "e"
  have hl9 := s11 _ _ (s10 _ _ h9)
  have hl10 := s11 _ _ h10
  have hd11 : H11 dd = some (.xd [(fldOf n, v)]) := by walk_at "hp"
  have s11' : Same H H11 := by walk_at "sm"
  clear h1 h2 h3 h4 h5 h6 h7 h8 n1 n2 n3 n4 n5 n6 n7 n8 s1 s2 s3 s4 s5 s6 s7 s8 n9 n10 n11 s9 s10 s11 h9 h10
  rcases hn with rfl | rfl
  · refine ⟨.inl ⟨rfl, _, SqL.of hl9⟩, ?_⟩
    refine ⟨_, _, _, rfl, rfl, SqL.of hl9, rfl, rfl, ?_⟩
    walk_at "es"
    refine ⟨.inl ⟨rfl, _, SqL.of hl9⟩, ?_⟩
    refine ⟨_, _, _, 0, V.bl true, rfl, rfl, SqL.of hl9, rfl, rfl, rfl, rfl, (fun m z' h e => by
      exact absurd h (by omega)), ?_⟩
    walk_at "es"
    refine .inr ⟨_, _, dp3 hl10, dp3 h11, rfl, rfl, _, rfl, iteNe (eqv3 _ _ _) ?_⟩
    walk_at "es"
    (intro l12 n12; generalize hh : upd _ l12 _ = H12; have s12 := same_of hh n12; have h12 := at_new hh; clear hh)
    refine .inr ⟨_, _, dp3 (s12 _ _ hl10), dp3 h12, rfl, rfl, _, rfl, iteNe (eqv3 _ _ _) ?_⟩
    refine ⟨len_le (n := 11) rfl (by decide), ?_⟩
    (intro l13 n13; generalize hh : upd _ l13 _ = H13; have s13 := same_of hh n13; have h13 := at_new hh; clear hh)
    walk_at "es"
    (intro l14 n14; generalize hh : upd _ l14 _ = H14; have s14 := same_of hh n14; have h14 := at_new hh; clear hh)
    refine .inr (.inr (.inl ⟨_, _, _, _, rfl, rfl, (s14 _ _ h13), h14, len2_le (n := 14) rfl (by decide), ?_⟩))
    (intro l15 n15; generalize hh : upd _ l15 _ = H15; have s15 := same_of hh n15; have h15 := at_new hh; clear hh)
    walk_at "e"
    refine .inl ⟨_, _, 0, _, rfl, rfl, SqL.of h15, atI_nat (j := 0) rfl, ?_⟩
    walk_at "e"
    walk_at "e"
    walk_at "e"
    refine iteT ?_
    walk_at "e"
    refine ⟨rfl, _, _, (by walk_at "hp"), rfl, ?_⟩
    have sz0 : Same H H15 := same_tr s15 (same_tr s14 (same_tr s13 (same_tr s12 s11')))
    refine ⟨p0, v, dt, rfl, hb.1.keep (ExB.of sz0), hb.2.1, hb.2.2.1, hb.2.2.2.1, hb.2.2.2.2, ?_⟩
    refine ⟨len_le (n := 2) rfl (by decide), ?_⟩
    (intro l16 n16; generalize hh : upd _ l16 _ = H16; have s16 := same_of hh n16; have h16 := at_new hh; clear hh)
    have sz : Same H H15 := same_tr s15 (same_tr s14 (same_tr s13 (same_tr s12 s11')))
    exact k l16 H16 (same_none sz n16) (same_tr s16 sz) h16
  · refine ⟨.inl ⟨rfl, _, SqL.of hl9⟩, ?_⟩
    refine ⟨_, _, _, rfl, rfl, SqL.of hl9, rfl, rfl, ?_⟩
    walk_at "es"
    refine ⟨.inl ⟨rfl, _, SqL.of hl9⟩, ?_⟩
    refine ⟨_, _, _, 1, V.bl true, rfl, rfl, SqL.of hl9, rfl, rfl, rfl, rfl, (fun m z' h e => by
      obtain rfl : m = 0 := by omega
      all_goals (cases e; rfl)), ?_⟩
    walk_at "es"
    refine .inr ⟨_, _, dp3 hl10, dp3 h11, rfl, rfl, _, rfl, iteNe (eqv3 _ _ _) ?_⟩
    walk_at "es"
    (intro l12 n12; generalize hh : upd _ l12 _ = H12; have s12 := same_of hh n12; have h12 := at_new hh; clear hh)
    refine .inr ⟨_, _, dp3 (s12 _ _ hl10), dp3 h12, rfl, rfl, _, rfl, iteNe (eqv3 _ _ _) ?_⟩
    refine ⟨len_le (n := 11) rfl (by decide), ?_⟩
    (intro l13 n13; generalize hh : upd _ l13 _ = H13; have s13 := same_of hh n13; have h13 := at_new hh; clear hh)
    walk_at "es"
    (intro l14 n14; generalize hh : upd _ l14 _ = H14; have s14 := same_of hh n14; have h14 := at_new hh; clear hh)
    refine .inr (.inr (.inl ⟨_, _, _, _, rfl, rfl, (s14 _ _ h13), h14, len2_le (n := 14) rfl (by decide), ?_⟩))
    (intro l15 n15; generalize hh : upd _ l15 _ = H15; have s15 := same_of hh n15; have h15 := at_new hh; clear hh)
    walk_at "e"
    refine .inl ⟨_, _, 1, _, rfl, rfl, SqL.of h15, atI_nat (j := 1) rfl, ?_⟩
    walk_at "e"
    walk_at "e"
    walk_at "e"
    refine iteT ?_
    walk_at "e"
    refine ⟨rfl, _, _, (by walk_at "hp"), rfl, ?_⟩
    have sz0 : Same H H15 := same_tr s15 (same_tr s14 (same_tr s13 (same_tr s12 s11')))
    refine ⟨p0, v, dt, rfl, hb.1.keep (ExB.of sz0), hb.2.1, hb.2.2.1, hb.2.2.2.1, hb.2.2.2.2, ?_⟩
    refine ⟨len_le (n := 2) rfl (by decide), ?_⟩
    (intro l16 n16; generalize hh : upd _ l16 _ = H16; have s16 := same_of hh n16; have h16 := at_new hh; clear hh)
    have sz : Same H H15 := same_tr s15 (same_tr s14 (same_tr s13 (same_tr s12 s11')))
    exact k l16 H16 (same_none sz n16) (same_tr s16 sz) h16
end
end Cs
set_option maxHeartbeats 4000000
/-! Rules of my own: errors of own classes over any built-in base, held as values. -/
namespace PySem
namespace CsLow
open PySem.W PySem.Calls PyProof.Rows PySem.HandSPX Builtin
abbrev rawX (C t : Addr) (d : Option Addr) : Obj := { cls := .ref C, dict := d, data := .fields #[.ref t, .none, .none, .none, .bool false, .none] }
section
variable {prog : Program} {w : World} {A : Around} {R : Result → Shared → Prop} {h : Heap} {g : Array GenState} {d : Drawn} {t : Nat} {os : OsState}
variable {nm q : Str} {C N : Addr} {bs bm bmB : List Value} {hdct : Bool} {sn : List Str} {sub : List Value} {ab : Bool} {col : Option Bool} {dd : Option Addr} {k0 k1 k2 k3 k5 : Option Value} {B newId initId : String}
/-- BaseException.__new__ given keywords: it does not look at them -/
theorem fresh_kw (FB : ExcBaseFacts B newId initId bmB) (tl : ∀ Y : String, bm.contains (.type Y) = bmB.contains (.type Y)) {f : Str} {u : Value}
    (at_ : h.get? C = some (excClassObj nm q C N bs bm hdct sn sub ab col dd k0 k1 k2 k3 k5 newId)) (k : R (.ok (.ret (.ref (h.objs.size + 1)))) ⟨(h.push { cls := .type "tuple", data := .seq #[] }).push (rawX C h.objs.size none), g, d, t, os⟩) :
    codeAny (model prog w) A (.builtin newId ⟨[.ref C], [(f, u)]⟩) R ⟨h, g, d, t, os⟩ := by
  have inB : ∀ Y, bmB.contains (.type Y) = true → (Value.ref C :: bm).contains (.type Y) = true := fun Y z => by rw [List.contains_cons, tl, z, Bool.or_true]
  have noB : ∀ Y, bmB.contains (.type Y) = false → (Value.ref C :: bm).contains (.type Y) = false := fun Y z => by
    rw [List.contains_cons, tl, z]
    rfl
  have b1 := inB _ FB.hasB
  have b2 := noB _ FB.noAttr
  have b3 := noB _ FB.noName
  have ends := FB.ends
  refine codeAny_builtinAt FB.entry ?_
  unfold Builtin.«BaseException.__new__»
  refine wpAt_bind (show wpAt _ _ _ (stack >>= _) _ _ _ from wpAt_bind (wpAt_stack fun _ _ => wpAt_of_wpAny ?_))
  wp_walk
  refine wpAt_of_wpAny ?_
  rw [FB.owner]
  repeat (first | with_reducible refine wpAny_madeHere_exc FB.canon at_ ?_ | with_reducible refine wpAny_loadPart_at at_ ?_ | (with_reducible refine wpAny_isSubtype_exc at_ ?_; first | rw [b1] | rw [b2] | rw [b3]) | wp_step)
  show R _ _
  rw [Heap.size_push]
  exact k
/-- .. and its check lets them pass -/
theorem check_kw {M : Model} {E : Value → Shared → Prop} (FB : ExcBaseFacts B newId initId bmB) (tl : ∀ Y : String, bm.contains (.type Y) = bmB.contains (.type Y)) {f : Str} {u : Value} {Q : Unit → Shared → Prop}
    (at_ : h.get? C = some (excClassObj nm q C N bs bm hdct sn sub ab col dd k0 k1 k2 k3 k5 newId)) (k : Q () ⟨h, g, d, t, os⟩) : wpAny M A (checkBuiltinCall newId ⟨[.ref C], [(f, u)]⟩) Q E ⟨h, g, d, t, os⟩ := by
  have inB : (Value.ref C :: bm).contains (.type B) = true := by rw [List.contains_cons, tl, FB.hasB, Bool.or_true]
  have star := FB.noStar
  simp only [checkBuiltinCall, FB.newKind, FB.newSplit, FB.newRow]
  repeat (first | refine wpAny_loadPart_at at_ ?_ | (refine wpAny_isSubtype_exc at_ ?_; rw [inB]) | refine wpAny_staticBase_exc at_ ?_ | refine wpAny_madeBy_exc at_ ?_ | simp only [bne_self_eq_false, Bool.false_eq_true, if_false] | wp_step)
  exact k
theorem type_kw (FB : ExcBaseFacts B newId initId bmB) (tl : ∀ Y : String, bm.contains (.type Y) = bmB.contains (.type Y)) {f : Str} {u : Value} {fI : Addr} {Q : Fin → Shared → Prop} {E : Value → Shared → Prop}
    (at_ : h.get? C = some (excClassObj nm q C N bs bm hdct sn sub ab col dd k0 k1 k2 k3 k5 newId)) (hi : W.Looks (model prog w) h (typeLookup (.ref C) "__init__") (some (.ref fI))) (hb : ∀ self, W.Looks (model prog w) h (bindSpecial (.ref fI) self) (.ref fI, [self]))
    (k : codeAny (model prog w) A (.call (.ref fI) ⟨[.ref (h.objs.size + 1)], [(f, u)]⟩)
      (fun r s' => match r with | .ok (.ret v) => v = .none ∧ Q (.done (.ret (.ref (h.objs.size + 1)))) s' | .ok _ => False | .error e => E e s')
      ⟨(h.push { cls := .type "tuple", data := .seq #[] }).push (rawX C h.objs.size none), g, d, t, os⟩) :
    wpAny (model prog w) A (Builtin.«type.__call__» ⟨[.ref C], [(f, u)]⟩) Q E ⟨h, g, d, t, os⟩ := by
  repeat (first | with_reducible refine wpAny_loadPart_at at_ ?_ | with_reducible refine wpAny_madeBy_exc at_ ?_ | wp_step)
  refine codeAny_call_builtin_code (Code.quiet_builtin _ FB.quiet) (check_kw FB tl at_ (fresh_kw FB tl at_ (show wpAny _ _ _ _ _ _ from ?_)))
  have grow : ∀ b o, h.get? b = some o → ((h.push { cls := .type "tuple", data := .seq #[] }).push (rawX C h.objs.size none)).get? b = some o := fun b o e => Heap.get?_push_of_some _ (Heap.get?_push_of_some _ e)
  have at2 := grow _ _ at_
  have atE : ((h.push { cls := .type "tuple", data := .seq #[] }).push (rawX C h.objs.size none)).get? (h.objs.size + 1) = some (rawX C h.objs.size none) := by heap_get
  have own : (Value.ref C :: bm).contains (.ref C) = true := by simp
  have j1 := hi.keeps grow
  have j2 := (hb (.ref (h.objs.size + 1))).keeps grow
  unfold isInstance
  repeat (first | with_reducible refine wpAny_loadPart_at atE ?_ | (with_reducible refine wpAny_isSubtype_exc at2 ?_; rw [own]) | wp_step)
  refine (show wpAny _ _ (typeLookup (.ref C) _) _ _ _ from j1.at (wpAny_holding (wpAny_bind (j2.at (wpAny_bind (wpAny_call (codeAny_mono k fun r s' z => ?_)))))))
  rcases r with e | (v | _ | _ | _) <;> first | exact z | exact z.elim | skip
  obtain ⟨rfl, z⟩ := z
  first | exact wpAny_pure (wpAny_pure z) | (wp_walk; exact z)
/-- C(f=u), C of errors with an __init__ of its own: the new error, then __init__ with it and the keyword -/
theorem call_kw (FB : ExcBaseFacts B newId initId bmB) (tl : ∀ Y : String, bm.contains (.type Y) = bmB.contains (.type Y)) {f : Str} {u : Value} {fI : Addr}
    (at_ : h.get? C = some (excClassObj nm q C N bs bm hdct sn sub ab col dd k0 k1 k2 k3 k5 newId)) (hi : W.Looks (model prog w) h (typeLookup (.ref C) "__init__") (some (.ref fI))) (hb : ∀ self, W.Looks (model prog w) h (bindSpecial (.ref fI) self) (.ref fI, [self]))
    (k : codeAny (model prog w) (A.under (.builtin "type.__call__" ⟨[.ref C], [(f, u)]⟩)) (.call (.ref fI) ⟨[.ref (h.objs.size + 1)], [(f, u)]⟩) (W.InitBack (h.objs.size + 1) R)
      ⟨(h.push { cls := .type "tuple", data := .seq #[] }).push (rawX C h.objs.size none), g, d, t, os⟩) :
    codeAny (model prog w) A (.call (.ref C) ⟨[], [(f, u)]⟩) R ⟨h, g, d, t, os⟩ := by
  have l1 := tc_lookup
  have l2 := tc_bind (.ref C)
  have isT : (⟨h, g, d, t, os⟩ : Shared).TypeIs (.ref C) "type" := ⟨_, at_, rfl⟩
  have grow : ∀ b o, h.get? b = some o → ((h.push { cls := .type "tuple", data := .seq #[] }).push (rawX C h.objs.size none)).get? b = some o := fun b o e => Heap.get?_push_of_some _ (Heap.get?_push_of_some _ e)
  refine codeAny_of_tree (show wpAny _ _ (callAny (.ref C) _) _ _ _ from ?_)
  repeat (any_goals (first | assumption | with_reducible refine wpAny_loadPart_at at_ ?_ | wp_step))
  refine ⟨rfl, ?_⟩
  refine codeAny_call_builtin_at (Code.quiet_builtin _ (by decide +kernel)) entry_typeCall (wpAny_check_type_call_sub at_ ?_)
  refine type_kw (A := A.under _) FB tl at_ hi hb (codeAny_mono k fun r s' z => ?_)
  rcases r with e | (v | _ | _ | _) <;> exact z
end
end CsLow
end PySem
set_option maxHeartbeats 4000000
/-! Comprehensions over data. -/
namespace Cs
open PySem L2 PyProof.Rows
theorem RpTA.get {p : Addr} {H : Hp} : ∀ {vs : List V} {ds : List PyData} {i : Nat} {v : V}, RpTA p H vs ds → vs[i]? = some v → ∃ d, ds[i]? = some d ∧ RpT p H v d
  | _, _, i, v, .nil, h => by simp at h
  | _, _, 0, v, .cons r t, h => by
    cases h
    exact ⟨_, rfl, r⟩
  | _, _, i + 1, v, .cons r t, h => by
    rw [List.getElem?_cons_succ] at h
    obtain ⟨d, e, q⟩ := RpTA.get t h
    exact ⟨d, by rw [List.getElem?_cons_succ]; exact e, q⟩
theorem RpTA.at_ {p : Addr} {H : Hp} : ∀ {vs : List V} {ds : List PyData} {i : Nat} {d : PyData}, RpTA p H vs ds → ds[i]? = some d → ∃ v, vs[i]? = some v ∧ RpT p H v d
  | _, _, i, d, .nil, h => by simp at h
  | _, _, 0, d, .cons r t, h => by
    cases h
    exact ⟨_, rfl, r⟩
  | _, _, i + 1, d, .cons r t, h => by
    rw [List.getElem?_cons_succ] at h
    obtain ⟨v, e, q⟩ := RpTA.at_ t h
    exact ⟨v, by rw [List.getElem?_cons_succ]; exact e, q⟩
theorem RpTA.snoc {p : Addr} {H : Hp} {vs : List V} {ds : List PyData} {v : V} {d : PyData} (h : RpTA p H vs ds) (r : RpT p H v d) : RpTA p H (vs ++ [v]) (ds ++ [d]) := h.append (.cons r .nil)
theorem take_snoc {α : Type} {xs : List α} {i : Nat} {x : α} (h : xs[i]? = some x) : xs.take (i + 1) = xs.take i ++ [x] := by
  rw [List.take_succ, h]
  rfl
section
variable {K : PySem.W.Frag} {p : Addr} {ds es : List PyData} {tl : TE} {ta : TA} {g : TG} {te : TE} {vs : List Nat} {σ : L2.St} {H1 : Hp} {Q : VK}
theorem lc_data (hl : es.length = ds.length) (hz : ds.length ≤ 1000) (ht : ∀ R : VK, (∀ v H2, Same H1 H2 → RpT p H2 v (.tuple ds) → R v H2) → tl σ H1 R)
    (hs : ∀ (j : Nat) (z : V) (d e : PyData) (H : Hp), ds[j]? = some d → es[j]? = some e → Same H1 H → RpT p H z d → ∀ R : VK, (∀ y H3, Same H H3 → RpT p H3 y e → R y H3) → g z (wipe σ vs) H fun σ2 H2 => wipe σ2 vs = wipe σ vs ∧ te σ2 H2 R)
    (k : ∀ D ys H', H1 D = none → Same H1 H' → H' D = some (.lst ys) → RpTA p H' ys es → Q (.ref D) H') : tLc (iTup K tl) g tYes te vs σ H1 Q := by
  refine ht _ fun v H2 s12 rv => ?_
  cases rv with
  | @tup a xs _ n h z r =>
    refine ⟨a, rfl, ⟨xs, SqT.rd h⟩, fun D hD => ?_⟩
    have ln := r.length
    refine lc_tup (K := K) (a := a) (xs := xs) (fun i H => Same H2 H ∧ ∃ ys, H D = some (.lst ys) ∧ ys.length = i ∧ RpTA p H ys (es.take i)) ⟨same_new hD, [], upd_same, rfl, .nil⟩ (fun i H _ p => SqT.rd (Rd.same h p.1)) (fun i x H hi ⟨sm, ys, hd, ly, ry⟩ => ?_) (fun H ⟨sm, ys, hd, ly, ry⟩ => k D ys H (s12.free hD) (s12.trans sm) hd (by rw [List.take_of_length_le (by omega)] at ry; exact ry))
    have hi2 := (List.getElem?_eq_some_iff.mp hi).1
    obtain ⟨d, hd2, rd⟩ := r.get hi
    have hy : i < es.length := by omega
    have key := hs i x d es[i] H hd2 (List.getElem?_eq_getElem hy) (s12.trans sm) (rd.keep (ExT.of (ExB.of sm))) (fun y H4 => ∃ acc, H4 D = some (.lst acc) ∧ acc.length < sizeLine ∧ Same H2 (upd H4 D (.lst (acc ++ [y]))) ∧ ∃ ys, upd H4 D (.lst (acc ++ [y])) D = some (.lst ys) ∧ ys.length = i + 1 ∧ RpTA p (upd H4 D (.lst (acc ++ [y]))) ys (es.take (i + 1))) fun y H3 s3 r3 => ?_
    · exact key
    · have hd3 := s3 _ _ hd
      refine ⟨ys, hd3, ?_, fun b o e => ?_, _, upd_same, ?_, ?_⟩
      · rw [ly]
        exact Nat.lt_of_lt_of_le (by omega : i < 1000) (by decide)
      · rw [upd_ne (ne_of_none e hD)]
        exact s3 _ _ (sm _ _ e)
      · rw [List.length_append, ly]
        rfl
      · rw [take_snoc (List.getElem?_eq_getElem hy)]
        exact ((ry.keep (ExT.of (ExB.of s3))).snoc r3).keep (ExT.put hd3)
theorem lc_dataL (hl : es.length = ds.length) (hz : ds.length ≤ 1000) (ht : ∀ R : VK, (∀ a xs H2, Same H1 H2 → H2 a = some (.lst xs) → RpTA p H2 xs ds → R (.ref a) H2) → tl σ H1 R)
  (hs : ∀ (j : Nat) (z : V) (d e : PyData) (H : Hp), ds[j]? = some d → es[j]? = some e → Same H1 H → RpT p H z d → ∀ R : VK, (∀ y H3, Same H H3 → RpT p H3 y e → R y H3) → g z (wipe σ vs) H fun σ2 H2 => wipe σ2 vs = wipe σ vs ∧ te σ2 H2 R)
  (k : ∀ D ys H', H1 D = none → Same H1 H' → H' D = some (.lst ys) → RpTA p H' ys es → Q (.ref D) H') : tLc (iList K tl) g tYes te vs σ H1 Q := by
  refine ht _ fun a xs H2 s12 h r => ?_
  refine ⟨a, rfl, ⟨xs, SqL.of h⟩, fun D hD => ?_⟩
  have ln := r.length
  refine lc_list (K := K) (a := a) (xs := xs) (fun i H => Same H2 H ∧ ∃ ys, H D = some (.lst ys) ∧ ys.length = i ∧ RpTA p H ys (es.take i)) ⟨same_new hD, [], upd_same, rfl, .nil⟩ (fun i H _ p => SqL.of (p.1 _ _ h)) (fun i x H hi ⟨sm, ys, hd, ly, ry⟩ => ?_) (fun H ⟨sm, ys, hd, ly, ry⟩ => k D ys H (s12.free hD) (s12.trans sm) hd (by rw [List.take_of_length_le (by omega)] at ry; exact ry))
  have hi2 := (List.getElem?_eq_some_iff.mp hi).1
  obtain ⟨d, hd2, rd⟩ := r.get hi
  have hy : i < es.length := by omega
  have key := hs i x d es[i] H hd2 (List.getElem?_eq_getElem hy) (s12.trans sm) (rd.keep (ExT.of (ExB.of sm))) (fun y H4 => ∃ acc, H4 D = some (.lst acc) ∧ acc.length < sizeLine ∧ Same H2 (upd H4 D (.lst (acc ++ [y]))) ∧ ∃ ys, upd H4 D (.lst (acc ++ [y])) D = some (.lst ys) ∧ ys.length = i + 1 ∧ RpTA p (upd H4 D (.lst (acc ++ [y]))) ys (es.take (i + 1))) fun y H3 s3 r3 => ?_
  · exact key
  · have hd3 := s3 _ _ hd
    refine ⟨ys, hd3, ?_, fun b o e => ?_, _, upd_same, ?_, ?_⟩
    · rw [ly]
      exact Nat.lt_of_lt_of_le (by omega : i < 1000) (by decide)
    · rw [upd_ne (ne_of_none e hD)]
      exact s3 _ _ (sm _ _ e)
    · rw [List.length_append, ly]
      rfl
    · rw [take_snoc (List.getElem?_eq_getElem hy)]
      exact ((ry.keep (ExT.of (ExB.of s3))).snoc r3).keep (ExT.put hd3)
theorem lc_zipD {fs : List PyData} (hl : es.length = min ds.length fs.length) (hz : ds.length ≤ 1000) (ht : ∀ R : List V → Hp → Prop, (∀ u v H2, Same H1 H2 → RpT p H2 u (.tuple ds) → RpT p H2 v (.tuple fs) → R [u, v] H2) → ta σ H1 R)
    (hs : ∀ (j : Nat) (T : Addr) (x y : V) (d f e : PyData) (H : Hp), ds[j]? = some d → fs[j]? = some f → es[j]? = some e → Same H1 H → H T = some (.tup [x, y]) → RpT p H x d → RpT p H y f → ∀ R : VK, (∀ y H3, Same H H3 → RpT p H3 y e → R y H3) → g (.ref T) (wipe σ vs) H fun σ2 H2 => wipe σ2 vs = wipe σ vs ∧ te σ2 H2 R)
    (k : ∀ D ys H', H1 D = none → Same H1 H' → H' D = some (.lst ys) → RpTA p H' ys es → Q (.ref D) H') : tLc (RZ.iZipA K ta) g tYes te vs σ H1 Q := by
  refine ht _ fun u v H2 s12 ru rv => ?_
  cases ru with
  | @tup a xs _ n h z r =>
    cases rv with
    | @tup b zs _ n' h' z' r' =>
      have ln := r.length
      have ln' := r'.length
      refine ⟨a, b, xs, zs, rfl, .inr ⟨SqT.rd h, SqT.rd h', fun D hD => ?_⟩⟩
      refine ⟨fun i m H => m = es.length - i ∧ i ≤ es.length ∧ Same H2 H ∧ ∃ ys, H D = some (.lst ys) ∧ ys.length = i ∧ RpTA p H ys (es.take i), ⟨es.length, by simp, Nat.zero_le _, same_new hD, [], upd_same, rfl, .nil⟩, ?_⟩
      rintro i m H ⟨rfl, hi, sm, ys, hd, ly, ry⟩
      by_cases hlt : i < es.length
      · have hx : i < xs.length := by omega
        have hy : i < zs.length := by omega
        refine .inr ⟨⟨xs, zs, xs[i], zs[i], SqT.rd (Rd.same h sm), SqT.rd (Rd.same h' sm), List.getElem?_eq_getElem hx, List.getElem?_eq_getElem hy⟩, fun H' => Same H2 H' ∧ ∃ ys, H' D = some (.lst ys) ∧ ys.length = i + 1 ∧ RpTA p H' ys (es.take (i + 1)), fun H' p' => ⟨es.length - (i + 1), by omega, rfl, hlt, p'⟩, fun w H' yl => ?_⟩
        obtain ⟨T, x, y, rfl, hT, rfl, e1, e2⟩ := yl
        have gx := e1 xs (SqT.rd (Rd.same h sm))
        have gy := e2 zs (SqT.rd (Rd.same h' sm))
        obtain ⟨d, hd2, rd⟩ := r.get gx
        obtain ⟨f, hf2, rf⟩ := r'.get gy
        have sT : Same H (upd H T (.tup [x, y])) := same_new hT
        have key := hs i T x y d f es[i] _ hd2 hf2 (List.getElem?_eq_getElem hlt) ((s12.trans sm).trans sT) upd_same (rd.keep (ExT.of (ExB.of (sm.trans sT)))) (rf.keep (ExT.of (ExB.of (sm.trans sT))))
          (fun y H4 => ∃ acc, H4 D = some (.lst acc) ∧ acc.length < sizeLine ∧ Same H2 (upd H4 D (.lst (acc ++ [y]))) ∧ ∃ ys, upd H4 D (.lst (acc ++ [y])) D = some (.lst ys) ∧ ys.length = i + 1 ∧ RpTA p (upd H4 D (.lst (acc ++ [y]))) ys (es.take (i + 1))) fun y H3 s3 r3 => ?_
        · exact key
        · have hd3 := s3 _ _ (sT _ _ hd)
          refine ⟨ys, hd3, ?_, fun b o e => ?_, _, upd_same, ?_, ?_⟩
          · rw [ly]
            exact Nat.lt_of_lt_of_le (by omega : i < 1000) (by decide)
          · rw [upd_ne (ne_of_none e hD)]
            exact s3 _ _ (sT _ _ (sm _ _ e))
          · rw [List.length_append, ly]
            rfl
          · rw [take_snoc (List.getElem?_eq_getElem hlt)]
            exact ((ry.keep (ExT.of (ExB.of (sT.trans s3)))).snoc r3).keep (ExT.put hd3)
      · have e : i = es.length := by omega
        subst e
        refine .inl ⟨⟨xs, zs, SqT.rd (Rd.same h sm), SqT.rd (Rd.same h' sm), by omega⟩, k D ys H (s12.free hD) (s12.trans sm) hd (by rw [List.take_of_length_le (Nat.le_refl _)] at ry; exact ry)⟩
/-- over zip, by a test: as many v's as pass -/
theorem lc_zipF {fs : List PyData} {tt : TT} {c : PyData → PyData → Bool} {v : V} (hl : ds.length ≤ 1000) (ht : ∀ R : List V → Hp → Prop, (∀ u v H2, Same H1 H2 → RpT p H2 u (.tuple ds) → RpT p H2 v (.tuple fs) → R [u, v] H2) → ta σ H1 R)
    (hs : ∀ (j : Nat) (T : Addr) (x y : V) (d f : PyData) (H : Hp), ds[j]? = some d → fs[j]? = some f → Same H1 H → H T = some (.tup [x, y]) → RpT p H x d → RpT p H y f → ∀ R : Bool → Hp → Prop, (∀ H3, Same H H3 → R (c d f) H3) → g (.ref T) (wipe σ vs) H fun σ2 H2 => wipe σ2 vs = wipe σ vs ∧ tt σ2 H2 R)
    (k : ∀ D n H', H1 D = none → Same H1 H' → H' D = some (.lst (List.replicate n v)) → (decide (n = 0) = (ds.zip fs).all fun q => !c q.1 q.2) → Q (.ref D) H') : tLc (RZ.iZipA K ta) g tt (tC v) vs σ H1 Q := by
  refine ht _ fun u w H2 s12 ru rv => ?_
  cases ru with
  | @tup a xs _ n h z r =>
    cases rv with
    | @tup b zs _ n' h' z' r' =>
      have ln := r.length
      have ln' := r'.length
      have lz : (ds.zip fs).length = min ds.length fs.length := List.length_zip
      refine ⟨a, b, xs, zs, rfl, .inr ⟨SqT.rd h, SqT.rd h', fun D hD => ?_⟩⟩
      refine ⟨fun i m H => m = (ds.zip fs).length - i ∧ i ≤ (ds.zip fs).length ∧ Same H2 H ∧ ∃ n, H D = some (.lst (List.replicate n v)) ∧ n ≤ i ∧ decide (n = 0) = ((ds.zip fs).take i).all (fun q => !c q.1 q.2), ⟨(ds.zip fs).length, by simp, Nat.zero_le _, same_new hD, 0, upd_same, Nat.le_refl _, rfl⟩, ?_⟩
      rintro i m H ⟨rfl, hi, sm, cn, hd, lc, ec⟩
      by_cases hlt : i < (ds.zip fs).length
      · have hx : i < xs.length := by omega
        have hy : i < zs.length := by omega
        refine .inr ⟨⟨xs, zs, xs[i], zs[i], SqT.rd (Rd.same h sm), SqT.rd (Rd.same h' sm), List.getElem?_eq_getElem hx, List.getElem?_eq_getElem hy⟩, fun H' => Same H2 H' ∧ ∃ n, H' D = some (.lst (List.replicate n v)) ∧ n ≤ i + 1 ∧ decide (n = 0) = ((ds.zip fs).take (i + 1)).all (fun q => !c q.1 q.2), fun H' p' => ⟨(ds.zip fs).length - (i + 1), by omega, rfl, hlt, p'⟩, fun w' H' yl => ?_⟩
        obtain ⟨T, x, y, rfl, hT, rfl, e1, e2⟩ := yl
        have gx := e1 xs (SqT.rd (Rd.same h sm))
        have gy := e2 zs (SqT.rd (Rd.same h' sm))
        obtain ⟨d, hd2, rd⟩ := r.get gx
        obtain ⟨f, hf2, rf⟩ := r'.get gy
        have sT : Same H (upd H T (.tup [x, y])) := same_new hT
        have gz : (ds.zip fs)[i]? = some (d, f) := by
          rw [List.getElem?_zip_eq_some]
          exact ⟨hd2, hf2⟩
        have key := hs i T x y d f _ hd2 hf2 ((s12.trans sm).trans sT) upd_same (rd.keep (ExT.of (ExB.of (sm.trans sT)))) (rf.keep (ExT.of (ExB.of (sm.trans sT))))
          (fun b H3 => if b = true then ∃ acc, H3 D = some (.lst acc) ∧ acc.length < sizeLine ∧ (Same H2 (upd H3 D (.lst (acc ++ [v]))) ∧ ∃ n, upd H3 D (.lst (acc ++ [v])) D = some (.lst (List.replicate n v)) ∧ n ≤ i + 1 ∧ decide (n = 0) = ((ds.zip fs).take (i + 1)).all (fun q => !c q.1 q.2))
            else Same H2 H3 ∧ ∃ n, H3 D = some (.lst (List.replicate n v)) ∧ n ≤ i + 1 ∧ decide (n = 0) = ((ds.zip fs).take (i + 1)).all (fun q => !c q.1 q.2)) fun H3 s3 => ?_
        · exact key
        have hd3 := s3 _ _ (sT _ _ hd)
        have sA := sm.trans (sT.trans s3)
        cases e : c d f with
        | false =>
          rw [if_neg Bool.false_ne_true]
          refine ⟨sA, cn, hd3, by omega, ?_⟩
          rw [take_snoc gz, List.all_append, ← ec]
          simp [e]
        | true =>
          rw [if_pos rfl]
          refine ⟨_, hd3, ?_, fun b o q => ?_, cn + 1, ?_, by omega, ?_⟩
          · rw [List.length_replicate]
            exact Nat.lt_of_lt_of_le (by omega : cn < 1001) (by decide)
          · rw [upd_ne (ne_of_none q hD)]
            exact sA _ _ q
          · rw [upd_same, List.replicate_succ']
          · rw [take_snoc gz, List.all_append]
            simp [e]
      · have e : i = (ds.zip fs).length := by omega
        subst e
        refine .inl ⟨⟨xs, zs, SqT.rd (Rd.same h sm), SqT.rd (Rd.same h' sm), by omega⟩, k D cn H (s12.free hD) (s12.trans sm) hd ?_⟩
        rw [ec, List.take_of_length_le (Nat.le_refl _)]
end
section
variable {X : Cx} {K : PySem.W.Frag} {es : List Expr} {k n : Nat} {t : TGs} {pos : Pos} {e : Expr} {ta : TE} {f : Str}
/-- the target of a comprehension, K told apart -/
theorem pg_tupK (hK : X.K = K) (hc : X.calm = true) (h : PGs X es t) (hn : (assignEach es X.env).length = n := by rfl) (hst : (assignEach es X.env).findIdx? (fun x => x.1) = none := by rfl) : PG X (.Tuple es k pos) (gTup K n t) := by
  subst hK
  exact pg_tup hc h hn hst
theorem pe_fldK (hK : X.K = K) (ha : PE X e ta) (hb : attributeBase e f X.env (eval e X.env) = eval e X.env) : PE X (.Attribute e f pos) (tFld K ta f) := by
  subst hK
  exact pe_fld ha hb
end
mutual
theorem RpT.dp {p : Addr} {H : Hp} {K : PySem.W.Frag} : ∀ {v : V} {d : PyData}, RpT p H v d → Dp K H v d
  | _, _, .non => .non
  | _, _, .bl b => .bl b
  | _, _, .int i => .int i
  | _, _, .str x h => .str x
  | _, _, .tup n h z r => .tup (SqT.rd h) (RpTA.dp r)
theorem RpTA.dp {p : Addr} {H : Hp} {K : PySem.W.Frag} : ∀ {vs : List V} {ds : List PyData}, RpTA p H vs ds → DpAll K H vs ds
  | _, _, .nil => .nil
  | _, _, .cons h t => .cons (RpT.dp h) (RpTA.dp t)
end
theorem lay_map {α : Type} {f : α → PyData} : ∀ {xs : List α}, (∀ x ∈ xs, (f x).canLay0 = true) → PyData.canLayAll0 (xs.map f) = true
  | [], _ => rfl
  | x :: xs, h => by
    show ((f x).canLay0 && PyData.canLayAll0 (xs.map f)) = true
    rw [h x List.mem_cons_self, lay_map fun y hy => h y (List.mem_cons_of_mem _ hy)]
    rfl
theorem dep_map {α : Type} {f : α → PyData} {b : Nat} : ∀ {xs : List α}, (∀ x ∈ xs, (f x).depth ≤ b) → PyData.depthAll (xs.map f) ≤ b
  | [], _ => Nat.zero_le _
  | x :: xs, h => Nat.max_le.mpr ⟨h x List.mem_cons_self, dep_map fun y hy => h y (List.mem_cons_of_mem _ hy)⟩
theorem strOk_name {x : Str} (h : isName (.str x) = true) : PyData.strOk x = true := by
  have h2 := (Bool.and_eq_true_iff.mp (show ((decide (1 ≤ x.length) && decide (x.length ≤ 8)) && x.cps.toList.all letterC) = true from h)).2
  show x.cps.all (fun c => decide (c < 0x110000)) = true
  rw [← Array.all_toList, List.all_eq_true]
  intro c hc
  have h3 := List.all_eq_true.mp h2 c hc
  have h4 := of_decide_eq_true (Bool.and_eq_true_iff.mp (show (decide (97 ≤ c) && decide (c ≤ 122)) = true from h3)).2
  exact decide_eq_true (by omega)
end Cs
set_option maxHeartbeats 4000000
/-! Rules of my own: errors of own classes over any built-in base, held as values. -/
namespace Cs
open PySem L2 PyProof.Rows
open PySem.W (InstAt)
open Builtin Builtin.ObjectAttr
/-- what is known of an own class of errors at C, over the built-in base B -/
structure OexG (K : PySem.W.Frag) (C : Addr) (bmB : List Value) (newId : String) : Prop where
  ini : PySem.W.excInitIn K C bmB newId = true
  over : PySem.W.excOver K C bmB = true
  sa : PySem.W.findIn K (.ref C) "__setattr__" = some (some (.builtin "object.__setattr__"))
  hd : PySem.W.hasDictIn K C = true
  kC : PySem.W.keepIn K (.ref C) = true
abbrev rawX (C t : Addr) (d : Option Addr) : Obj := { cls := .ref C, dict := d, data := .fields #[.ref t, .none, .none, .none, .bool false, .none] }
section
variable {prog : Program} {w : World} {A : Around} {E : Value → Shared → Prop} {s : Shared}
/-- the first store to an error that has no dict yet -/
theorem store_first {K : PySem.W.Frag} {x C t : Addr} {name : Str} {tk : Tok} {v : Value} {b : Bool} {Q : Fin → Shared → Prop} (X : K.In s.heap) (hx : s.heap.get? x = some (rawX C t none)) (hh : PySem.W.hasDictIn K C = true)
    (k : ∀ h' tk' dx, (∀ b o, b ≠ x → s.heap.get? b = some o → h'.get? b = some o) → s.heap.objs.size ≤ dx → dx ≠ x → h'.get? x = some (rawX C t (some dx)) → h'.Ns1 dx (fun y => if y = name then some v else none) →
      Q (.done (.ret .none)) { s with heap := h', toks := tk' }) :
    wpAny (model prog w) A (storeInOwnDict (.ref x) (.ref C) (.str name tk) name v b) Q E s := by
  obtain ⟨cd, hc, hh⟩ := PySem.W.any_some hh
  have LC : PySem.W.Looks (model prog w) s.heap (classData C) cd := PySem.W.looks_clsIn X hc
  obtain ⟨hp, g, d, tok, os⟩ := s
  have nx : x ≠ hp.objs.size := Nat.ne_of_lt (Heap.lt_size hx)
  obtain ⟨c1, c2, c3, c4, c5, c6, c7, c8, c9, c10, c11⟩ := cd
  have hh : c6 = true := hh
  subst hh
  unfold storeInOwnDict ownDictForStores
  repeat (first | with_reducible refine HandSPX.store_in_new ?_ ?_ | with_reducible refine wpAny_loadPart_at hx ?_ | with_reducible refine LC.at ?_ | wp_step)
  · exact ⟨_, #[], _, (Heap.get?_update_ne _ _ _ _ (Ne.symm nx)).trans (Heap.get?_push_at rfl rfl), rfl, fun y hy => absurd hy (by simp), fun _ => rfl⟩
  · intro h2 t2 n2 b2
    have old : (hp.push { cls := .type "dict", data := .dict #[] }).get? x = some (rawX C t none) := Heap.get?_push_of_some _ hx
    refine k h2 t2 hp.objs.size (fun y o ny hy => ?_) (Nat.le_refl _) (Ne.symm nx) ?_ n2
    · rw [b2.2 y (Nat.ne_of_lt (Heap.lt_size hy)), Heap.get?_update_ne _ _ _ _ ny]
      exact Heap.get?_push_of_some _ hy
    · rw [b2.2 x nx]
      exact Heap.get?_update_self _ old rfl
end
section
variable {X : Cx} {pins : List (Addr × Obj)} {σ : L2.St} {H : Hp} {s : Shared} {a C : Addr} {f : Str} {y : V} {u : Value} {bmB : List Value} {B newId initId : String}
/-- self.f = y in an __init__, the first one -/
theorem set_first {A : Around} {E : Value → Shared → Prop} {Q : Unit → Shared → Prop} (SF : StoreFacts B bmB "object.__setattr__" "object") (T : OexG X.K C bmB newId) (I : L2.Inv X pins σ H s) (e : H a = some (exo a C none)) (ht : PySem.W.takerIn X.K C f = some none) (ry : RelV y u)
    (h : ∀ dx s', H dx = none → dx ≠ a → L2.Inv X pins σ (upd (upd H dx (exd dx [(f, y)])) a (exo a C (some dx))) s' → Q () s') : wpAny (model X.prog X.w) A (setAttr (.ref a) f u) Q E s := by
  obtain ⟨t, ho⟩ := exo_at I.hok e
  have KI := I.kIn
  obtain ⟨hp, g, d, tok, os⟩ := s
  refine PySem.W.set_plain KI (ox := rawX C t none) (od := none) ⟨ho, rfl, rfl, trivial⟩ T.sa (PySem.W.osa_openX (ox := rawX C t none) (od := none) SF KI ⟨ho, rfl, rfl, trivial⟩ T.over ht fun b => store_first KI ho T.hd fun h2 t2 dx kp ge ne at2 ns => ?_)
  have hdx : H dx = none := I.hok.fresh ge
  have da : ∀ {b : Addr}, H b = none → b ≠ a := fun {b} n z => by
    rw [z, e] at n
    exact nomatch n
  have dd : ∀ {b : Addr} {o : Obj}, hp.get? b = some o → b ≠ dx := fun {b o} q z => absurd (Heap.lt_size q) (by rw [z]; exact Nat.not_lt.mpr ge)
  have eq2 : ∀ b o, H b = some o → o ≠ exo a C none → upd (upd H dx (exd dx [(f, y)])) a (exo a C (some dx)) b = some o := fun b o q nq => by
    rw [upd_ne (fun z => by rw [z, e] at q; exact nq (Option.some.inj q).symm), upd_ne (ne_of_none q hdx)]
    exact q
  have U : Un X.fs [] H (upd (upd H dx (exd dx [(f, y)])) a (exo a C (some dx))) hp h2 := by
    refine ⟨?_, ?_, ?_, ?_, ?_, ?_, ?_⟩
    · exact fun b o q n _ _ => kp b o (da n) q
    · exact fun b o q n _ _ => ⟨o.slots, kp b o (da n) q⟩
    · exact fun b o q n _ => (upd_ne (da n)).trans ((upd_ne (dd q)).trans n)
    · intro b o q _
      by_cases z : b = a
      · exact z ▸ ⟨_, at2⟩
      · exact ⟨o, kp b o z q⟩
    · exact fun b xs q => eq2 b _ q (Ne.symm exo_tup)
    · exact fun b o v q => eq2 b _ q (Ne.symm exo_frz)
    · exact fun b ps q => ⟨#[], by rw [eq2 b _ q (Ne.symm exo_tbl)]; simp⟩
  refine h dx _ hdx ne (I.un (t' := t2) U fun b o q => ?_)
  by_cases za : b = a
  · subst za
    obtain rfl := Option.some.inj ((upd_same).symm.trans q)
    exact exo_ok at2
  · rw [upd_ne za] at q
    by_cases zd : b = dx
    · subst zd
      obtain rfl := Option.some.inj ((upd_same).symm.trans q)
      exact exd_ok ns (relO_put (fs := []) ry fun _ => trivial)
    · rw [upd_ne zd] at q
      refine (I.hok b o q).stay (fun c v hc z => kp c v ?_ z) (fun c hc => eq2 c _ hc (Ne.symm exo_own)) (fun c xs hc => eq2 c _ hc (Ne.symm exo_tup))
      rcases hc with hc | hc
      · exact hc ▸ za
      · exact at_ne e hc exo_own
def tSetF (a C : Addr) (f : Str) (te : TE) : TS := fun D σ H => te σ H fun y H1 => H1 a = some (exo a C none) ∧ σ[0]? = some (some (.ref a)) ∧ ∀ dx, H1 dx = none → dx ≠ a → D.nx σ (upd (upd H1 dx (exd dx [(f, y)])) a (exo a C (some dx)))
end
/-- __init__ of an error that keeps what it is made with under the name f -/
def SpXI (C : Addr) (f : Str) : Sp := fun vs H Q _ => ∃ (a : Addr) (y : V), vs = [.ref a, y] ∧ H a = some (exo a C none) ∧
  ∀ d, H d = none → d ≠ a → Q .non (upd (upd H d (exd d [(f, y)])) a (exo a C (some d)))
section
variable {X : Cx} {C : Addr} {f : Str} {bmB : List Value} {B newId initId : String} {o e : Expr} {to te : TE} {p' pos : Pos}
def tOsG (C : Addr) (f : Str) (to te : TE) : TS := fun D σ H => te σ H fun y H1 => to σ H1 fun x H2 => ∃ a : Addr, x = .ref a ∧ H2 a = some (exo a C none) ∧ ∀ dx, H2 dx = none → dx ≠ a → D.nx σ (upd (upd H2 dx (exd dx [(f, y)])) a (exo a C (some dx)))
theorem ps_osG (SF : StoreFacts B bmB "object.__setattr__" "object") (T : OexG X.K C bmB newId) (ht : PySem.W.takerIn X.K C f = some none) (ho : PE X o to) (he : PE X e te) (hs : swapsWith e (some (.Attribute o f p')) pos.line X.env = pure false := by rfl) :
    PS X (.Assign [.Attribute o f p'] e pos) (tOsG C f to te) := by
  refine ⟨fun pins s σ H D I h => plainObj_wpAny_Assign_Attribute (thn (he.run pins s σ H _ I h) ?_) hs⟩
  rintro v s1 ⟨y, H1, I1, r1, q1⟩
  refine thn (ho.run pins s1 σ H1 _ I1 q1) ?_
  rintro u s2 ⟨x, H2, I2, r2, a, rfl, ea, q⟩
  cases r2
  exact set_first SF T I2 ea ht r1 fun dx s' n ne J => ⟨σ, _, J, q dx n ne⟩
end
/-- what C(v) makes: a new error at a, its dict at d -/
def tMkV (C : Addr) (f : Str) (ta : TA) : TE := fun σ H Q => ta σ H fun vs H1 => ∃ v, vs = [v] ∧ ∀ a d H', H1 a = none → H1 d = none → Same H1 H' → H' a = some (exo a C (some d)) → H' d = some (exd d [(f, v)]) → Q (.ref a) H'
/-- what is known of the class x, which keeps one thing under f -/
structure XAt (K : PySem.W.Frag) (mg : Str → Option Value) (x : Str) (C : Addr) (f : Str) (bmB : List Value) (newId : String) (fI : Addr) (fd : FuncData) : Prop where
  T : OexG K C bmB newId
  g : mg x = some (.ref C)
  ini : PySem.W.findIn K (.ref C) "__init__" = some (some (.ref fI))
  ty : PySem.W.typeIn K (.ref fI) = some (.type "function")
  b : Binds K fd ["self", f] []
  kb : KBn K fd ["self", f] 1 [f] (fun us ws => us ++ ws) (fun vs zs => vs ++ zs)
/-- what __init__ has made of the new error at a -/
def MadeOf (H : Hp) (C : Addr) (f : Str) (v : V) (a : Addr) (H' : Hp) : Prop := ∃ d, H d = none ∧ Same H H' ∧ H' a = some (exo a C (some d)) ∧ H' d = some (exd d [(f, v)])
section
variable {X : Cx} {C fI : Addr} {f : Str} {bmB : List Value} {B newId initId : String} {e : Expr} {te : TE} {fd : FuncData} {p pos kp : Pos} {x : Str} {pins : List (Addr × Obj)} {σ : L2.St} {H : Hp} {s : Shared} {u : Value} {v : V} {Q : VK}
/-- the making, whatever way v comes in: what __init__ leaves is the error -/
theorem made_end {A : Around} {args : Args} (F : FnOk X.prog X.w X.K X.mg X.base CX0 1 fI fd ["self", f] (SpXI C f)) (hr : Room 1 A) {h2 : Heap} {g : Array GenState} {dr : Drawn} {tk : Nat} {os : OsState} {a : Addr} (hn : H a = none)
    (e0 : Env0 X.prog X.w X.K X.mg X.base A X.stack ⟨h2, g, dr, tk, os⟩ (upd H a (exo a C none))) (I2 : L2.Inv X pins σ (upd H a (exo a C none)) ⟨h2, g, dr, tk, os⟩) (hb : BindsTo ⟨h2, g, dr, tk, os⟩ fd args [("self", .ref a), (f, u)]) (r : RelV v u)
    (k : ∀ d H', H d = none → Same H H' → H' a = some (exo a C (some d)) → H' d = some (exd d [(f, v)]) → Q (.ref a) H') :
    codeAny (model X.prog X.w) A (.call (.ref fI) args) (fun r s' => match r with | .ok (.ret z) => z = .none ∧ EP X pins σ Q (.ref a) s' | _ => False) ⟨h2, g, dr, tk, os⟩ := by
  refine codeAny_mono (F.run A X.stack ⟨h2, g, dr, tk, os⟩ (upd H a (exo a C none)) args [.ref a, u] [.ref a, v] (fun z H3 => z = .non ∧ MadeOf H C f v a H3) (fun _ _ _ => False) hr e0 hb (.cons rfl (.cons r .nil)) ⟨a, v, rfl, upd_same, fun d hd hne => ⟨rfl, d, ?_, fun b o q => ?_, upd_same, ?_⟩⟩) fun rr s' hq => ?_
  · rw [upd_ne hne] at hd
    exact hd
  · rw [upd_ne hne] at hd
    rw [upd_ne (ne_of_none q hn), upd_ne (ne_of_none q hd), upd_ne (ne_of_none q hn)]
    exact q
  · rw [upd_ne hne, upd_same]
  · cases rr with
    | error z => exact False.elim hq
    | ok fl =>
      cases fl with
      | next => exact False.elim hq
      | brk => exact False.elim hq
      | cont => exact False.elim hq
      | ret z =>
        obtain ⟨y, H3, o3, b3, u3, k3, rz, ez, d, hd, sm, h1, h2'⟩ := hq
        subst ez
        refine ⟨rz, .ref a, H3, I2.call' (ch := []) o3 u3 k3 b3 (fun b hb => (List.not_mem_nil hb).elim), rfl, k d H3 hd sm h1 h2'⟩
theorem run_pos (FB : ExcBaseFacts B newId initId bmB) (D : XAt X.K X.mg x C f bmB newId fI fd) (F : FnOk X.prog X.w X.K X.mg X.base CX0 1 fI fd ["self", f] (SpXI C f)) (hr : Room 2 X.A) (I : L2.Inv X pins σ H s) (r : RelV v u)
    (k : ∀ a d H', H a = none → H d = none → Same H H' → H' a = some (exo a C (some d)) → H' d = some (exd d [(f, v)]) → Q (.ref a) H') : wpAny (model X.prog X.w) X.A (call (.ref C) [u]) (EP X pins σ Q) X.xe s := by
  have KI := I.kIn
  obtain ⟨nm, N', qn, bs, bm, hdct, sn, sub, ab, col, dd, k0, k1, k2, k3, k5, hC, hT⟩ := PySem.W.excInit_of KI D.T.ini
  obtain ⟨hp, g, dr, tk, os⟩ := s
  have ge : hp.objs.size ≤ hp.objs.size + 1 := Nat.le_succ _
  have hn : H (hp.objs.size + 1) = none := I.hok.fresh ge
  have at2 : ((hp.push (PySem.W.kdv_tup [u])).push (HandSPX.excO C hp.objs.size)).get? (hp.objs.size + 1) = some (HandSPX.excO C hp.objs.size) := by heap_get
  have I2 := I.laid (t' := tk) (a := hp.objs.size + 1) (o := exo (hp.objs.size + 1) C none) (h' := (hp.push (PySem.W.kdv_tup [u])).push (HandSPX.excO C hp.objs.size)) (fun b o q => Heap.get?_push_of_some _ (Heap.get?_push_of_some _ q)) ge (exo_ok at2)
  refine wpAny_call (HandSPX.call_own FB hT hC (PySem.W.looks_findIn KI D.ini) (fun self => PySem.W.bind_fn KI self D.ty) (by show 1 ≤ sizeLine; decide) (codeAny_mono (made_end F (hr.make C [u] []) hn (I2.env0.make C [u] []) I2
    (D.b _ [.ref (hp.objs.size + 1), u] I2.kIn rfl) r fun d H' => k _ d H' hn) fun rr s' hq => ?_))
  rcases rr with z | (z | _ | _ | _) <;> first | exact hq | exact False.elim hq
theorem run_kw (FB : ExcBaseFacts B newId initId bmB) (D : XAt X.K X.mg x C f bmB newId fI fd) (F : FnOk X.prog X.w X.K X.mg X.base CX0 1 fI fd ["self", f] (SpXI C f)) (hr : Room 2 X.A) (I : L2.Inv X pins σ H s) (r : RelV v u)
    (k : ∀ a d H', H a = none → H d = none → Same H H' → H' a = some (exo a C (some d)) → H' d = some (exd d [(f, v)]) → Q (.ref a) H') : codeAny (model X.prog X.w) X.A (.call (.ref C) ⟨[], [(f, u)]⟩) (fun r s' => match r with | .ok (.ret z) => EP X pins σ Q z s' | _ => False) s := by
  have KI := I.kIn
  obtain ⟨nm, N', qn, bs, bm, hdct, sn, sub, ab, col, dd, k0, k1, k2, k3, k5, hC, hT⟩ := PySem.W.excInit_of KI D.T.ini
  obtain ⟨hp, g, dr, tk, os⟩ := s
  have ge : hp.objs.size ≤ hp.objs.size + 1 := Nat.le_succ _
  have hn : H (hp.objs.size + 1) = none := I.hok.fresh ge
  have at2 : ((hp.push { cls := .type "tuple", data := .seq #[] }).push (CsLow.rawX C hp.objs.size none)).get? (hp.objs.size + 1) = some (CsLow.rawX C hp.objs.size none) := by heap_get
  have I2 := I.laid (t' := tk) (a := hp.objs.size + 1) (o := exo (hp.objs.size + 1) C none) (h' := (hp.push { cls := .type "tuple", data := .seq #[] }).push (CsLow.rawX C hp.objs.size none)) (fun b o q => Heap.get?_push_of_some _ (Heap.get?_push_of_some _ q)) ge (exo_ok at2)
  refine CsLow.call_kw FB hT hC (PySem.W.looks_findIn KI D.ini) (fun self => PySem.W.bind_fn KI self D.ty) (codeAny_mono (made_end F (hr.make C [] [(f, u)]) hn (I2.env0.make C [] [(f, u)]) I2
    (D.kb.to _ [.ref (hp.objs.size + 1)] [u] I2.kIn rfl rfl) r fun d H' => k _ d H' hn) fun rr s' hq => ?_)
  rcases rr with z | (z | _ | _ | _) <;> first | exact hq | exact False.elim hq
/-- C(e), as a value -/
theorem mk_pos (FB : ExcBaseFacts B newId initId bmB) (D : XAt X.K X.mg x C f bmB newId fI fd) (F : FnOk X.prog X.w X.K X.mg X.base CX0 1 fI fd ["self", f] (SpXI C f)) (hr : Room 2 X.A) (hg : Gl X x) (he : PE X e te) (hdb : (x == ("__debug__" : Str)) = false := by rfl)
    (hs : starEach [e] X.env = (false, eval e X.env) :: starEach [] X.env := by rfl) (hpl : ((backTo pos (starEach [] X.env)).any fun x => x.1) = false := by rfl) : PE X (.Call (.Name x p) [e] [] pos) (tMkV C f (tCons te tNil)) := by
  refine ⟨fun pins s σ H Q I h => wpAny_Call_Name_kw (ld_glob I hg D.g (PySem.W.callWith_K I.ok.mod.kin D.T.kC (thn ((pa_cons he pa_nil hs).run pos pins s σ H _ I h) ?_) hs hpl) hdb)⟩
  rintro us s1 ⟨vs, H1, I1, r, v, rfl, k⟩
  refine ⟨I1.kIn, ?_⟩
  obtain ⟨u, rfl, ru⟩ := r.one
  exact run_pos FB D F hr I1 ru k
/-- C(f=e), as a value -/
theorem mk_kw (FB : ExcBaseFacts B newId initId bmB) (D : XAt X.K X.mg x C f bmB newId fI fd) (F : FnOk X.prog X.w X.K X.mg X.base CX0 1 fI fd ["self", f] (SpXI C f)) (hr : Room 2 X.A) (hg : Gl X x) (he : PE X e te) (hdb : (x == ("__debug__" : Str)) = false := by rfl)
    (hall : ((backToKw pos (keywordEach [⟨some f, e, kp⟩] X.env)).all fun x => x.1.isSome) = true := by rfl) (hks : (backToKw pos (keywordEach [⟨some f, e, kp⟩] X.env)).filterMap (fun x => x.1) = [f] := by rfl)
    (hpl : (((backTo pos (starEach [] X.env)).any fun x => x.1) || ((backToKw pos (keywordEach [⟨some f, e, kp⟩] X.env)).any fun x => x.1.isNone)) = false := by rfl) : PE X (.Call (.Name x p) [] [⟨some f, e, kp⟩] pos) (tMkV C f (tCons te tNil)) := by
  refine ⟨fun pins s σ H Q I h => wpAny_Call_Name_kw (ld_glob I hg D.g (PySem.W.callWith_KW0 (h₀ := X.base) I.ok.mod.kin D.T.kC hall (thn ((pk_cons he pk_nil).run pos pins s σ H _ I h) ?_) hpl) hdb)⟩
  rintro us s1 ⟨vs, H1, I1, r, v, rfl, k⟩
  refine ⟨I1.kIn, ?_⟩
  obtain ⟨u, rfl, ru⟩ := r.one
  rw [hks]
  refine wpAny_call (codeAny_mono (run_kw FB D F hr I1 ru k) fun rr s' hq => ?_)
  rcases rr with z | (z | _ | _ | _) <;> first | exact hq | exact False.elim hq
end
end Cs
set_option maxHeartbeats 4000000
/-! Rules of my own: len, str, == of an own object; a raise of an own error over any built-in base. -/
namespace Cs
open PySem L2 PyProof.Rows
section
variable {X : Cx} {CX : CXT} {k : Nat} {g C : Addr} {fd : FuncData} {ps : List Str} {sp : Sp} {E : XK}
/-- a def of the text, called from within a builtin that the body runs -/
theorem run_at {A' : Around} {pins : List (Addr × Obj)} {σ : L2.St} {H : Hp} {s : Shared} {us : List Value} {vs : List V} {Q : VK} (sb : Sub X k A') (F : FnOk X.prog X.w X.K X.mg X.base CX k g fd ps sp) (hb : Binds X.K fd ps []) (hx : Passes CX X E) (I : L2.Inv X pins σ H s) (r : Vals vs us) (h : sp vs H Q E) :
    wpAny (model X.prog X.w) A' (call (.ref g) us) (EP X pins σ Q) X.xe s := by
  have e0 : Env0 X.prog X.w X.K X.mg X.base A' X.stack s H := by
    have e := I.env0
    exact ⟨by rw [sb.fr]; exact e.frames, e.mod, e.bs, e.bsz, e.funs, e.frf, e.hok, e.bare⟩
  have hl2 : us.length = ps.length := by rw [← r.length]; exact F.len _ _ _ _ h
  refine wpAny_call (codeAny_mono (F.run A' X.stack s H ⟨us, []⟩ us vs Q E sb.room e0 (by
    have z := hb s us I.kIn (by rw [List.append_nil]; exact hl2)
    rw [List.append_nil] at z
    exact z) r h) fun rr s' hq => ?_)
  cases rr with
  | error e => exact hx pins σ H s e s' I hq
  | ok fl =>
    cases fl with
    | ret w => exact I.after hq
    | next => exact False.elim hq
    | brk => exact False.elim hq
    | cont => exact False.elim hq
def rLenI (C : Addr) (sp : Sp) (E : XK) : List V → Hp → VK → Prop := fun xs H Q => ∃ (a dx : Addr) (fs : List (Str × V)), xs = [.ref a] ∧ H a = some (.ins C dx fs) ∧ sp [.ref a] H (fun v H' => ∃ n : Nat, v = .int (n : Nat) ∧ n < 1000000 ∧ Q (.int (n : Nat)) H') E
theorem call_lenI (F : FnOk X.prog X.w X.K X.mg X.base CX k g fd ps sp) (hr : Room (k + 1) X.A) (hb : Binds X.K fd ps []) (hx : Passes CX X E) (hs : PySem.W.findIn X.K (.ref C) "__len__" = some (some (.ref g))) (hf : PySem.W.isFn X.K (.ref g) = true) :
    CallR X (.builtin "len") (rLenI C sp E) := by
  rintro pins s σ H xs us Q I r ⟨a, dx, fs, rfl, ha, q⟩
  obtain ⟨u, rfl, ru⟩ := r.one
  cases ru
  obtain ⟨mA, J, _⟩ := ins_get I.hok ha
  obtain ⟨od, J, _⟩ := J.look
  obtain ⟨m, hF⟩ := I.fr
  refine PySem.W.len_K hF I.ok.mod.kin J hs hf (wpAny_mono (run_at (vs := [.ref a]) (Sub.in1 ⟨hr, rfl⟩) F hb hx I (.cons rfl .nil) q) (fun v s' hv => ?_) fun _ _ e => e)
  obtain ⟨x, H', I', rx, n, rfl, hn, q'⟩ := hv
  obtain ⟨t, rfl⟩ := rx
  exact ⟨⟨by omega, by omega⟩, .int (n : Nat), H', I'.tok _, ⟨_, rfl⟩, q'⟩
def rStrI (C : Addr) (sp : Sp) (E : XK) : List V → Hp → VK → Prop := fun xs H Q => ∃ (a dx : Addr) (fs : List (Str × V)), xs = [.ref a] ∧ H a = some (.ins C dx fs) ∧ sp [.ref a] H (fun v H' => ∃ y : Str, v = .str y ∧ Q (.str y) H') E
theorem call_strI (F : FnOk X.prog X.w X.K X.mg X.base CX k g fd ps sp) (hr : Room (k + 2) X.A) (hb : Binds X.K fd ps []) (hx : Passes CX X E) (hs : PySem.W.findIn X.K (.ref C) "__str__" = some (some (.ref g))) (hf : PySem.W.isFn X.K (.ref g) = true) :
    CallR X (.type "str") (rStrI C sp E) := by
  rintro pins s σ H xs us Q I r ⟨a, dx, fs, rfl, ha, q⟩
  obtain ⟨u, rfl, ru⟩ := r.one
  cases ru
  obtain ⟨mA, J, _⟩ := ins_get I.hok ha
  obtain ⟨od, J, _⟩ := J.look
  have sb : Sub X k X.A.in1.in1 := Sub.in1 (Sub.in1 ⟨hr, rfl⟩)
  refine PySem.W.kso_call sb.room.units0 I.kIn J hs hf (wpAny_mono (run_at (vs := [.ref a]) sb F hb hx I (.cons rfl .nil) q) (fun v s' hv => ?_) fun _ _ e => e)
  obtain ⟨x, H', I', rx, y, rfl, q'⟩ := hv
  obtain ⟨t, rfl⟩ := rx
  exact ⟨.str y, H', I', ⟨_, rfl⟩, q'⟩
/-- two objects of the class C, compared by its own == -/
def rEqI (C : Addr) (sp : Sp) (E : XK) : R2 := fun x y H Q => ∃ (a b dx dy : Addr) (fs gs : List (Str × V)), x = .ref a ∧ y = .ref b ∧ H a = some (.ins C dx fs) ∧ H b = some (.ins C dy gs) ∧ sp [.ref a, .ref b] H (fun v H' => ∃ z : Bool, v = .bl z ∧ Q (.bl z) H') E
theorem op_eqI (F : FnOk X.prog X.w X.K X.mg X.base CX k g fd ps sp) (hr : Room k X.A) (hb : Binds X.K fd ps []) (hx : Passes CX X E) (hs : PySem.W.findIn X.K (.ref C) "__eq__" = some (some (.ref g))) (hf : PySem.W.isFn X.K (.ref g) = true) :
    OpR X (compareOp .Eq) (rEqI C sp E) := by
  rintro pins s σ H x y v u Q I rx ry ⟨a, b, dx, dy, fs, gs, rfl, rfl, ha, hb', q⟩
  cases rx
  cases ry
  obtain ⟨mA, J, _⟩ := ins_get I.hok ha
  obtain ⟨mB, J', _⟩ := ins_get I.hok hb'
  obtain ⟨od, J, _⟩ := J.look
  obtain ⟨od', J', _⟩ := J'.look
  obtain ⟨m, hF⟩ := I.fr
  show wpAny (model X.prog X.w) X.A (richCompare .Eq (.ref a) (.ref b)) (EP X pins σ Q) X.xe s
  refine PySem.W.cmp_K (op := .Eq) (tb := .ref C) hr.units0 hF I.ok.mod.kin J J'.type (by simp [PySem.W.notFirst]) hs hf (wpAny_mono (run_at (vs := [.ref a, .ref b]) ⟨hr, rfl⟩ F hb hx I (.cons rfl (.cons rfl .nil)) q) (fun v s' hv => ?_) fun _ _ e => e)
  obtain ⟨x, H', I', rx, z, rfl, q'⟩ := hv
  cases rx
  exact ⟨.bl z, H', I', rfl, q'⟩
end
section
variable {X : Cx} {x : Str} {C fI : Addr} {k : Nat} {fd : FuncData} {ps : List Str} {sp : Sp} {e : Expr} {es : List Expr} {ta : TA} {p pos : Pos} {B newId initId : String} {bmB : List Value}
/-- C(e, ..) of an own error over any built-in base, to be raised -/
theorem pmk_oexG {CX : CXT} {ds : List Value} {dvs : List V} (FB : ExcBaseFacts B newId initId bmB) (T : OexG X.K C bmB newId) (exC : PySem.W.subIn X.K (.ref C) (.type "BaseException") = some true) (tyC : PySem.W.typeIn X.K (.ref C) = some (.type "type"))
    (iC : PySem.W.findIn X.K (.ref C) "__init__" = some (some (.ref fI))) (tI : PySem.W.typeIn X.K (.ref fI) = some (.type "function"))
    (F1 : FnOk X.prog X.w X.K X.mg X.base CX k fI fd ps sp) (hr : Room (k + 1) X.A) (hb : Binds X.K fd ps ds) (hd : Vals dvs ds) (hx : Passes CX X (fun _ _ _ => False)) (hg : Gl X x) (hm : X.mg x = some (.ref C)) (ha : PA X (e :: es) ta)
    (hdb : (x == ("__debug__" : Str)) = false) (he : starEach (e :: es) X.env = (false, eval e X.env) :: starEach es X.env) (hpl : ((backTo pos (starEach es X.env)).any fun x => x.1) = false) :
    PMk X (.Call (.Name x p) (e :: es) [] pos) (tMkO C sp dvs ta) := by
  intro pins s σ H Q I h
  refine wpAny_Call_Name_kw (ld_glob I hg hm ?_ hdb)
  refine PySem.W.callWith_K (h₀ := X.base) I.ok.mod.kin T.kC (thn (ha.run pos pins s σ H _ I h) fun us s1 ⟨vs, H1, I1, r1, hz, q1⟩ => ⟨I1.kIn, ?_⟩) he hpl
  show wpAny _ _ (call (.ref C) us) _ _ _
  obtain ⟨nm, N', qn, bs, bm, hdct, sn, sub, ab, col, dd, k0, k1, k2, k3, k5, hC, hT⟩ := PySem.W.excInit_of I1.kIn T.ini
  obtain ⟨hp, g, dr, tk, os⟩ := s1
  have hsz : hp.objs.size ≤ hp.objs.size + 1 := Nat.le_succ _
  have hn : H1 (hp.objs.size + 1) = none := I1.hok.fresh hsz
  have hq := q1 (hp.objs.size + 1) hn
  have kk : ∀ b o, hp.get? b = some o → ((hp.push (PySem.W.kdv_tup us)).push (PySem.HandSPX.excO C hp.objs.size)).get? b = some o := fun b o e => Heap.get?_push_of_some _ (Heap.get?_push_of_some _ e)
  have hget : ((hp.push (PySem.W.kdv_tup us)).push (PySem.HandSPX.excO C hp.objs.size)).get? (hp.objs.size + 1) = some (PySem.HandSPX.excO C hp.objs.size) := by heap_get
  have I2 : L2.Inv X pins σ (upd H1 (hp.objs.size + 1) (exo (hp.objs.size + 1) C none)) ⟨(hp.push (PySem.W.kdv_tup us)).push (PySem.HandSPX.excO C hp.objs.size), g, dr, tk, os⟩ :=
    I1.laid (t' := tk) (a := hp.objs.size + 1) (o := exo (hp.objs.size + 1) C none) (h' := (hp.push (PySem.W.kdv_tup us)).push (PySem.HandSPX.excO C hp.objs.size)) kk hsz (exo_ok hget)
  have r2 : Vals (V.ref (hp.objs.size + 1) :: (vs ++ dvs)) (Value.ref (hp.objs.size + 1) :: (us ++ ds)) := .cons rfl (r1.append hd)
  have hl : (Value.ref (hp.objs.size + 1) :: us ++ ds).length = ps.length := by
    have e := r2.length
    rw [F1.len _ _ _ _ hq] at e
    exact e.symm
  have hus : us.length ≤ sizeLine := by
    rw [← Paired.length r1, sizeLine_eq]
    omega
  refine wpAny_call (PySem.HandSPX.call_own FB hT hC (PySem.W.looks_findIn I1.kIn iC) (fun self => PySem.W.bind_fn I1.kIn self tI) hus
    (codeAny_mono (F1.run _ X.stack _ _ ⟨Value.ref (hp.objs.size + 1) :: us, []⟩ (Value.ref (hp.objs.size + 1) :: (us ++ ds)) _ _ (fun _ _ _ => False) (hr.make C us []) (I2.env0.make C us []) (hb _ (Value.ref (hp.objs.size + 1) :: us) I2.kIn hl) r2 hq) fun r s' hq' => ?_))
  cases r with
  | error er => exact hx pins σ _ _ er s' I2 hq'
  | ok fl =>
    cases fl with
    | ret u =>
      obtain ⟨v, H2, os2, bare2, un2, hok2, rv, ev, d, fs, ea, ed, hd1, q2⟩ := hq'
      subst ev
      obtain ⟨h2, g2, d2, t2, os'⟩ := s'
      exact ⟨rv, mk_end (raises_own exC tyC) I1 hsz kk un2 hok2 os2 bare2 ea ed hd1 q2⟩
    | next => exact False.elim hq'
    | brk => exact False.elim hq'
    | cont => exact False.elim hq'
end
/-- an error class of the text that can be raised with one argument, kept under f -/
structure RaiseAt (P : Program) (w : World) (K : PySem.W.Frag) (mg : Str → Option Value) (base : Heap) (x : Str) (C : Addr) (f : Str) : Prop where
  ex : ∃ (B newId initId : String) (bmB : List Value) (fI : Addr) (fd : FuncData), ExcBaseFacts B newId initId bmB ∧ XAt K mg x C f bmB newId fI fd ∧ FnOk P w K mg base CX0 1 fI fd ["self", f] (SpXI C f)
  exC : PySem.W.subIn K (.ref C) (.type "BaseException") = some true
  tyC : PySem.W.typeIn K (.ref C) = some (.type "type")
section
variable {X : Cx} {x f : Str} {C : Addr} {e : Expr} {te : TE} {p pos : Pos}
theorem pmk_rx (h : RaiseAt X.prog X.w X.K X.mg X.base x C f) (hr : Room 2 X.A) (hg : Gl X x) (he : PE X e te) (hdb : (x == ("__debug__" : Str)) = false) (hs : starEach [e] X.env = (false, eval e X.env) :: starEach [] X.env) (hpl : ((backTo pos (starEach [] X.env)).any fun x => x.1) = false) :
    PMk X (.Call (.Name x p) [e] [] pos) (tMkO C (SpXI C f) [] (tCons te tNil)) := by
  obtain ⟨B, newId, initId, bmB, fI, fd, FB, D, F⟩ := h.ex
  exact pmk_oexG FB D.T h.exC h.tyC D.ini D.ty F hr D.b .nil pass0 hg D.g (pa_cons he pa_nil hs) hdb hs hpl
/-- behind the argument -/
theorem xmkI {v : V} {H1 : Hp} {Q : XK} (k : ∀ d H', H1 d = none → Same H1 H' → H' d = some (.xd [(f, v)]) → Q (.ref C) (some d) H') :
    [v].length ≤ 1000 ∧ ∀ a, H1 a = none → SpXI C f (.ref a :: ([v] ++ [])) (upd H1 a (exo a C none))
      (fun u H2 => u = .non ∧ ∃ (d : Addr) (fs : List (Str × V)), H2 a = some (exo a C (some d)) ∧ H2 d = some (exd d fs) ∧ H1 d = none ∧ Q (.ref C) (some d) (upd (del H2 a) d (.xd fs))) (fun _ _ _ => False) := by
  refine ⟨(by show 1 ≤ 1000; decide), fun a ha => ⟨a, v, rfl, upd_same, fun d hd hda => ⟨rfl, d, [(f, v)], upd_same, ?_, ?_, k d _ ?_ (fun b o e => ?_) upd_same⟩⟩⟩
  · rw [upd_ne hda, upd_same]
  · rw [upd_ne hda] at hd
    exact hd
  · rw [upd_ne hda] at hd
    exact hd
  · rw [upd_ne hda] at hd
    have nb : b ≠ d := ne_of_none e hd
    have na : b ≠ a := ne_of_none e ha
    rw [upd_ne nb, del_ne na, upd_ne na, upd_ne nb, upd_ne na]
    exact e
end
/-! ### tuples known whole, so that their methods can be called -/
def Fz (H : Hp) (a : Addr) (xs : List V) : Prop := ∃ o : Obj, H a = some (.frz o (.tup xs)) ∧ o.dict = none ∧ o.cls = .type "tuple"
theorem Fz.rd {H : Hp} {a : Addr} {xs : List V} (h : Fz H a xs) : Rd H a (.tup xs) := by
  obtain ⟨o, e, _⟩ := h
  exact .inr ⟨o, e⟩
theorem Fz.keep {H H' : Hp} {a : Addr} {xs : List V} (h : Fz H a xs) (e : ∀ o, H a = some o → H' a = some o) : Fz H' a xs := by
  obtain ⟨o, e1, h1, h2⟩ := h
  exact ⟨o, e _ e1, h1, h2⟩
section
variable {X : Cx} {o e : Expr} {es : List Expr} {to : TE} {t : TA} {name : Str} {apos cpos : Pos} {id : String} {r : V → List V → Hp → VK → Prop}
theorem call_tupF : CallR X (.type "tuple") (fun xs H Q => ∃ p ys, xs = [.ref p] ∧ ((SqL X.K H p ys ∧ ∀ l H', H l = none → Same H H' → Fz H' l ys → Q (.ref l) H') ∨ (SqT X.K H p ys ∧ Q (.ref p) H))) := by
  intro pins s σ H xs us Q I r h
  obtain ⟨p, ys, rfl, h⟩ := h
  obtain ⟨u, rfl, rx⟩ := r.one
  cases rx
  rcases h with ⟨hq, q⟩ | ⟨hq, q⟩
  · obtain ⟨its, r', pl, hz⟩ := I.list hq
    have hlen := r'.length
    refine call_tuple_list pl.isList (fun h' kp => ?_) (by simp only [List.size_toArray] <;> omega)
    have I1 : L2.Inv X pins σ H { s with heap := h' } := I.kept (t' := s.toks) kp
    have I2 : L2.Inv X pins σ (upd H h'.objs.size (.frz { cls := .type "tuple", data := .seq its.toArray } (.tup ys))) { s with heap := h'.push { cls := .type "tuple", data := .seq its.toArray } } :=
      I1.laid (t' := s.toks) (fun b o e => Heap.get?_push_of_some _ e) (Nat.le_refl _) (show ObjOk X.prog X.w _ _ _ (.frz { cls := .type "tuple", data := .seq its.toArray } (.tup ys)) from ⟨Heap.get?_push_size h' rfl, hz, its, r', IsTup.new _ _⟩)
    have hn : H h'.objs.size = none := I1.hok.fresh (Nat.le_refl _)
    exact ⟨.ref h'.objs.size, _, I2, rfl, q _ _ hn (same_new hn) ⟨_, upd_same, rfl, rfl⟩⟩
  · obtain ⟨its, r', pl, hz⟩ := I.tuple hq
    exact call_tuple_same pl ⟨.ref p, H, I, rfl, q⟩
def tTM (r : V → List V → Hp → VK → Prop) (to : TE) (t : TA) : TE := fun σ H Q => to σ H fun x H1 => (∃ a xs, x = .ref a ∧ Fz H1 a xs) ∧ t σ H1 fun xs H2 => r x xs H2 Q
theorem pe_tbm (slot : Slot "tuple" name id) (hty : typeOf (.builtin id) = pure (.type "method_descriptor")) (hm : MtR X id r) (ho : PE X o to) (ha : PA X (e :: es) t)
    (hbase : attributeBase o name X.env (eval o X.env) = eval o X.env := by rfl)
    (hfew : ((backTo cpos (starEach (e :: es) X.env)).all (fun x => !x.1) && (backToKw cpos (keywordEach [] X.env)).all (fun x => x.1.isSome)
      && decide ((e :: es).length + ([] : List Keyword).length + (if ([] : List Keyword).isEmpty then 0 else 1) < 30)) = true := by rfl)
    (hline : (apos.endLine == cpos.line) = true := by rfl) (hs : starEach (e :: es) X.env = (false, eval e X.env) :: starEach es X.env := by rfl) (hplain : ((backTo cpos (starEach es X.env)).any fun x => x.1) = false := by rfl) :
    PE X (.Call (.Attribute o name apos) (e :: es) [] cpos) (tTM r to t) := by
  refine ⟨fun pins s σ H Q I h => ?_⟩
  refine wpAny_Call_method_late hbase hfew hline rfl (thn (ho.run pins s σ H _ I h) fun v s1 ⟨x, H1, I1, r1, ty, q1⟩ => ?_)
  have h12 : s1.TypeIs v "tuple" ∧ ∀ a, v = .ref a → ∃ ob, s1.heap.get? a = some ob ∧ ob.dict = none := by
    obtain ⟨a, xs, rfl, o, e1, h1, h2⟩ := ty
    cases r1
    have g := (show s1.heap.get? a = some o ∧ _ from I1.hok a _ e1).1
    refine ⟨⟨o, g, h2⟩, fun b z => ?_⟩
    cases z
    exact ⟨o, g, h1⟩
  refine ⟨"tuple", id, PySem.F.plainAttrs_tuple, slot, hty, h12.1, h12.2, ?_⟩
  have hA := ha.run cpos pins s1 σ H1 _ I1 q1
  rw [hs] at hA ⊢
  refine Calls.callWith_builtin (by show (false || ((backTo cpos (starEach es X.env)).any fun x => x.1)) = false; rw [hplain]; rfl) (Calls.evalArgs_plain ?_)
  exact thn hA fun us s2 ⟨vs, H2, I2, r2, q2⟩ => hm pins s2 σ H2 x vs v us Q I2 r1 r2 q2
end
def dCols (cs : List Str) : PyData := .tuple (cs.map PyData.str)
/-- v is a tuple of these texts, known whole -/
def NmT (p : Addr) (H : Hp) (v : V) (xs : List Str) : Prop := ∃ a, v = .ref a ∧ a ≠ p ∧ Fz H a (xs.map V.str) ∧ RpT p H v (dCols xs)
theorem NmT.keep {p : Addr} {H H' : Hp} {v : V} {xs : List Str} (h : NmT p H v xs) (e : ExB p H H') : NmT p H' v xs := by
  obtain ⟨a, rfl, n, f, r⟩ := h
  exact ⟨a, rfl, n, f.keep fun o q => e a o n q, r.keep (ExT.of e)⟩
theorem NmT.rp {p : Addr} {H : Hp} {v : V} {xs : List Str} (h : NmT p H v xs) : RpT p H v (dCols xs) := by
  obtain ⟨a, rfl, n, f, r⟩ := h
  exact r
end Cs
set_option maxHeartbeats 4000000
/-! Rules of my own: min and max of a tuple of whole numbers. -/
namespace PySem
namespace CsMin
section
variable {prog : Program} {w : World} {A : Around} {E : Value → Shared → Prop} {s : Shared} {l : Addr} {xs : Array (Int × Tok)}
theorem tup_kept {h' : Heap} {o0 : Obj} (hk : ∀ b o, b ∉ [s.heap.objs.size] → (s.heap.push o0).get? b = some o → h'.get? b = some o) :
    ∀ b o, s.heap.get? b = some o → h'.get? b = some o := fun b o e => by
  refine hk b o (fun hm => ?_) (Heap.get?_push_of_some _ e)
  rcases List.mem_cons.mp hm with e1 | hm
  · exact absurd (e1 ▸ Heap.lt_size e) (Nat.lt_irrefl _)
  · cases hm
theorem tup_in (hlt : l < s.heap.objs.size) {o0 : Obj} : ∀ b ∈ [s.heap.objs.size, l], b < (s.heap.push o0).objs.size := fun b hb => by
  rw [Heap.size_push]
  rcases List.mem_cons.mp hb with rfl | hb
  · exact Nat.lt_succ_self _
  · rcases List.mem_cons.mp hb with rfl | hb
    · exact Nat.lt_succ_of_lt hlt
    · cases hb
theorem min_tup {Q : Value → Shared → Prop} (hh : A.handled = none) (hl : s.heap.IsTuple l (intItems xs)) (hne : 0 < xs.size)
    (h : ∀ v h' tk, (intItems xs)[argBest (fun i j => decide (numAt xs i < numAt xs j)) (xs.size - 1)]? = some v → (∀ b o, s.heap.get? b = some o → h'.get? b = some o) → Q v { s with heap := h', toks := tk }) :
    wpAny (model prog w) A (call (.builtin "min") [.ref l]) Q E s := by
  have hlt : l < s.heap.objs.size := by obtain ⟨_, e, _⟩ := hl; exact Heap.lt_size e
  refine call_min_walk (wpAny_pyIter_tuple hl ?_)
  refine ⟨_, [s.heap.objs.size, l], [s.heap.objs.size], _, _, _, _, rfl, Walks.tuple (A := A.in1) hh _ l (Nat.ne_of_lt hlt) (intItems xs), ⟨⟨_, Heap.get?_push_size _ rfl, rfl, rfl⟩, hl.push _⟩, tup_in hlt, by simpa [intItems] using hne, CmpOf.ints_lt (numAt xs) (fun _ _ => intItems_at), fun v h' tk hP hk => ?_⟩
  exact h v h' tk (by simpa [intItems] using hP) (tup_kept hk)
theorem max_tup {Q : Value → Shared → Prop} (hh : A.handled = none) (hl : s.heap.IsTuple l (intItems xs)) (hne : 0 < xs.size)
    (h : ∀ v h' tk, (intItems xs)[argBest (fun i j => decide (numAt xs i > numAt xs j)) (xs.size - 1)]? = some v → (∀ b o, s.heap.get? b = some o → h'.get? b = some o) → Q v { s with heap := h', toks := tk }) :
    wpAny (model prog w) A (call (.builtin "max") [.ref l]) Q E s := by
  have hlt : l < s.heap.objs.size := by obtain ⟨_, e, _⟩ := hl; exact Heap.lt_size e
  refine call_max_walk (wpAny_pyIter_tuple hl ?_)
  refine ⟨_, [s.heap.objs.size, l], [s.heap.objs.size], _, _, _, _, rfl, Walks.tuple (A := A.in1) hh _ l (Nat.ne_of_lt hlt) (intItems xs), ⟨⟨_, Heap.get?_push_size _ rfl, rfl, rfl⟩, hl.push _⟩, tup_in hlt, by simpa [intItems] using hne, CmpOf.ints_gt (numAt xs) (fun _ _ => intItems_at), fun v h' tk hP hk => ?_⟩
  exact h v h' tk (by simpa [intItems] using hP) (tup_kept hk)
end
end CsMin
end PySem
namespace Cs
open PySem L2 PyProof.Rows
section
variable {prog : Program} {w : World} {A : Around} {E : Value → Shared → Prop} {s : Shared} {l : Addr} {its : List Value} {ns : List Int} {Q : Value → Shared → Prop}
theorem max_rawT (hh : A.handled = none) (hl : s.heap.IsTuple l its.toArray) (hi : IntsAre its ns) (hne : 0 < ns.length)
    (h : ∀ h' tk M t', (∀ b o, s.heap.get? b = some o → h'.get? b = some o) → M ∈ ns → (∀ a, a ∈ ns → a ≤ M) → Q (.int M t') { s with heap := h', toks := tk }) : wpAny (model prog w) A (call (.builtin "max") [.ref l]) Q E s := by
  obtain ⟨xs, e⟩ := hi.allInts.items
  have hn : numsOf (intItems xs).toList = ns := by rw [← e]; exact hi.numsOf
  rw [nums_intItems] at hn
  subst hn
  rw [e] at hl
  have hsz : 0 < xs.size := by simpa using hne
  refine CsMin.max_tup hh hl hsz fun v h' tk hv hk => ?_
  obtain ⟨t, rfl⟩ := intItems_at hv
  obtain ⟨h1, h2⟩ := argBest_gt (numAt xs) (xs.size - 1)
  refine h h' tk _ t hk ?_ fun a ha => ?_
  · rw [numAt_eq]; exact PySem.getD_mem (by rw [List.length_map, Array.length_toList]; omega)
  · obtain ⟨j, hj, rfl⟩ := mem_getD ha
    rw [List.length_map, Array.length_toList] at hj
    rw [← numAt_eq]; exact h2 j (by omega)
theorem min_rawT (hh : A.handled = none) (hl : s.heap.IsTuple l its.toArray) (hi : IntsAre its ns) (hne : 0 < ns.length)
    (h : ∀ h' tk M t', (∀ b o, s.heap.get? b = some o → h'.get? b = some o) → M ∈ ns → (∀ a, a ∈ ns → M ≤ a) → Q (.int M t') { s with heap := h', toks := tk }) : wpAny (model prog w) A (call (.builtin "min") [.ref l]) Q E s := by
  obtain ⟨xs, e⟩ := hi.allInts.items
  have hn : numsOf (intItems xs).toList = ns := by rw [← e]; exact hi.numsOf
  rw [nums_intItems] at hn
  subst hn
  rw [e] at hl
  have hsz : 0 < xs.size := by simpa using hne
  refine CsMin.min_tup hh hl hsz fun v h' tk hv hk => ?_
  obtain ⟨t, rfl⟩ := intItems_at hv
  obtain ⟨h1, h2⟩ := argBest_lt (numAt xs) (xs.size - 1)
  refine h h' tk _ t hk ?_ fun a ha => ?_
  · rw [numAt_eq]; exact PySem.getD_mem (by rw [List.length_map, Array.length_toList]; omega)
  · obtain ⟨j, hj, rfl⟩ := mem_getD ha
    rw [List.length_map, Array.length_toList] at hj
    rw [← numAt_eq]; exact h2 j (by omega)
end
section
variable {X : Cx}
def rMinT (K : PySem.W.Frag) : List V → Hp → VK → Prop := fun vs H Q => ∃ (a : Addr) (ns : List Int), vs = [V.ref a] ∧ SqT K H a (ns.map V.int) ∧ 0 < ns.length ∧ ∀ m, m ∈ ns → (∀ y, y ∈ ns → m ≤ y) → Q (.int m) H
def rMaxT (K : PySem.W.Frag) : List V → Hp → VK → Prop := fun vs H Q => ∃ (a : Addr) (ns : List Int), vs = [V.ref a] ∧ SqT K H a (ns.map V.int) ∧ 0 < ns.length ∧ ∀ m, m ∈ ns → (∀ y, y ∈ ns → y ≤ m) → Q (.int m) H
theorem cr_maxT (hc : X.calm = true) : CallR X (.builtin "max") (rMaxT X.K) := by
  intro pins s σ H vs us Q I r h
  obtain ⟨a, ns, rfl, hs, hne, q⟩ := h
  obtain ⟨its, rv, hl, _⟩ := I.tuple hs
  rw [Vals.ref1 r]
  exact max_rawT (I.ok.hd hc) hl rv.ints hne fun h' tk m t' hk h1 h2 => ⟨.int _, H, I.kept hk, ⟨_, rfl⟩, q m h1 h2⟩
theorem cr_minT (hc : X.calm = true) : CallR X (.builtin "min") (rMinT X.K) := by
  intro pins s σ H vs us Q I r h
  obtain ⟨a, ns, rfl, hs, hne, q⟩ := h
  obtain ⟨its, rv, hl, _⟩ := I.tuple hs
  rw [Vals.ref1 r]
  exact min_rawT (I.ok.hd hc) hl rv.ints hne fun h' tk m t' hk h1 h2 => ⟨.int _, H, I.kept hk, ⟨_, rfl⟩, q m h1 h2⟩
end
theorem wipe_set_not {τ : L2.St} {i : Nat} {x : Option V} : ∀ {vs : List Nat}, i ∉ vs → wipe (τ.set i x) vs = (wipe τ vs).set i x
  | [], _ => rfl
  | v :: vs, h => by
    have h1 : i ≠ v := fun e => h (by rw [e]; exact List.mem_cons_self)
    have h2 : i ∉ vs := fun e => h (List.mem_cons_of_mem _ e)
    show (wipe (τ.set i x) vs).set v none = ((wipe τ vs).set v none).set i x
    rw [wipe_set_not h2, List.set_comm _ _ h1]
theorem wipe_set_mem {τ : L2.St} {i : Nat} {x : Option V} : ∀ {vs : List Nat}, i ∈ vs → wipe (τ.set i x) vs = wipe τ vs
  | [], h => by cases h
  | v :: vs, h => by
    show (wipe (τ.set i x) vs).set v none = (wipe τ vs).set v none
    by_cases e : i ∈ vs
    · rw [wipe_set_mem e]
    · rcases List.mem_cons.mp h with rfl | h
      · rw [wipe_set_not e, List.set_set]
      · exact absurd h e
theorem wipe_wipe {τ : L2.St} : ∀ {ws vs : List Nat}, (∀ v ∈ ws, v ∈ vs) → wipe (wipe τ ws) vs = wipe τ vs
  | [], _, _ => rfl
  | w :: ws, vs, h => by
    show wipe ((wipe τ ws).set w none) vs = wipe τ vs
    rw [wipe_set_mem (h w List.mem_cons_self), wipe_wipe fun v hv => h v (List.mem_cons_of_mem _ hv)]
/-- the targets of a comprehension do not outlive it -/
theorem wipe_back {τ : L2.St} {vs : List Nat} : wipe (wipe τ vs) vs = wipe τ vs := wipe_wipe fun _ h => h
end Cs
set_option maxHeartbeats 4000000
/-! Rules of my own: zip of a tuple and a list, in either order. -/
namespace CsZip
open PySem
open PySem.Sem (wp)
/-- an iterator at i over the sequence at l; these are the items -/
structure Src (i l : Addr) (J : Nat → Heap → Prop) (B : Heap → Prop) (xs : Array Value) : Prop where
  go : ∀ {prog : Program} {w : World} {A : Around} {E : Value → Shared → Prop} {s : Shared} {k : Nat} {x : Value} {Q : Value → Shared → Prop}, J k s.heap → B s.heap → xs[k]? = some x →
    (∀ h', J (k + 1) h' → Heap.SameBut i s.heap h' → Q x { s with heap := h' }) → wpAny (model prog w) A (Builtin.SmallTypes.nextOf (.ref i)) Q E s
  fin : ∀ {prog : Program} {w : World} {A : Around} {E : Value → Shared → Prop} {s : Shared} {k : Nat} {Q : Value → Shared → Prop}, A.handled = none → J k s.heap → B s.heap → xs[k]? = none →
    (∀ h' e, Heap.ExtBut i s.heap h' → (∃ o, h'.get? e = some o ∧ o.cls = .type "StopIteration") → E (.ref e) { s with heap := h' }) → wpAny (model prog w) A (Builtin.SmallTypes.nextOf (.ref i)) Q E s
  jx : ∀ {c k h h'}, J k h → Heap.ExtBut c h h' → i ≠ c → J k h'
  bx : ∀ {c h h'}, B h → Heap.ExtBut c h h' → l ≠ c → B h'
  ja : ∀ {k h h'}, J k h → (∀ o, h.get? i = some o → h'.get? i = some o) → J k h'
  jo : ∀ {k h}, J k h → ∃ o, h.get? i = some o ∧ ∀ v, o.data ≠ .cell v
def jB (t : Bool) (i l : Addr) (k : Nat) (h : Heap) : Prop := match t with
  | true => h.IsTupleIter i l k
  | false => h.IsListIter i l k
def bB (t : Bool) (l : Addr) (xs : Array Value) (h : Heap) : Prop := match t with
  | true => h.IsTuple l xs
  | false => h.IsList l xs
theorem src (t : Bool) (i l : Addr) (xs : Array Value) : Src i l (jB t i l) (bB t l xs) xs := by
  cases t with
  | true => exact ⟨fun j b => RZ.nextOf_tuple_item j b, fun n j b => RZ.nextOf_tuple_end n j b, fun j e n => Heap.IsTupleIter.extBut j e n, fun j e n => Heap.IsTuple.extBut j e n, fun j e => Heap.IsTupleIter.at j e, fun ⟨o, e, _, d⟩ => ⟨o, e, fun v q => by rw [d] at q; cases q⟩⟩
  | false => exact ⟨fun j b => wpAny_nextOf_list_item j b, fun n j b => wpAny_nextOf_list_end n j b, fun j e n => Heap.IsListIter.extBut j e n, fun j e n => Heap.IsList.extBut j e n, fun j e => Heap.IsListIter.at j e, fun ⟨o, e, _, d⟩ => ⟨o, e, fun v q => by rw [d] at q; cases q⟩⟩
section
variable {prog : Program} {w : World} {A : Around} {E : Value → Shared → Prop} {s : Shared} {z P O i j l m : Addr} {k n : Nat} {xs ys : Array Value} {x y a b : Value} {J1 J2 : Nat → Heap → Prop} {B1 B2 : Heap → Prop}
theorem step {Q : Value → Shared → Prop} (D : ZipApart z P O i j l m) (S1 : Src i l J1 B1 xs) (S2 : Src j m J2 B2 ys) (hz : IsZip s.heap z P O .none) (hP : IsPair s.heap P (.ref i) (.ref j)) (hO : IsPair s.heap O a b) (g1 : J1 k s.heap) (g2 : J2 n s.heap) (c1 : B1 s.heap) (c2 : B2 s.heap)
    (ex : xs[k]? = some x) (ey : ys[n]? = some y)
    (K : ∀ h', IsZip h' z P O (rawInt s.heap.objs.size) → IsPair h' O x y → J1 (k + 1) h' → J2 (n + 1) h' → IsPair h' s.heap.objs.size x y → h'.objs.size = s.heap.objs.size + 1 → (∀ c o, c ≠ z → c ≠ O → c ≠ i → c ≠ j → s.heap.get? c = some o → h'.get? c = some o) →
      Q (.ref s.heap.objs.size) { s with heap := h' }) : wpAny (model prog w) A (Builtin.«zip.__next__» ⟨[.ref z], []⟩) (fun r t => ∃ v, r = .done (.ret v) ∧ Q v t) E s := by
  show wpAny _ _ (field (.ref z) 2 >>= _) _ _ s
  refine wpAny_bind (wpAny_field hz rfl (x := .bool false) rfl (show wpAny _ _ (field (.ref z) 3 >>= _) _ _ s from wpAny_bind (wpAny_field hz rfl (x := .ref P) rfl (wpAny_bind (wpAny_seqItems hP rfl ?_)))))
  refine (show wpAny _ _ (Builtin.SmallTypes.ownedTupleIsFree (.ref z) >>= _) _ _ s from wpAny_bind ?_)
  unfold Builtin.SmallTypes.ownedTupleIsFree
  refine wpAny_bind (wpAny_field hz rfl (x := .none) rfl (wpAny_pure ?_)); simp only [if_true]
  refine wpAny_bind (wpAny_rule (wpAny_bind (wpAny_field hz rfl (x := .ref O) rfl (wpAny_bind (wpAny_setField_rec hz (by simp) fun p1 z1 t1 => ?_)))))
  replace z1 : IsZip p1 z P O .ellipsis := z1
  refine wpAny_bind ?_; simp only [List.zipIdx_cons, List.zipIdx_nil, List.forIn_cons, List.forIn_nil]
  refine wpAny_bind (wpAny_bind (wpAny_onRaise (show wpAny _ _ (Builtin.SmallTypes.nextOf (.ref i) >>= _) _ _ _ from wpAny_bind (S1.go (S1.jx g1 t1.extBut D.i1z) (S1.bx c1 t1.extBut D.l1z) ex fun p2 u2 t2 => wpAny_pure ?_))))
  have o2 : IsPair p2 O a b := t2.extBut _ _ D.TOi1 (t1.extBut _ _ D.TOz hO)
  refine wpAny_bind (wpAny_seqItems o2 rfl (wpAny_bind (wpAny_updateSeq_pair o2 fun p3 o3 t3 => wpAny_bind (wpAny_letGo (wpAny_pure ?_)))))
  replace o3 : IsPair p3 O x b := o3
  refine wpAny_bind (wpAny_bind (wpAny_onRaise (show wpAny _ _ (Builtin.SmallTypes.nextOf (.ref j) >>= _) _ _ _ from wpAny_bind (S2.go (S2.jx (S2.jx (S2.jx g2 t1.extBut D.i2z) t2.extBut D.i12.symm) t3.extBut D.TOi2.symm)
    (S2.bx (S2.bx (S2.bx c2 t1.extBut D.l2z) t2.extBut D.l2i1) t3.extBut D.l2TO) ey fun p4 u4 t4 => wpAny_pure ?_))))
  have o4 : IsPair p4 O x b := t4.extBut _ _ D.TOi2 o3
  refine wpAny_bind (wpAny_seqItems o4 rfl (wpAny_bind (wpAny_updateSeq_pair o4 fun p5 o5 t5 => wpAny_bind (wpAny_letGo (wpAny_pure (wpAny_pure ?_))))))
  replace o5 : IsPair p5 O x y := o5
  refine wpAny_bind (wpAny_seqItems o5 rfl (wpAny_bind (wpAny_newTuple ?_)))
  have sz : p5.objs.size = s.heap.objs.size := by rw [t5.1, t4.1, t3.1, t2.1, t1.1]
  have z5 : IsZip p5 z P O .ellipsis := t5.extBut _ _ D.TOz.symm (t4.extBut _ _ D.i2z.symm (t3.extBut _ _ D.TOz.symm (t2.extBut _ _ D.i1z.symm z1)))
  have kp : ∀ c o, c ≠ z → c ≠ O → c ≠ i → c ≠ j → s.heap.get? c = some o → p5.get? c = some o := fun c o d1 d2 d3 d4 e => t5.extBut _ _ d2 (t4.extBut _ _ d4 (t3.extBut _ _ d2 (t2.extBut _ _ d3 (t1.extBut _ _ d1 e))))
  have v1 : J1 (k + 1) p5 := S1.jx (S1.jx (S1.jx u2 t3.extBut D.TOi1.symm) t4.extBut D.i12) t5.extBut D.TOi1.symm
  have v2 : J2 (n + 1) p5 := S2.jx u4 t5.extBut D.TOi2.symm
  have zl : z < p5.objs.size := Heap.lt_size z5
  refine (show wpAny _ _ (Builtin.SmallTypes.ownedTupleHandOut (.ref z) (.ref p5.objs.size) >>= _) _ _ _ from wpAny_bind ?_)
  unfold Builtin.SmallTypes.ownedTupleHandOut
  have z6 : IsZip (p5.push { cls := .type "tuple", data := .seq #[x, y] }) z P O .ellipsis := Heap.get?_push_of_some _ z5
  refine wpAny_bind (wpAny_setField_rec z6 (by simp) fun p7 z7 t7 => ?_)
  replace z7 : IsZip p7 z P O (rawInt p5.objs.size) := z7
  refine wpAny_setField_rec z7 (by simp) fun p8 z8 t8 => ?_
  replace z8 : IsZip p8 z P O (rawInt p5.objs.size) := z8
  have lift : ∀ c o, c ≠ z → p5.get? c = some o → p8.get? c = some o := fun c o d e => t8.extBut _ _ d (t7.extBut _ _ d (Heap.get?_push_of_some _ e))
  have T8 : IsPair p8 p5.objs.size x y := t8.extBut _ _ (Nat.ne_of_gt zl) (t7.extBut _ _ (Nat.ne_of_gt zl) (Heap.get?_push_size _ rfl))
  have n8 : p8.objs.size = p5.objs.size + 1 := by rw [t8.1, t7.1, Heap.size_push]
  rw [sz] at z8 T8 n8
  refine wpAny_pure ⟨_, rfl, ?_⟩
  show Q (.ref p5.objs.size) _; rw [sz]
  exact K p8 z8 (lift _ _ D.TOz o5) (S1.ja v1 fun o e => lift _ o D.i1z e) (S2.ja v2 fun o e => lift _ o D.i2z e) T8 n8 fun c o d1 d2 d3 d4 e => lift c o d1 (kp c o d1 d2 d3 d4 e)
theorem last {Q : Fin → Shared → Prop} (nh : A.handled = none) (D : ZipApart z P O i j l m) (S1 : Src i l J1 B1 xs) (S2 : Src j m J2 B2 ys) (hz : IsZip s.heap z P O .none) (hP : IsPair s.heap P (.ref i) (.ref j)) (hO : IsPair s.heap O a b) (g1 : J1 k s.heap) (g2 : J2 n s.heap) (c1 : B1 s.heap) (c2 : B2 s.heap)
    (ends : xs[k]? = none ∨ ys[n]? = none) (K : ∀ h' e, (∀ c o, c ≠ z → c ≠ O → c ≠ i → c ≠ j → s.heap.get? c = some o → h'.get? c = some o) → (∃ o, h'.get? e = some o ∧ o.cls = .type "StopIteration") → E (.ref e) { s with heap := h' }) :
    wpAny (model prog w) A (Builtin.«zip.__next__» ⟨[.ref z], []⟩) Q E s := by
  show wpAny _ _ (field (.ref z) 2 >>= _) _ _ s
  refine wpAny_bind (wpAny_field hz rfl (x := .bool false) rfl (show wpAny _ _ (field (.ref z) 3 >>= _) _ _ s from wpAny_bind (wpAny_field hz rfl (x := .ref P) rfl (wpAny_bind (wpAny_seqItems hP rfl ?_)))))
  refine (show wpAny _ _ (Builtin.SmallTypes.ownedTupleIsFree (.ref z) >>= _) _ _ s from wpAny_bind ?_)
  unfold Builtin.SmallTypes.ownedTupleIsFree
  refine wpAny_bind (wpAny_field hz rfl (x := .none) rfl (wpAny_pure ?_)); simp only [if_true]
  refine wpAny_bind (wpAny_rule (wpAny_bind (wpAny_field hz rfl (x := .ref O) rfl (wpAny_bind (wpAny_setField_rec hz (by simp) fun p1 z1 t1 => ?_)))))
  replace z1 : IsZip p1 z P O .ellipsis := z1
  refine wpAny_bind ?_; simp only [List.zipIdx_cons, List.zipIdx_nil, List.forIn_cons, List.forIn_nil]
  refine wpAny_bind (wpAny_bind (wpAny_onRaise (show wpAny _ _ (Builtin.SmallTypes.nextOf (.ref i) >>= _) _ _ _ from ?_)))
  cases ex : xs[k]? with
  | none =>
    refine wpAny_bind (S1.fin nh (S1.jx g1 t1.extBut D.i1z) (S1.bx c1 t1.extBut D.l1z) ex fun p2 e t2 ⟨oe, he, hc⟩ => ?_)
    have z2 : IsZip p2 z P O .ellipsis := t2 _ _ D.i1z.symm z1
    have ez : e ≠ z := fun q => by
      subst q
      rw [z2] at he
      cases he
      simp at hc
    exact wpAny_setField_rec z2 (by simp) fun p3 _ t3 => K p3 e (fun c o d1 _ d3 _ q => t3.extBut _ _ d1 (t2 _ _ d3 (t1.extBut _ _ d1 q))) ⟨oe, t3.extBut _ _ ez he, hc⟩
  | some x =>
    have ey : ys[n]? = none := ends.resolve_left fun q => by rw [ex] at q; cases q
    refine wpAny_bind (S1.go (S1.jx g1 t1.extBut D.i1z) (S1.bx c1 t1.extBut D.l1z) ex fun p2 u2 t2 => wpAny_pure ?_)
    have o2 : IsPair p2 O a b := t2.extBut _ _ D.TOi1 (t1.extBut _ _ D.TOz hO)
    refine wpAny_bind (wpAny_seqItems o2 rfl (wpAny_bind (wpAny_updateSeq_pair o2 fun p3 o3 t3 => wpAny_bind (wpAny_letGo (wpAny_pure ?_)))))
    refine wpAny_bind (wpAny_bind (wpAny_onRaise (show wpAny _ _ (Builtin.SmallTypes.nextOf (.ref j) >>= _) _ _ _ from wpAny_bind (S2.fin nh (S2.jx (S2.jx (S2.jx g2 t1.extBut D.i2z) t2.extBut D.i12.symm) t3.extBut D.TOi2.symm)
      (S2.bx (S2.bx (S2.bx c2 t1.extBut D.l2z) t2.extBut D.l2i1) t3.extBut D.l2TO) ey fun p4 e t4 ⟨oe, he, hc⟩ => ?_))))
    have z4 : IsZip p4 z P O .ellipsis := t4 _ _ D.i2z.symm (t3.extBut _ _ D.TOz.symm (t2.extBut _ _ D.i1z.symm z1))
    have ez : e ≠ z := fun q => by
      subst q
      rw [z4] at he
      cases he
      simp at hc
    exact wpAny_setField_rec z4 (by simp) fun p5 _ t5 => K p5 e (fun c o d1 d2 d3 d4 q => t5.extBut _ _ d1 (t4 _ _ d4 (t3.extBut _ _ d2 (t2.extBut _ _ d3 (t1.extBut _ _ d1 q))))) ⟨oe, t5.extBut _ _ ez he, hc⟩
theorem next {Q : Option Value → Shared → Prop} (D : ZipApart z P O i j l m) (S1 : Src i l J1 B1 xs) (S2 : Src j m J2 B2 ys) (hz : IsZip s.heap z P O .none) (hP : IsPair s.heap P (.ref i) (.ref j)) (hO : IsPair s.heap O a b) (g1 : J1 k s.heap) (g2 : J2 n s.heap) (c1 : B1 s.heap) (c2 : B2 s.heap)
    (ex : xs[k]? = some x) (ey : ys[n]? = some y)
    (K : ∀ h', IsZip h' z P O (rawInt s.heap.objs.size) → IsPair h' O x y → J1 (k + 1) h' → J2 (n + 1) h' → IsPair h' s.heap.objs.size x y → h'.objs.size = s.heap.objs.size + 1 → (∀ c o, c ≠ z → c ≠ O → c ≠ i → c ≠ j → s.heap.get? c = some o → h'.get? c = some o) →
      Q (some (.ref s.heap.objs.size)) { s with heap := h' }) : wpAny (model prog w) A (pyNext (.ref z)) Q E s := by
  have ty : s.TypeIs (.ref z) "zip" := ⟨_, hz, rfl⟩
  unfold pyNext
  exact wpAny_bind (wpAny_attempt (wpAny_callSpecial?_slot (name := Str.ofString "__next__") ty F.slot_zip_next (wpAny_call_entry F.slot_zip_next ty F.entry_zip_next
    (step D S1 S2 hz hP hO g1 g2 c1 c2 ex ey fun h' a1 a2 a3 a4 a5 a6 a7 => wpAny_pure (K h' a1 a2 a3 a4 a5 a6 a7)) (F.args_zip_next_1 _))))
theorem stop_ {Q : Option Value → Shared → Prop} (nh : A.handled = none) (D : ZipApart z P O i j l m) (S1 : Src i l J1 B1 xs) (S2 : Src j m J2 B2 ys) (hz : IsZip s.heap z P O .none) (hP : IsPair s.heap P (.ref i) (.ref j)) (hO : IsPair s.heap O a b) (g1 : J1 k s.heap) (g2 : J2 n s.heap) (c1 : B1 s.heap) (c2 : B2 s.heap)
    (ends : xs[k]? = none ∨ ys[n]? = none) (K : ∀ h', (∀ c o, c ≠ z → c ≠ O → c ≠ i → c ≠ j → s.heap.get? c = some o → h'.get? c = some o) → Q none { s with heap := h' }) : wpAny (model prog w) A (pyNext (.ref z)) Q E s := by
  have ty : s.TypeIs (.ref z) "zip" := ⟨_, hz, rfl⟩
  unfold pyNext
  refine wpAny_bind (wpAny_attempt (wpAny_callSpecial?_slot (name := Str.ofString "__next__") ty F.slot_zip_next (wpAny_call_entry F.slot_zip_next ty F.entry_zip_next (last nh D S1 S2 hz hP hO g1 g2 c1 c2 ends fun h' e hk ⟨o, ho, hc⟩ => ?_) (F.args_zip_next_1 _))))
  exact wpAny_bind (wpAny_isInstance (T := "StopIteration") (b := true) ⟨o, ho, hc⟩ isSubtype_stop (wpAny_pure (K _ hk)))
end
abbrev itC (t : Bool) : String := match t with
  | true => "tuple_iterator"
  | false => "list_iterator"
abbrev hp1 (t : Bool) (h : Heap) (l : Addr) : Heap := h.push { cls := .type (itC t), data := .fields #[.ref l, .int 0 0] }
abbrev hp3 (t u : Bool) (h : Heap) (l m : Addr) : Heap := (hp1 u (hp1 t h l) m).push { cls := .type "tuple", data := .seq #[.ref h.objs.size, .ref (hp1 t h l).objs.size] }
abbrev hp4 (t u : Bool) (h : Heap) (l m : Addr) : Heap := (hp3 t u h l m).push { cls := .type "tuple", data := .seq #[.none, .none] }
abbrev hp5 (t u : Bool) (h : Heap) (l m : Addr) : Heap := (hp4 t u h l m).push { cls := .type "zip", data := .fields #[.none, .bool false, .bool false, .ref (hp1 u (hp1 t h l) m).objs.size, .ref (hp3 t u h l m).objs.size] }
theorem made (t u : Bool) (ne : t ≠ u) (l m : Addr) (xs ys : Array Value) : Meets (Builtin.«zip.__new__» ⟨[.type "zip", .ref l, .ref m], []⟩) (fun _ R s => bB t l xs s.heap ∧ bB u m ys s.heap ∧ R (.ok (.ret (.ref (hp4 t u s.heap l m).objs.size))) { s with heap := hp5 t u s.heap l m }) :=
  .of_wp fun prog w A R s h => by
    obtain ⟨hp, g, d, tk, os⟩ := s
    obtain ⟨e1, e2, h⟩ := h
    have sub := sub_zip
    cases t <;> cases u
    · exact absurd rfl ne
    · have f1 : Heap.IsList (Shared.heap ⟨hp, g, d, tk, os⟩) l xs := e1
      have f2 : Heap.IsTuple (Shared.heap ⟨hp1 false hp l, g, d, tk, os⟩) m ys := Heap.IsTuple.push e2 _
      wp_walk using wpAny_pyIter_list f1, wpAny_pyIter_tuple f2
      exact ⟨_, rfl, h⟩
    · have f1 : Heap.IsTuple (Shared.heap ⟨hp, g, d, tk, os⟩) l xs := e1
      have f2 : Heap.IsList (Shared.heap ⟨hp1 true hp l, g, d, tk, os⟩) m ys := Heap.IsList.push e2 _
      wp_walk using wpAny_pyIter_tuple f1, wpAny_pyIter_list f2
      exact ⟨_, rfl, h⟩
    · exact absurd rfl ne
theorem call_zip {prog : Program} {w : World} {A : Around} {E : Value → Shared → Prop} {s : Shared} {t u : Bool} {l m : Addr} {xs ys : Array Value} {Q : Value → Shared → Prop} (ne : t ≠ u) (e1 : bB t l xs s.heap) (e2 : bB u m ys s.heap)
    (k : ∀ h', IsZip h' (s.heap.objs.size + 4) (s.heap.objs.size + 2) (s.heap.objs.size + 3) .none → IsPair h' (s.heap.objs.size + 2) (.ref s.heap.objs.size) (.ref (s.heap.objs.size + 1)) → IsPair h' (s.heap.objs.size + 3) .none .none → jB t s.heap.objs.size l 0 h' → jB u (s.heap.objs.size + 1) m 0 h' →
      (∀ c o, s.heap.get? c = some o → h'.get? c = some o) → Q (.ref (s.heap.objs.size + 4)) { s with heap := h' }) : wpAny (model prog w) A (call (.type "zip") [.ref l, .ref m]) Q E s := by
  refine callType_new F.called_zip (by decide) (F.typeCall_zip_2 _ _) (F.newCall_zip_2 _ _) (fun obj => F.args_object_init_3 obj _ _) F.entry_zip_new (made t u ne l m xs ys) ⟨e1, e2, ?_⟩
  have n1 : (hp1 t s.heap l).objs.size = s.heap.objs.size + 1 := Heap.size_push ..
  have n2 : (hp1 u (hp1 t s.heap l) m).objs.size = s.heap.objs.size + 2 := by rw [Heap.size_push, n1]
  have n3 : (hp3 t u s.heap l m).objs.size = s.heap.objs.size + 3 := by rw [Heap.size_push, n2]
  have n4 : (hp4 t u s.heap l m).objs.size = s.heap.objs.size + 4 := by rw [Heap.size_push, n3]
  have q5 : (hp5 t u s.heap l m).get? (hp4 t u s.heap l m).objs.size = some _ := Heap.get?_push_size _ rfl
  have q4 : (hp5 t u s.heap l m).get? (hp3 t u s.heap l m).objs.size = some _ := Heap.get?_push_of_some _ (Heap.get?_push_size _ rfl)
  have q3 : (hp5 t u s.heap l m).get? (hp1 u (hp1 t s.heap l) m).objs.size = some _ := Heap.get?_push_of_some _ (Heap.get?_push_of_some _ (Heap.get?_push_size _ rfl))
  have q2 : (hp5 t u s.heap l m).get? (hp1 t s.heap l).objs.size = some _ := Heap.get?_push_of_some _ (Heap.get?_push_of_some _ (Heap.get?_push_of_some _ (Heap.get?_push_size _ rfl)))
  have q1 : (hp5 t u s.heap l m).get? s.heap.objs.size = some _ := Heap.get?_push_of_some _ (Heap.get?_push_of_some _ (Heap.get?_push_of_some _ (Heap.get?_push_of_some _ (Heap.get?_push_size _ rfl))))
  show _ ∧ _
  rw [n2, n3, n4] at q5
  rw [n1, n2] at q3
  rw [n3] at q4
  rw [n1] at q2
  rw [n4]
  refine ⟨⟨_, q5, rfl⟩, k _ q5 q3 q4 ?_ ?_ fun c o x => Heap.get?_push_of_some _ (Heap.get?_push_of_some _ (Heap.get?_push_of_some _ (Heap.get?_push_of_some _ (Heap.get?_push_of_some _ x))))⟩
  · cases t <;> exact ⟨_, q1, rfl, rfl⟩
  · cases u <;> exact ⟨_, q2, rfl, rfl⟩
end CsZip
namespace Cs
open PySem L2 PyProof.Rows
/-- a tuple or a list -/
def SqB (K : PySem.W.Frag) (t : Bool) (H : Hp) (a : Addr) (xs : List V) : Prop := match t with
  | true => SqT K H a xs
  | false => SqL K H a xs
/-- what stands at a and b at each turn, the items in new pairs -/
def ItzB (K : PySem.W.Frag) (t u : Bool) (a b : Addr) : It :=
  ⟨fun i H => ∃ (xs ys : List V) (x y : V), SqB K t H a xs ∧ SqB K u H b ys ∧ xs[i]? = some x ∧ ys[i]? = some y,
    fun i H v H' => ∃ (T : Addr) (x y : V), v = .ref T ∧ H T = none ∧ H' = upd H T (.tup [x, y]) ∧ (∀ xs, SqB K t H a xs → xs[i]? = some x) ∧ ∀ ys, SqB K u H b ys → ys[i]? = some y,
    fun i H => ∃ xs ys : List V, SqB K t H a xs ∧ SqB K u H b ys ∧ (xs.length ≤ i ∨ ys.length ≤ i)⟩
section
variable {X : Cx} {pins : List (Addr × Obj)} {σ : L2.St} {H : Hp} {s : Shared} {t : Bool} {a : Addr} {xs ys : List V}
theorem seqB (I : L2.Inv X pins σ H s) (h : SqB X.K t H a xs) : ∃ its : List Value, Vals xs its ∧ CsZip.bB t a its.toArray s.heap ∧ a < s.heap.objs.size := by
  cases t with
  | true =>
    obtain ⟨its, rv, p, _⟩ := I.tuple h
    obtain ⟨o, ho, _⟩ := id p
    exact ⟨its, rv, p, Heap.lt_size ho⟩
  | false =>
    obtain ⟨its, rv, p, _⟩ := I.list h
    exact ⟨its, rv, p.isList, p.lt⟩
theorem injB (I : L2.Inv X pins σ H s) (h : SqB X.K t H a xs) (k : SqB X.K t H a ys) : xs = ys := by
  cases t with
  | true => exact I.tuple_inj h k
  | false => exact I.list_inj h k
end
theorem turn_zipB {P : Program} {w : World} {K : PySem.W.Frag} {elts : List Expr} {kk : Nat} {tpos : Pos} {t u : Bool} {a b z TI TO i1 i2 : Addr} (D : ZipApart z TI TO i1 i2 a b) :
    Turn P w K (.Tuple elts kk tpos) (ItzB K t u a b) [z, TI, TO, i1, i2] z (fun i h => IsZip h z TI TO .none ∧ IsPair h TI (.ref i1) (.ref i2) ∧ (∃ x y, IsPair h TO x y) ∧ CsZip.jB t i1 a i h ∧ CsZip.jB u i2 b i h) where
  mem := List.mem_cons_self
  obj := fun i h st c hc => by
    obtain ⟨g1, g2, ⟨x, y, g3⟩, g4, g5⟩ := st
    simp only [List.mem_cons, List.not_mem_nil, or_false] at hc
    rcases hc with rfl | rfl | rfl | rfl | rfl
    · exact ⟨_, g1, fun v q => nomatch q⟩
    · exact ⟨_, g2, fun v q => nomatch q⟩
    · exact ⟨_, g3, fun v q => nomatch q⟩
    · exact (CsZip.src t c a #[]).jo g4
    · exact (CsZip.src u c b #[]).jo g5
  keep := fun i h h' st k => by
    obtain ⟨g1, g2, ⟨x, y, g3⟩, g4, g5⟩ := st
    exact ⟨k z (by simp) _ g1, k TI (by simp) _ g2, ⟨x, y, k TO (by simp) _ g3⟩, (CsZip.src t i1 a #[]).ja g4 fun o q => k i1 (by simp) o q, (CsZip.src u i2 b #[]).ja g5 fun o q => k i2 (by simp) o q⟩
  item := by
    rintro X rfl rfl rfl hc i pins s σ H E I hf ⟨g1, g2, ⟨x0, y0, g3⟩, g4, g5⟩ ⟨xs, ys, x, y, qx, qy, ex, ey⟩
    obtain ⟨us, rv, p, _⟩ := seqB I qx
    obtain ⟨us2, rv2, p2, _⟩ := seqB I qy
    obtain ⟨v, hv, ru⟩ := rv.get ex
    obtain ⟨v2, hv2, ru2⟩ := rv2.get ey
    have zl : z < s.heap.objs.size := Heap.lt_size g1
    refine CsZip.next D (CsZip.src t i1 a us.toArray) (CsZip.src u i2 b us2.toArray) g1 g2 g3 g4 g5 p p2 (x := v) (y := v2) (by simpa using hv) (by simpa using hv2) fun h' k1 k2 k3 k4 k5 hsz kp => ?_
    refine ⟨_, rfl, wpAny_letOwnedTupleGo_zip (s := { s with heap := h' }) k1 fun h2 z2 sb => ?_⟩
    have T2 : h2.get? s.heap.objs.size = some { cls := .type "tuple", data := .seq #[v, v2] } := (sb.2 _ (Nat.ne_of_gt zl)).trans k5
    have ok : ObjOk X.prog X.w (upd H s.heap.objs.size (.tup [x, y])) h2 s.heap.objs.size (.tup [x, y]) := ⟨by show 2 ≤ sizeLine; decide, [v, v2], .cons ru (.cons ru2 .nil), ⟨_, T2, rfl, _, rfl⟩⟩
    have J : L2.Inv X pins σ (upd H s.heap.objs.size (.tup [x, y])) { s with heap := h2 } := I.turnedNew (t' := s.toks) (ch := [z, TI, TO, i1, i2]) (fun c o hb q => by
      simp only [List.mem_cons, List.not_mem_nil, or_false, not_or] at hb
      exact (sb.2 c hb.1).trans (kp c o hb.1 hb.2.2.1 hb.2.2.2.1 hb.2.2.2.2 q)) hf (Nat.le_refl _) ok
    refine ⟨.ref s.heap.objs.size, _, J, rfl, ⟨_, x, y, rfl, I.hok.fresh (Nat.le_refl _), rfl, fun l hl => by rw [injB I hl qx]; exact ex, fun l hl => by rw [injB I hl qy]; exact ey⟩, ⟨z2, (sb.2 _ D.TIz).trans (kp _ _ D.TIz D.TITO D.TIi1 D.TIi2 g2), ⟨v, v2, (sb.2 _ D.TOz).trans k2⟩,
      (CsZip.src t i1 a us.toArray).ja k3 fun o q => (sb.2 _ D.i1z).trans q, (CsZip.src u i2 b us2.toArray).ja k4 fun o q => (sb.2 _ D.i2z).trans q⟩, fun c hm => ?_⟩
    have lt : c < s.heap.objs.size := by
      simp only [List.mem_cons, List.not_mem_nil, or_false] at hm
      rcases hm with rfl | rfl | rfl | rfl | rfl
      · exact zl
      · exact Heap.lt_size g2
      · exact Heap.lt_size g3
      · obtain ⟨_, q, _⟩ := (CsZip.src t c a #[]).jo g4
        exact Heap.lt_size q
      · obtain ⟨_, q, _⟩ := (CsZip.src u c b #[]).jo g5
        exact Heap.lt_size q
    rw [upd_ne (Nat.ne_of_lt lt)]
    exact (hf c hm).1
  done := by
    rintro X rfl rfl rfl hc i pins s σ H E I hf ⟨g1, g2, ⟨x0, y0, g3⟩, g4, g5⟩ ⟨xs, ys, qx, qy, ends⟩
    obtain ⟨us, rv, p, _⟩ := seqB I qx
    obtain ⟨us2, rv2, p2, _⟩ := seqB I qy
    have l1 := rv.length
    have l2 := rv2.length
    have en : us.toArray[i]? = none ∨ us2.toArray[i]? = none := ends.imp (fun q => by simp; omega) fun q => by simp; omega
    exact CsZip.stop_ (I.ok.hd hc) D (CsZip.src t i1 a us.toArray) (CsZip.src u i2 b us2.toArray) g1 g2 g3 g4 g5 p p2 en fun h' hk => ⟨rfl, I.turnedL (t' := s.toks) (ch := [z, TI, TO, i1, i2]) (fun c o hb q => by
      simp only [List.mem_cons, List.not_mem_nil, or_false, not_or] at hb
      exact hk c o hb.1 hb.2.2.1 hb.2.2.2.1 hb.2.2.2.2 q) hf⟩
  self := fun A i s Q E st h => wpAny_pyIter_zip st.1 h
def iZipB (K : PySem.W.Frag) (t u : Bool) (ta : TA) : TI := fun σ H R => ta σ H fun vs H1 => ∃ a b xs ys, vs = [.ref a, .ref b] ∧ SqB K t H1 a xs ∧ SqB K u H1 b ys ∧ R (ItzB K t u a b) H1
theorem pi_zipB {X : Cx} {e e2 : Expr} {ta : TA} {p pos tpos : Pos} {elts : List Expr} {kk : Nat} (t u : Bool) (ne : t ≠ u) (hg : Gl X "zip") (hm : X.mg "zip" = none) (ha : PA X [e, e2] ta)
    (hs : starEach [e, e2] X.env = (false, eval e X.env) :: starEach [e2] X.env := by rfl) (hpl : (backTo pos (starEach [e2] X.env)).any (·.1) = false := by rfl) :
    PI X (.Tuple elts kk tpos) (.Call (.Name "zip" p) [e, e2] [] pos) (iZipB X.K t u ta) := by
  refine ⟨fun pins s σ H R I h => Call_ (ld_blt I hg hm PyProof.Rows.boot_zip (PyProof.Rows.callWith_type1 (thn (ha.run pos pins s σ H _ I h) fun us s1 ⟨vs, H1, I1, r1, a, b, xs, ys, ev, qx, qy, q⟩ => ?_) hs hpl))⟩
  subst ev
  obtain ⟨u1, us2, rfl, r, rr⟩ : ∃ u1 us2, us = u1 :: us2 ∧ RelV (.ref a) u1 ∧ Vals [.ref b] us2 := by
    cases r1 with
    | cons r rr => exact ⟨_, _, rfl, r, rr⟩
  obtain ⟨u2, rfl, r'⟩ := rr.one
  cases r
  cases r'
  obtain ⟨its, rv, p1, la⟩ := seqB I1 qx
  obtain ⟨its2, rv2, p2, lb⟩ := seqB I1 qy
  refine CsZip.call_zip ne p1 p2 fun h' k1 k2 k3 k4 k5 hk => wpAny_pyIter_zip k1 ?_
  refine ⟨_, [s1.heap.objs.size + 4, s1.heap.objs.size + 2, s1.heap.objs.size + 3, s1.heap.objs.size, s1.heap.objs.size + 1], _, _, H1, rfl, I1.kept (t' := s1.toks) hk, turn_zipB (PySem.W.ktu_apart s1.heap.objs.size a b la lb), ⟨k1, k2, ⟨_, _, k3⟩, k4, k5⟩, fun c hm => ?_, q⟩
  have le : s1.heap.objs.size ≤ c := by
    simp only [List.mem_cons, List.not_mem_nil, or_false] at hm
    rcases hm with rfl | rfl | rfl | rfl | rfl <;> first | exact Nat.le_add_right _ _ | exact Nat.le_refl _
  exact I1.fpOk le (I1.hok.fresh le)
section
variable {K : PySem.W.Frag} {p : Addr} {ta : TA} {g : TG} {te : TE} {vs : List Nat} {σ : L2.St} {H1 : Hp} {Q : VK}
/-- over zip of a tuple and a list, or a list and a tuple, of data -/
theorem lc_zipB {t u : Bool} {a b : Addr} {xs zs : List V} {ds fs es : List PyData} (hl : es.length = min ds.length fs.length) (hz : ds.length ≤ 1000) (qx : ∀ {H}, Same H1 H → SqB K t H a xs) (qz : ∀ {H}, Same H1 H → SqB K u H b zs) (r : RpTA p H1 xs ds) (r' : RpTA p H1 zs fs)
    (ht : ∀ R : List V → Hp → Prop, R [.ref a, .ref b] H1 → ta σ H1 R)
    (hs : ∀ (j : Nat) (T : Addr) (x y : V) (d f e : PyData) (H : Hp), ds[j]? = some d → fs[j]? = some f → es[j]? = some e → Same H1 H → H T = some (.tup [x, y]) → RpT p H x d → RpT p H y f → ∀ R : VK, (∀ y H3, Same H H3 → RpT p H3 y e → R y H3) → g (.ref T) (wipe σ vs) H fun σ2 H2 => wipe σ2 vs = wipe σ vs ∧ te σ2 H2 R)
    (k : ∀ D ys H', H1 D = none → Same H1 H' → H' D = some (.lst ys) → RpTA p H' ys es → Q (.ref D) H') : tLc (iZipB K t u ta) g tYes te vs σ H1 Q := by
  have ln := r.length
  have ln' := r'.length
  refine ht _ ⟨a, b, xs, zs, rfl, qx (Same.refl _), qz (Same.refl _), fun D hD => ?_⟩
  refine ⟨fun i m H => m = es.length - i ∧ i ≤ es.length ∧ Same H1 H ∧ ∃ ys, H D = some (.lst ys) ∧ ys.length = i ∧ RpTA p H ys (es.take i), ⟨es.length, by simp, Nat.zero_le _, same_new hD, [], upd_same, rfl, .nil⟩, ?_⟩
  rintro i m H ⟨rfl, hi, sm, ys, hd, ly, ry⟩
  by_cases lt : i < es.length
  · have hx : i < xs.length := by omega
    have hy : i < zs.length := by omega
    refine .inr ⟨⟨xs, zs, xs[i], zs[i], qx sm, qz sm, List.getElem?_eq_getElem hx, List.getElem?_eq_getElem hy⟩, fun H' => Same H1 H' ∧ ∃ ys, H' D = some (.lst ys) ∧ ys.length = i + 1 ∧ RpTA p H' ys (es.take (i + 1)), fun H' p' => ⟨es.length - (i + 1), by omega, rfl, lt, p'⟩, fun w H' yl => ?_⟩
    obtain ⟨T, x, y, rfl, hT, rfl, e1, e2⟩ := yl
    obtain ⟨d, hd2, rd⟩ := r.get (e1 xs (qx sm))
    obtain ⟨f, hf2, rf⟩ := r'.get (e2 zs (qz sm))
    have sT : Same H (upd H T (.tup [x, y])) := same_new hT
    have key := hs i T x y d f es[i] _ hd2 hf2 (List.getElem?_eq_getElem lt) (sm.trans sT) upd_same (rd.keep (ExT.of (ExB.of (sm.trans sT)))) (rf.keep (ExT.of (ExB.of (sm.trans sT))))
      (fun y H4 => ∃ acc, H4 D = some (.lst acc) ∧ acc.length < sizeLine ∧ Same H1 (upd H4 D (.lst (acc ++ [y]))) ∧ ∃ ys, upd H4 D (.lst (acc ++ [y])) D = some (.lst ys) ∧ ys.length = i + 1 ∧ RpTA p (upd H4 D (.lst (acc ++ [y]))) ys (es.take (i + 1))) fun y H3 s3 r3 => ?_
    · exact key
    · have hd3 := s3 _ _ (sT _ _ hd)
      refine ⟨ys, hd3, ?_, fun b o e => ?_, _, upd_same, ?_, ?_⟩
      · rw [ly]
        exact Nat.lt_of_lt_of_le (by omega : i < 1000) (by decide)
      · rw [upd_ne (ne_of_none e hD)]
        exact s3 _ _ (sT _ _ (sm _ _ e))
      · rw [List.length_append, ly]
        rfl
      · rw [take_snoc (List.getElem?_eq_getElem lt)]
        exact ((ry.keep (ExT.of (ExB.of (sT.trans s3)))).snoc r3).keep (ExT.put hd3)
  · have e : i = es.length := by omega
    subst e
    refine .inl ⟨⟨xs, zs, qx sm, qz sm, by omega⟩, k D ys H hD sm hd (by rw [List.take_of_length_le (Nat.le_refl _)] at ry; exact ry)⟩
end
end Cs
set_option maxHeartbeats 4000000
/-! Comprehensions over data by a test: what passes is kept. -/
namespace Cs
open PySem L2 PyProof.Rows
theorem fil_yes {α β : Type} {f : α → Option β} {xs : List α} {i : Nat} {x : α} {e : β} (hx : xs[i]? = some x) (hf : f x = some e) : (xs.take (i + 1)).filterMap f = (xs.take i).filterMap f ++ [e] := by
  rw [take_snoc hx, List.filterMap_append]
  simp [hf]
theorem fil_no {α β : Type} {f : α → Option β} {xs : List α} {i : Nat} {x : α} (hx : xs[i]? = some x) (hf : f x = none) : (xs.take (i + 1)).filterMap f = (xs.take i).filterMap f := by
  rw [take_snoc hx, List.filterMap_append]
  simp [hf]
/-- the list at D holds what has passed of the first i -/
def FInv {α : Type} (p : Addr) (H1 : Hp) (D : Addr) (xs : List α) (f : α → Option PyData) (i : Nat) (H : Hp) : Prop := Same H1 H ∧ ∃ ys, H D = some (.lst ys) ∧ ys.length ≤ i ∧ RpTA p H ys ((xs.take i).filterMap f)
theorem FInv.yes {α : Type} {p : Addr} {H1 H H3 : Hp} {D : Addr} {xs : List α} {f : α → Option PyData} {i : Nat} {x : α} {e : PyData} {y : V} (h : FInv p H1 D xs f i H) (hD : H1 D = none) (hi : i < 1000) (hx : xs[i]? = some x) (hf : f x = some e) (s : Same H H3) (r : RpT p H3 y e) :
    ∃ acc, H3 D = some (.lst acc) ∧ acc.length < sizeLine ∧ FInv p H1 D xs f (i + 1) (upd H3 D (.lst (acc ++ [y]))) := by
  obtain ⟨sm, ys, hd, ly, ry⟩ := h
  have hd3 := s _ _ hd
  refine ⟨ys, hd3, Nat.lt_of_lt_of_le (by omega : ys.length < 1000) (by decide), fun b o e => ?_, _, upd_same, ?_, ?_⟩
  · rw [upd_ne (ne_of_none e hD)]
    exact s _ _ (sm _ _ e)
  · rw [List.length_append]
    simp only [List.length_cons, List.length_nil]
    omega
  · rw [fil_yes hx hf]
    exact ((ry.keep (ExT.of (ExB.of s))).snoc r).keep (ExT.put hd3)
theorem FInv.no {α : Type} {p : Addr} {H1 H H3 : Hp} {D : Addr} {xs : List α} {f : α → Option PyData} {i : Nat} {x : α} (h : FInv p H1 D xs f i H) (hx : xs[i]? = some x) (hf : f x = none) (s : Same H H3) : FInv p H1 D xs f (i + 1) H3 := by
  obtain ⟨sm, ys, hd, ly, ry⟩ := h
  refine ⟨sm.trans s, ys, s _ _ hd, by omega, ?_⟩
  rw [fil_no hx hf]
  exact ry.keep (ExT.of (ExB.of s))
theorem FInv.new {α : Type} {p : Addr} {H1 : Hp} {D : Addr} {xs : List α} {f : α → Option PyData} (hD : H1 D = none) : FInv p H1 D xs f 0 (upd H1 D (.lst [])) := ⟨same_new hD, [], upd_same, Nat.le_refl _, .nil⟩
section
variable {K : PySem.W.Frag} {p : Addr} {ds : List PyData} {tl : TE} {ta : TA} {g : TG} {tt : TT} {te : TE} {vs : List Nat} {σ : L2.St} {H1 : Hp} {Q : VK}
theorem lc_filT {f : PyData → Option PyData} (hz : ds.length ≤ 1000) (ht : ∀ R : VK, (∀ v H2, Same H1 H2 → RpT p H2 v (.tuple ds) → R v H2) → tl σ H1 R)
    (hs : ∀ (j : Nat) (z : V) (d : PyData) (H : Hp), ds[j]? = some d → Same H1 H → RpT p H z d → ∀ (R : VK) (N : Hp → Prop), (∀ y e H3, f d = some e → Same H H3 → RpT p H3 y e → R y H3) → (∀ H3, f d = none → Same H H3 → N H3) →
      g z (wipe σ vs) H fun σ2 H2 => wipe σ2 vs = wipe σ vs ∧ tt σ2 H2 fun b H3 => if b = true then te σ2 H3 R else N H3)
    (k : ∀ D ys H', H1 D = none → Same H1 H' → H' D = some (.lst ys) → RpTA p H' ys (ds.filterMap f) → Q (.ref D) H') : tLc (iTup K tl) g tt te vs σ H1 Q := by
  refine ht _ fun v H2 s12 rv => ?_
  cases rv with
  | @tup a xs _ n h z r =>
    have ln := r.length
    refine ⟨a, rfl, ⟨xs, SqT.rd h⟩, fun D hD => ?_⟩
    refine lc_tup (K := K) (a := a) (xs := xs) (fun i H => FInv p H2 D ds f i H) (FInv.new hD) (fun i H _ q => SqT.rd (Rd.same h q.1)) (fun i x H hi q => ?_) (fun H q => ?_)
    · have hi2 := (List.getElem?_eq_some_iff.mp hi).1
      obtain ⟨d, hd2, rd⟩ := r.get hi
      exact hs i x d H hd2 (s12.trans q.1) (rd.keep (ExT.of (ExB.of q.1))) _ _ (fun y e H3 hf s3 r3 => q.yes hD (by omega) hd2 hf s3 r3) (fun H3 hf s3 => q.no hd2 hf s3)
    · obtain ⟨sm, ys, hd, ly, ry⟩ := q
      rw [List.take_of_length_le (by omega)] at ry
      exact k D ys H (s12.free hD) (s12.trans sm) hd ry
theorem lc_filL {f : PyData → Option PyData} (hz : ds.length ≤ 1000) (ht : ∀ R : VK, (∀ a xs H2, Same H1 H2 → H2 a = some (.lst xs) → RpTA p H2 xs ds → R (.ref a) H2) → tl σ H1 R)
    (hs : ∀ (j : Nat) (z : V) (d : PyData) (H : Hp), ds[j]? = some d → Same H1 H → RpT p H z d → ∀ (R : VK) (N : Hp → Prop), (∀ y e H3, f d = some e → Same H H3 → RpT p H3 y e → R y H3) → (∀ H3, f d = none → Same H H3 → N H3) →
      g z (wipe σ vs) H fun σ2 H2 => wipe σ2 vs = wipe σ vs ∧ tt σ2 H2 fun b H3 => if b = true then te σ2 H3 R else N H3)
    (k : ∀ D ys H', H1 D = none → Same H1 H' → H' D = some (.lst ys) → RpTA p H' ys (ds.filterMap f) → Q (.ref D) H') : tLc (iList K tl) g tt te vs σ H1 Q := by
  refine ht _ fun a xs H2 s12 h r => ?_
  have ln := r.length
  refine ⟨a, rfl, ⟨xs, SqL.of h⟩, fun D hD => ?_⟩
  refine lc_list (K := K) (a := a) (xs := xs) (fun i H => FInv p H2 D ds f i H) (FInv.new hD) (fun i H _ q => SqL.of (q.1 _ _ h)) (fun i x H hi q => ?_) (fun H q => ?_)
  · have hi2 := (List.getElem?_eq_some_iff.mp hi).1
    obtain ⟨d, hd2, rd⟩ := r.get hi
    exact hs i x d H hd2 (s12.trans q.1) (rd.keep (ExT.of (ExB.of q.1))) _ _ (fun y e H3 hf s3 r3 => q.yes hD (by omega) hd2 hf s3 r3) (fun H3 hf s3 => q.no hd2 hf s3)
  · obtain ⟨sm, ys, hd, ly, ry⟩ := q
    rw [List.take_of_length_le (by omega)] at ry
    exact k D ys H (s12.free hD) (s12.trans sm) hd ry
/-- over zip of a tuple and a list -/
theorem lc_filZ {t u : Bool} {fs : List PyData} {f : PyData × PyData → Option PyData} (hz : ds.length ≤ 1000)
    (ht : ∀ R : List V → Hp → Prop, (∀ a b xs zs H2, Same H1 H2 → (∀ H, Same H2 H → SqB K t H a xs) → (∀ H, Same H2 H → SqB K u H b zs) → RpTA p H2 xs ds → RpTA p H2 zs fs → R [.ref a, .ref b] H2) → ta σ H1 R)
    (hs : ∀ (j : Nat) (T : Addr) (x y : V) (d e : PyData) (H : Hp), ds[j]? = some d → fs[j]? = some e → Same H1 H → H T = some (.tup [x, y]) → RpT p H x d → RpT p H y e → ∀ (R : VK) (N : Hp → Prop), (∀ y o H3, f (d, e) = some o → Same H H3 → RpT p H3 y o → R y H3) → (∀ H3, f (d, e) = none → Same H H3 → N H3) →
      g (.ref T) (wipe σ vs) H fun σ2 H2 => wipe σ2 vs = wipe σ vs ∧ tt σ2 H2 fun b H3 => if b = true then te σ2 H3 R else N H3)
    (k : ∀ D ys H', H1 D = none → Same H1 H' → H' D = some (.lst ys) → RpTA p H' ys ((ds.zip fs).filterMap f) → Q (.ref D) H') : tLc (iZipB K t u ta) g tt te vs σ H1 Q := by
  refine ht _ fun a b xs zs H0 s01 qx qz r r' => ?_
  have ln := r.length
  have ln' := r'.length
  have lz : (ds.zip fs).length = min ds.length fs.length := List.length_zip
  refine ⟨a, b, xs, zs, rfl, qx _ (Same.refl _), qz _ (Same.refl _), fun D hD => ?_⟩
  refine ⟨fun i m H => m = (ds.zip fs).length - i ∧ i ≤ (ds.zip fs).length ∧ FInv p H0 D (ds.zip fs) f i H, ⟨(ds.zip fs).length, by simp, Nat.zero_le _, FInv.new hD⟩, ?_⟩
  rintro i m H ⟨rfl, hi, q⟩
  by_cases lt : i < (ds.zip fs).length
  · have hx : i < xs.length := by omega
    have hy : i < zs.length := by omega
    refine .inr ⟨⟨xs, zs, xs[i], zs[i], qx _ q.1, qz _ q.1, List.getElem?_eq_getElem hx, List.getElem?_eq_getElem hy⟩, fun H' => FInv p H0 D (ds.zip fs) f (i + 1) H', fun H' p' => ⟨(ds.zip fs).length - (i + 1), by omega, rfl, lt, p'⟩, fun w H' yl => ?_⟩
    obtain ⟨T, x, y, rfl, hT, rfl, e1, e2⟩ := yl
    obtain ⟨d, hd2, rd⟩ := r.get (e1 xs (qx _ q.1))
    obtain ⟨e, hf2, rf⟩ := r'.get (e2 zs (qz _ q.1))
    have sT : Same H (upd H T (.tup [x, y])) := same_new hT
    have gz : (ds.zip fs)[i]? = some (d, e) := by
      rw [List.getElem?_zip_eq_some]
      exact ⟨hd2, hf2⟩
    have sA := q.1.trans sT
    exact hs i T x y d e _ hd2 hf2 (s01.trans sA) upd_same (rd.keep (ExT.of (ExB.of sA))) (rf.keep (ExT.of (ExB.of sA))) _ _ (fun y o H3 hf s3 r3 => q.yes hD (by omega) gz hf (sT.trans s3) r3) (fun H3 hf s3 => q.no gz hf (sT.trans s3))
  · have e : i = (ds.zip fs).length := by omega
    subst e
    obtain ⟨sm, ys, hd, ly, ry⟩ := q
    rw [List.take_of_length_le (Nat.le_refl _)] at ry
    exact .inl ⟨⟨xs, zs, qx _ sm, qz _ sm, by omega⟩, k D ys H (s01.free hD) (s01.trans sm) hd ry⟩
/-- over enumerate of a tuple -/
theorem lc_filE {f : Nat × PyData → Option PyData} (hz : ds.length ≤ 1000) (ht : ∀ R : List V → Hp → Prop, (∀ v H2, Same H1 H2 → RpT p H2 v (.tuple ds) → R [v] H2) → ta σ H1 R)
    (hs : ∀ (j : Nat) (T : Addr) (x : V) (d : PyData) (H : Hp), ds[j]? = some d → Same H1 H → H T = some (.tup [.int (j : Nat), x]) → RpT p H x d → ∀ (R : VK) (N : Hp → Prop), (∀ y e H3, f (j, d) = some e → Same H H3 → RpT p H3 y e → R y H3) → (∀ H3, f (j, d) = none → Same H H3 → N H3) →
      g (.ref T) (wipe σ vs) H fun σ2 H2 => wipe σ2 vs = wipe σ vs ∧ tt σ2 H2 fun b H3 => if b = true then te σ2 H3 R else N H3)
    (k : ∀ D ys H', H1 D = none → Same H1 H' → H' D = some (.lst ys) → RpTA p H' ys ((ds.zipIdx.map fun x => (x.2, x.1)).filterMap f) → Q (.ref D) H') : tLc (iEnT K ta) g tt te vs σ H1 Q := by
  refine ht _ fun v H2 s12 rv => ?_
  cases rv with
  | @tup a xs _ n h z r =>
    have ln := r.length
    have lz : (ds.zipIdx.map fun x => (x.2, x.1)).length = ds.length := by rw [List.length_map, List.length_zipIdx]
    refine ⟨a, rfl, ⟨xs, SqT.rd h⟩, fun D hD => ?_⟩
    refine ⟨fun i m H => m = ds.length - i ∧ i ≤ ds.length ∧ FInv p H2 D (ds.zipIdx.map fun x => (x.2, x.1)) f i H, ⟨ds.length, by simp, Nat.zero_le _, FInv.new hD⟩, ?_⟩
    rintro i m H ⟨rfl, hi, q⟩
    have hT : SqT K H a xs := SqT.rd (Rd.same h q.1)
    by_cases lt : i < ds.length
    · have hx : i < xs.length := by omega
      refine .inr ⟨⟨xs, xs[i], hT, List.getElem?_eq_getElem hx⟩, fun H' => FInv p H2 D (ds.zipIdx.map fun x => (x.2, x.1)) f (i + 1) H', fun H' p' => ⟨ds.length - (i + 1), by omega, rfl, lt, p'⟩, fun w H' yl => ?_⟩
      obtain ⟨T, x, rfl, hT', rfl, e1⟩ := yl
      obtain ⟨d, hd2, rd⟩ := r.get (e1 xs hT)
      have sT : Same H (upd H T (.tup [.int (i : Nat), x])) := same_new hT'
      have gz : (ds.zipIdx.map fun x => (x.2, x.1))[i]? = some (i, d) := by
        rw [List.getElem?_map, List.getElem?_zipIdx, hd2]
        simp
      have sA := q.1.trans sT
      exact hs i T x d _ hd2 (s12.trans sA) upd_same (rd.keep (ExT.of (ExB.of sA))) _ _ (fun y o H3 hf s3 r3 => q.yes hD (by omega) gz hf (sT.trans s3) r3) (fun H3 hf s3 => q.no gz hf (sT.trans s3))
    · have e : i = ds.length := by omega
      subst e
      obtain ⟨sm, ys, hd, ly, ry⟩ := q
      rw [List.take_of_length_le (by omega)] at ry
      exact .inl ⟨⟨xs, hT, by omega⟩, k D ys H (s12.free hD) (s12.trans sm) hd ry⟩
end
end Cs
set_option maxHeartbeats 4000000
/-! Data alone: readings of expressions and statements over values, with no heap in sight. -/
namespace Cs
open PySem L2 PyProof.Rows
/-! ### data that stands apart from some addresses -/
mutual
inductive Dn (N : Addr → Prop) (H : Hp) : V → PyData → Prop
  | non : Dn N H .non .none
  | bl (b : Bool) : Dn N H (.bl b) (.bool b)
  | int (i : Int) : Dn N H (.int i) (.int i)
  | str (x : Str) (h : x.length ≤ 1000) : Dn N H (.str x) (.str x)
  | lst {a : Addr} {xs : List V} {ds : List PyData} (n : ¬ N a) (h : H a = some (.lst xs)) (z : xs.length ≤ 1000) (r : DnA N H xs ds) : Dn N H (.ref a) (.list ds)
  | tup {a : Addr} {xs : List V} {ds : List PyData} (n : ¬ N a) (h : Rd H a (.tup xs)) (z : xs.length ≤ 1000) (r : DnA N H xs ds) : Dn N H (.ref a) (.tuple ds)
  | dct {a : Addr} (n : ¬ N a) (h : H a = some (.dK [])) : Dn N H (.ref a) (.dict [])
inductive DnA (N : Addr → Prop) (H : Hp) : List V → List PyData → Prop
  | nil : DnA N H [] []
  | cons {v : V} {vs : List V} {d : PyData} {ds : List PyData} (h : Dn N H v d) (t : DnA N H vs ds) : DnA N H (v :: vs) (d :: ds)
end
structure Fit2 (N N' : Addr → Prop) (H H' : Hp) : Prop where
  m : ∀ a, N' a → N a ∨ H a = none
  k : ∀ b o, ¬ N b → H b = some o → H' b = some o
theorem Fit2.ok {N N' : Addr → Prop} {H H' : Hp} (e : Fit2 N N' H H') {a : Addr} {o : HO} (n : ¬ N a) (h : H a = some o) : ¬ N' a := fun z => by
  rcases e.m a z with q | q
  · exact n q
  · rw [h] at q
    cases q
theorem Fit2.rd {N N' : Addr → Prop} {H H' : Hp} (e : Fit2 N N' H H') {a : Addr} {o : HO} (n : ¬ N a) (h : Rd H a o) : ¬ N' a := by
  rcases h with h | ⟨q, h⟩
  · exact e.ok n h
  · exact e.ok n h
theorem Fit2.trans {N N1 N2 : Addr → Prop} {H H1 H2 : Hp} (a : Fit2 N N1 H H1) (b : Fit2 N1 N2 H1 H2) : Fit2 N N2 H H2 := by
  refine ⟨fun x h => ?_, fun x o n h => ?_⟩
  · rcases b.m x h with q | q
    · exact a.m x q
    · by_cases z : N x
      · exact .inl z
      · right
        cases e : H x with
        | none => rfl
        | some o =>
          rw [a.k x o z e] at q
          cases q
  · exact b.k x o (a.ok n h) (a.k x o n h)
theorem Fit2.refl {N : Addr → Prop} {H : Hp} : Fit2 N N H H := ⟨fun _ h => .inl h, fun _ _ _ h => h⟩
theorem Fit2.same {N : Addr → Prop} {H H' : Hp} (s : Same H H') : Fit2 N N H H' := ⟨fun _ h => .inl h, fun _ _ _ h => s _ _ h⟩
theorem Fit2.less {N N' : Addr → Prop} {H : Hp} (h : ∀ a, N' a → N a) : Fit2 N N' H H := ⟨fun a z => .inl (h a z), fun _ _ _ h => h⟩
mutual
theorem Dn.go {N N' : Addr → Prop} {H H' : Hp} (e : Fit2 N N' H H') : ∀ {v : V} {d : PyData}, Dn N H v d → Dn N' H' v d
  | _, _, .non => .non
  | _, _, .bl b => .bl b
  | _, _, .int i => .int i
  | _, _, .str x h => .str x h
  | _, _, .lst n h z r => .lst (e.ok n h) (e.k _ _ n h) z (DnA.go e r)
  | _, _, .tup n h z r => .tup (e.rd n h) (rd_keep (fun o q => e.k _ o n q) h) z (DnA.go e r)
  | _, _, .dct n h => .dct (e.ok n h) (e.k _ _ n h)
theorem DnA.go {N N' : Addr → Prop} {H H' : Hp} (e : Fit2 N N' H H') : ∀ {vs : List V} {ds : List PyData}, DnA N H vs ds → DnA N' H' vs ds
  | _, _, .nil => .nil
  | _, _, .cons h t => .cons (Dn.go e h) (DnA.go e t)
end
mutual
theorem Dn.rp {N : Addr → Prop} {H : Hp} {p : Addr} (hp : N p) : ∀ {v : V} {d : PyData}, Dn N H v d → Rp p H v d
  | _, _, .non => .non
  | _, _, .bl b => .bl b
  | _, _, .int i => .int i
  | _, _, .str x h => .str x h
  | _, _, .lst n h z r => .lst (fun e => n (e ▸ hp)) h z (DnA.rp hp r)
  | _, _, .tup n h z r => .tup (fun e => n (e ▸ hp)) h z (DnA.rp hp r)
  | _, _, .dct n h => .dct (fun e => n (e ▸ hp)) h
theorem DnA.rp {N : Addr → Prop} {H : Hp} {p : Addr} (hp : N p) : ∀ {vs : List V} {ds : List PyData}, DnA N H vs ds → RpA p H vs ds
  | _, _, .nil => .nil
  | _, _, .cons h t => .cons (Dn.rp hp h) (DnA.rp hp t)
end
mutual
theorem RpT.dn {N : Addr → Prop} {H : Hp} {p : Addr} (hn : ∀ a xs, a ≠ p → Rd H a (.tup xs) → ¬ N a) : ∀ {v : V} {d : PyData}, RpT p H v d → Dn N H v d
  | _, _, .non => .non
  | _, _, .bl b => .bl b
  | _, _, .int i => .int i
  | _, _, .str x h => .str x h
  | _, _, .tup n h z r => .tup (hn _ _ n h) h z (RpTA.dn hn r)
theorem RpTA.dn {N : Addr → Prop} {H : Hp} {p : Addr} (hn : ∀ a xs, a ≠ p → Rd H a (.tup xs) → ¬ N a) : ∀ {vs : List V} {ds : List PyData}, RpTA p H vs ds → DnA N H vs ds
  | _, _, .nil => .nil
  | _, _, .cons h t => .cons (RpT.dn hn h) (RpTA.dn hn t)
end
theorem DnA.length {N : Addr → Prop} {H : Hp} : ∀ {vs : List V} {ds : List PyData}, DnA N H vs ds → vs.length = ds.length
  | _, _, .nil => rfl
  | _, _, .cons _ t => by rw [List.length_cons, List.length_cons, DnA.length t]
theorem DnA.get {N : Addr → Prop} {H : Hp} : ∀ {vs : List V} {ds : List PyData} {i : Nat} {v : V}, DnA N H vs ds → vs[i]? = some v → ∃ d, ds[i]? = some d ∧ Dn N H v d
  | _, _, _, _, .nil, e => by simp at e
  | _, _, 0, _, .cons h _, e => by
    obtain rfl := Option.some.inj e
    exact ⟨_, rfl, h⟩
  | _, _, i + 1, v, .cons _ t, e => DnA.get (i := i) t e
theorem DnA.at_ {N : Addr → Prop} {H : Hp} : ∀ {vs : List V} {ds : List PyData} {i : Nat} {d : PyData}, DnA N H vs ds → ds[i]? = some d → ∃ v, vs[i]? = some v ∧ Dn N H v d
  | _, _, _, _, .nil, e => by simp at e
  | _, _, 0, _, .cons h _, e => by
    obtain rfl := Option.some.inj e
    exact ⟨_, rfl, h⟩
  | _, _, i + 1, v, .cons _ t, e => DnA.at_ (i := i) t e
theorem DnA.append {N : Addr → Prop} {H : Hp} : ∀ {vs ws : List V} {ds es : List PyData}, DnA N H vs ds → DnA N H ws es → DnA N H (vs ++ ws) (ds ++ es)
  | _, _, _, _, .nil, s => s
  | _, _, _, _, .cons h t, s => .cons h (DnA.append t s)
theorem DnA.take {N : Addr → Prop} {H : Hp} : ∀ {vs : List V} {ds : List PyData} (n : Nat), DnA N H vs ds → DnA N H (vs.take n) (ds.take n)
  | _, _, 0, _ => .nil
  | _, _, n + 1, .nil => .nil
  | _, _, n + 1, .cons h t => .cons h (DnA.take n t)
theorem DnA.drop {N : Addr → Prop} {H : Hp} : ∀ {vs : List V} {ds : List PyData} (n : Nat), DnA N H vs ds → DnA N H (vs.drop n) (ds.drop n)
  | _, _, 0, h => h
  | _, _, n + 1, .nil => .nil
  | _, _, n + 1, .cons h t => DnA.drop n t
theorem DnA.cut {N : Addr → Prop} {H : Hp} {vs : List V} {ds : List PyData} (r : DnA N H vs ds) (lo hi : Option Int) : DnA N H (cutV vs lo hi) (cutD ds lo hi) := by
  unfold cutV cutD
  rw [r.length]
  exact DnA.take _ (DnA.drop _ r)
theorem DnA.erase {N : Addr → Prop} {H : Hp} : ∀ {vs : List V} {ds : List PyData} (k : Nat), DnA N H vs ds → DnA N H (vs.eraseIdx k) (ds.eraseIdx k)
  | _, _, _, .nil => .nil
  | _, _, 0, .cons h t => t
  | _, _, k + 1, .cons h t => .cons h (DnA.erase k t)
theorem DnA.rep {N : Addr → Prop} {H : Hp} {vs : List V} {ds : List PyData} (r : DnA N H vs ds) : ∀ (n : Nat), DnA N H (List.replicate n vs).flatten (List.replicate n ds).flatten
  | 0 => .nil
  | n + 1 => by
    rw [List.replicate_succ, List.replicate_succ, List.flatten_cons, List.flatten_cons]
    exact r.append (DnA.rep r n)
mutual
theorem Dn.dp {N : Addr → Prop} {H : Hp} {K : PySem.W.Frag} : ∀ {v : V} {d : PyData}, Dn N H v d → d.canLay0 = true → Dp K H v d
  | _, _, .non, _ => .non
  | _, _, .bl b, _ => .bl b
  | _, _, .int i, _ => .int i
  | _, _, .str x h, _ => .str x
  | _, _, .lst n h z r, e => .lst (SqL.of h) (DnA.dp r e)
  | _, _, .tup n h z r, e => .tup (SqT.rd h) (DnA.dp r e)
  | _, _, .dct n h, e => by cases e
theorem DnA.dp {N : Addr → Prop} {H : Hp} {K : PySem.W.Frag} : ∀ {vs : List V} {ds : List PyData}, DnA N H vs ds → PyData.canLayAll0 ds = true → DpAll K H vs ds
  | _, _, .nil, _ => .nil
  | _, _, .cons h t, e => by
    have e' : (_ && _) = true := e
    rw [Bool.and_eq_true] at e'
    exact .cons (Dn.dp h e'.1) (DnA.dp t e'.2)
end
/-! ### what is known of slots and of results -/
inductive AV where
  | u
  | d (x : PyData)
  | l (xs : List PyData)
  | p (n : Nat)
  | o (P : V → Hp → Prop)
  | q (n : Nat) (z : List (Addr × Str))
  | t (z : List (Addr × Str))
inductive RV where
  | d (x : PyData)
  | f (xs : List PyData)
  | b (x : PyData)
  | p
  | o (P : V → Hp → Prop)
/-- a result looked at -/
def RV.see : RV → Option PyData
  | .d y => some y
  | .f ys => some (.list ys)
  | .b y => some y
  | _ => none
/-- a result that may be kept -/
def RV.kp : RV → Option PyData
  | .d y => some y
  | .f ys => some (.list ys)
  | _ => none
structure Ga where
  B : Bool
  p : Addr
  M : Addr → Prop
  H0 : Hp
  F : (Addr → Prop) → Hp → Prop
  fst : ∀ (N N' : Addr → Prop) (H H' : Hp), Fit2 N N' H H' → F N H → F N' H'
  tb : List (Addr × Str)
  tm : ∀ q ∈ tb, M q.1
  t0 : ∀ q ∈ tb, ∃ ps, H0 q.1 = some (.tbl ps)
/-- a table of code that grows -/
def Zp (Γ : Ga) (b : Addr) : Prop := ∃ q ∈ Γ.tb, q.1 = b
/-- what stays at any rate -/
def Fre (Γ : Ga) (b : Addr) : Prop := (Γ.B = true → b ≠ Γ.p) ∧ ¬ Zp Γ b
/-- a list, or a table of code -/
def Ls (H : Hp) (a : Addr) : Prop := (∃ xs, H a = some (.lst xs)) ∨ ∃ ps, H a = some (.tbl ps)
theorem Ls.ob {H : Hp} {a : Addr} (h : Ls H a) : ∃ o, H a = some o := by
  rcases h with ⟨_, h⟩ | ⟨_, h⟩
  · exact ⟨_, h⟩
  · exact ⟨_, h⟩
theorem zp_M {Γ : Ga} {b : Addr} (h : Zp Γ b) : Γ.M b := by
  obtain ⟨q, hq, rfl⟩ := h
  exact Γ.tm q hq
theorem zp_not {Γ : Ga} {H : Hp} {b : Addr} {o : HO} (t : LamX.Tabs Γ.tb H) (h : H b = some o) (n : ∀ ps, o ≠ .tbl ps) : ¬ Zp Γ b := by
  rintro ⟨q, hq, rfl⟩
  obtain ⟨ps, e, _⟩ := t q hq
  rw [h] at e
  exact n ps (Option.some.inj e)
theorem zp_0 {Γ : Ga} {b : Addr} (h : Zp Γ b) : ∃ ps, Γ.H0 b = some (.tbl ps) := by
  obtain ⟨q, hq, rfl⟩ := h
  exact Γ.t0 q hq
theorem zp_at {Γ : Ga} {H : Hp} {b : Addr} (t : LamX.Tabs Γ.tb H) (h : Zp Γ b) : ∃ ps, H b = some (.tbl ps) := by
  obtain ⟨q, hq, rfl⟩ := h
  obtain ⟨ps, e, _⟩ := t q hq
  exact ⟨ps, e⟩
/-- tables stand while a list changes -/
theorem tabs_exb {T : List (Addr × Str)} {p : Addr} {H H' : Hp} {xs : List V} (t : LamX.Tabs T H) (h : H p = some (.lst xs)) (e : ∀ b o, b ≠ p → H b = some o → H' b = some o) : LamX.Tabs T H' := fun q hq => by
  obtain ⟨ps, h1, h2, h3⟩ := t q hq
  refine ⟨ps, e _ _ (fun z => by rw [z, h] at h1; cases h1) h1, h2, fun pos cv hc => ?_⟩
  obtain ⟨c, e1, e2⟩ := h3 pos cv hc
  exact ⟨c, e1, e _ _ (fun z => by rw [z, h] at e2; unfold LamX.CodeO at e2; cases e2) e2⟩
def OwnS (ε : List AV) (σ : L2.St) (a : Addr) : Prop := ∃ (i : Nat) (xs : List PyData), ε[i]? = some (.l xs) ∧ σ[i]? = some (some (.ref a))
def Mx (Γ : Ga) (ε : List AV) (T : Addr → Prop) (σ : L2.St) (a : Addr) : Prop := Γ.M a ∨ OwnS ε σ a ∨ T a
def Stb (N : Addr → Prop) (H : Hp) (P : V → Hp → Prop) (v : V) : Prop := ∀ H', (∀ b o, ¬ N b → H b = some o → H' b = some o) → P v H'
theorem Stb.go {N N' : Addr → Prop} {H H' : Hp} {P : V → Hp → Prop} {v : V} (e : Fit2 N N' H H') (h : Stb N H P v) : Stb N' H' P v := fun H2 k => h H2 fun b o n q => k b o (e.ok n q) (e.k b o n q)
def PailAt (H : Hp) (p : Addr) (n : Nat) : Prop := ∃ a b c : Int, 0 ≤ c ∧ c ≤ n ∧ H p = some (.lst [.int a, .int b, .int c])
theorem PailAt.keep {H H' : Hp} {p : Addr} {n : Nat} (h : PailAt H p n) (s : Same H H') : PailAt H' p n := by
  obtain ⟨a, b, c, h1, h2, h3⟩ := h
  exact ⟨a, b, c, h1, h2, s _ _ h3⟩
theorem PailAt.more {H : Hp} {p : Addr} {n m : Nat} (h : PailAt H p n) (z : n ≤ m) : PailAt H p m := by
  obtain ⟨a, b, c, h1, h2, h3⟩ := h
  exact ⟨a, b, c, h1, by omega, h3⟩
theorem PailAt.has {H : Hp} {p : Addr} {n : Nat} (h : PailAt H p n) : Has p H := by
  obtain ⟨a, b, c, _, _, e⟩ := h
  exact ⟨_, e⟩
theorem PailAt.lst {H : Hp} {p : Addr} {n : Nat} (h : PailAt H p n) : ∃ o, H p = some (.lst o) := by
  obtain ⟨a, b, c, _, _, e⟩ := h
  exact ⟨_, e⟩
theorem PailAt.put {H : Hp} {p l : Addr} {n : Nat} {o : HO} (h : PailAt H p n) (ne : l ≠ p) : PailAt (upd H l o) p n := by
  obtain ⟨a, b, c, h1, h2, h3⟩ := h
  exact ⟨a, b, c, h1, h2, by rw [upd_ne ne.symm]; exact h3⟩
def Slot (Γ : Ga) (N : Addr → Prop) (H : Hp) : AV → Option (Option V) → Prop
  | .u, _ => True
  | .d x, s => ∃ v, s = some (some v) ∧ Dn N H v x
  | .l xs, s => ∃ a vs, s = some (some (.ref a)) ∧ Γ.H0 a = none ∧ H a = some (.lst vs) ∧ vs.length ≤ 1000 ∧ DnA N H vs xs
  | .p n, s => s = some (some (.ref Γ.p)) ∧ PailAt H Γ.p n ∧ Γ.B = true
  | .o P, s => ∃ v, s = some (some v) ∧ Stb N H P v
  | .q n z, s => s = some (some (.ref Γ.p)) ∧ PailAt H Γ.p n ∧ Γ.B = true ∧ Γ.tb = z
  | .t z, _ => Γ.tb = z
structure Rep (Γ : Ga) (ε : List AV) (T : Addr → Prop) (σ : L2.St) (H : Hp) : Prop where
  ln : ε.length = σ.length
  pm : Γ.M Γ.p
  hp : ∃ o, H Γ.p = some (.lst o)
  hp0 : ∃ o, Γ.H0 Γ.p = some (.lst o)
  ext : ∀ b o, Fre Γ b → Γ.H0 b = some o → H b = some o
  ml : ∀ a, Γ.M a → a = Γ.p ∨ Ls Γ.H0 a
  tmp : ∀ a, T a → Γ.H0 a = none ∧ (∃ vs, H a = some (.lst vs)) ∧ ¬ OwnS ε σ a
  dis : ∀ (i j : Nat) (xs ys : List PyData), ε[i]? = some (.l xs) → ε[j]? = some (.l ys) → σ[i]? = σ[j]? → i = j
  sl : ∀ (i : Nat) (e : AV), ε[i]? = some e → Slot Γ (Mx Γ ε T σ) H e σ[i]?
  fr : Γ.F (Mx Γ ε T σ) H
  tz : LamX.Tabs Γ.tb H
/-- from one moment of an expression to a later one -/
structure Stp (Γ : Ga) (ε : List AV) (T : Addr → Prop) (ε' : List AV) (T' : Addr → Prop) (σ : L2.St) (H H' : Hp) : Prop where
  k : ∀ b o, Fre Γ b → H b = some o → H' b = some o
  hp : ∃ o, H' Γ.p = some (.lst o)
  tz : LamX.Tabs Γ.tb H'
  t : ∀ a, T a → T' a
  m : ∀ a, Mx Γ ε' T' σ a → Mx Γ ε T σ a ∨ H a = none
theorem Stp.fit {Γ : Ga} {ε ε' : List AV} {T T' : Addr → Prop} {σ : L2.St} {H H' : Hp} (s : Stp Γ ε T ε' T' σ H H') (hp : Γ.M Γ.p) : Fit2 (Mx Γ ε T σ) (Mx Γ ε' T' σ) H H' := ⟨s.m, fun b o n h => s.k b o ⟨fun _ e => n (e ▸ .inl hp), fun z => n (.inl (zp_M z))⟩ h⟩
theorem Stp.none {Γ : Ga} {ε ε' : List AV} {T T' : Addr → Prop} {σ : L2.St} {H H' : Hp} (s : Stp Γ ε T ε' T' σ H H') (hp : ∃ o, H Γ.p = some (.lst o)) {a : Addr} (h : H' a = none) : H a = none := by
  cases e : H a with
  | none => rfl
  | some o =>
    by_cases z : a = Γ.p
    · subst z
      obtain ⟨u, hu⟩ := s.hp
      rw [hu] at h
      cases h
    · by_cases zz : Zp Γ a
      · obtain ⟨ps, hps⟩ := zp_at s.tz zz
        rw [hps] at h
        cases h
      · rw [s.k a o ⟨fun _ => z, zz⟩ e] at h
        cases h
theorem Stp.trans {Γ : Ga} {ε ε1 ε2 : List AV} {T T1 T2 : Addr → Prop} {σ : L2.St} {H H1 H2 : Hp} (hp : ∃ o, H Γ.p = some (.lst o)) (a : Stp Γ ε T ε1 T1 σ H H1) (b : Stp Γ ε1 T1 ε2 T2 σ H1 H2) : Stp Γ ε T ε2 T2 σ H H2 :=
  ⟨fun x o n h => b.k x o n (a.k x o n h), b.hp, b.tz, fun x h => b.t x (a.t x h), fun x h => by
    rcases b.m x h with q | q
    · exact a.m x q
    · exact .inr (a.none hp q)⟩
theorem Stp.refl {Γ : Ga} {ε : List AV} {T : Addr → Prop} {σ : L2.St} {H : Hp} (R : Rep Γ ε T σ H) : Stp Γ ε T ε T σ H H := ⟨fun _ _ _ h => h, R.hp, R.tz, fun _ h => h, fun _ h => .inl h⟩
def Den (Γ : Ga) (ε : List AV) (T : Addr → Prop) (σ : L2.St) (H : Hp) (r : RV) (v : V) (H' : Hp) : Prop := match r with
  | .d x => Dn (Mx Γ ε T σ) H' v x
  | .f xs => ∃ a vs, v = .ref a ∧ H a = none ∧ T a ∧ H' a = some (.lst vs) ∧ vs.length ≤ 1000 ∧ DnA (Mx Γ ε T σ) H' vs xs
  | .b x => Dn (Mx Γ ε T σ) H' v x ∨ (∃ y : Str, v = .str y ∧ x = .str y ∧ y.length ≤ sizeLine) ∨ ∃ a vs xs, v = .ref a ∧ x = .list xs ∧ a ≠ Γ.p ∧ H' a = some (.lst vs) ∧ vs.length ≤ 1000 ∧ DnA (Mx Γ ε T σ) H' vs xs
  | .p => v = .ref Γ.p
  | .o P => Stb (Mx Γ ε T σ) H' P v
theorem tmp_p {Γ : Ga} {ε : List AV} {T : Addr → Prop} {σ : L2.St} {H : Hp} (R : Rep Γ ε T σ H) {a : Addr} (h : T a) : a ≠ Γ.p := fun e => by
  obtain ⟨h1, _⟩ := R.tmp a h
  obtain ⟨o, h2⟩ := R.hp0
  rw [e, h2] at h1
  cases h1
theorem Den.step {Γ : Ga} {ε ε' : List AV} {T T' : Addr → Prop} {σ : L2.St} {H H1 H2 : Hp} {r : RV} {v : V} (R : Rep Γ ε T σ H1) (d : Den Γ ε T σ H r v H1) (s : Stp Γ ε T ε' T' σ H1 H2) : Den Γ ε' T' σ H r v H2 := by
  have f := s.fit R.pm
  cases r with
  | d x => exact Dn.go f d
  | f xs =>
    obtain ⟨a, vs, e, h1, h2, h3, h4, h5⟩ := d
    exact ⟨a, vs, e, h1, s.t a h2, s.k _ _ ⟨fun _ => tmp_p R h2, zp_not R.tz h3 nofun⟩ h3, h4, h5.go f⟩
  | b x =>
    rcases d with d | d | ⟨a, vs, xs, e, h1, h2, h3, h4, h5⟩
    · exact .inl (d.go f)
    · exact .inr (.inl d)
    · exact .inr (.inr ⟨a, vs, xs, e, h1, h2, s.k _ _ ⟨fun _ => h2, zp_not R.tz h3 nofun⟩ h3, h4, h5.go f⟩)
  | p => exact d
  | o P => exact Stb.go f d
theorem Den.early {Γ : Ga} {ε : List AV} {T : Addr → Prop} {σ : L2.St} {H H1 H2 : Hp} {r : RV} {v : V} (d : Den Γ ε T σ H1 r v H2) (hn : ∀ a, H1 a = none → H a = none) : Den Γ ε T σ H r v H2 := by
  cases r with
  | f xs =>
    obtain ⟨a, vs, e, h1, h⟩ := d
    exact ⟨a, vs, e, hn a h1, h⟩
  | _ => exact d
theorem not_M {Γ : Ga} {ε : List AV} {T : Addr → Prop} {σ : L2.St} {H : Hp} (R : Rep Γ ε T σ H) {a : Addr} (h : Γ.H0 a = none) : ¬ Γ.M a := fun m => by
  rcases R.ml a m with rfl | e
  · obtain ⟨o, e⟩ := R.hp0
    rw [h] at e
    cases e
  · obtain ⟨o, e⟩ := e.ob
    rw [h] at e
    cases e
theorem Rep.fresh {Γ : Ga} {ε : List AV} {T : Addr → Prop} {σ : L2.St} {H : Hp} (R : Rep Γ ε T σ H) {a : Addr} (h : H a = none) : Γ.H0 a = none := by
  cases e : Γ.H0 a with
  | none => rfl
  | some o =>
    by_cases z : a = Γ.p
    · subst z
      obtain ⟨u, hu⟩ := R.hp
      rw [hu] at h
      cases h
    · by_cases zz : Zp Γ a
      · obtain ⟨ps, hps⟩ := zp_at R.tz zz
        rw [hps] at h
        cases h
      · rw [R.ext a o ⟨fun _ => z, zz⟩ e] at h
        cases h
theorem Rep.not_x {Γ : Ga} {ε : List AV} {T : Addr → Prop} {σ : L2.St} {H : Hp} (R : Rep Γ ε T σ H) {a : Addr} (h : H a = none) : ¬ Mx Γ ε T σ a := by
  rintro (m | ⟨i, xs, e, e2⟩ | t)
  · exact not_M R (R.fresh h) m
  · obtain ⟨b, vs, e3, _, h2, _⟩ := R.sl i _ e
    rw [e3] at e2
    cases e2
    rw [h] at h2
    cases h2
  · obtain ⟨_, ⟨vs, h2⟩, _⟩ := R.tmp a t
    rw [h] at h2
    cases h2
theorem Slot.go {Γ : Ga} {N N' : Addr → Prop} {H H' : Hp} {e : AV} {s : Option (Option V)} (f : Fit2 N N' H H') (hp : ∀ n, PailAt H Γ.p n → PailAt H' Γ.p n) (hl : ∀ xs a, e = .l xs → s = some (some (.ref a)) → ∀ o, H a = some o → H' a = some o) (h : Slot Γ N H e s) : Slot Γ N' H' e s := by
  cases e with
  | u => trivial
  | t z => exact h
  | d x =>
    obtain ⟨v, e, d⟩ := h
    exact ⟨v, e, d.go f⟩
  | l xs =>
    obtain ⟨a, vs, e, h0, h1, h2, h3⟩ := h
    exact ⟨a, vs, e, h0, hl _ a rfl e _ h1, h2, h3.go f⟩
  | p n =>
    obtain ⟨e, h1, h2⟩ := h
    exact ⟨e, hp n h1, h2⟩
  | q n z =>
    obtain ⟨e, h1, h2⟩ := h
    exact ⟨e, hp n h1, h2⟩
  | o P =>
    obtain ⟨v, e, d⟩ := h
    exact ⟨v, e, d.go f⟩
theorem Rep.same {Γ : Ga} {ε : List AV} {T : Addr → Prop} {σ : L2.St} {H H' : Hp} (R : Rep Γ ε T σ H) (s : Same H H') : Rep Γ ε T σ H' := by
  refine ⟨R.ln, R.pm, ?_, R.hp0, fun b o n h => s _ _ (R.ext b o n h), R.ml, fun a h => ?_, R.dis, fun i e h => (R.sl i e h).go (Fit2.same s) (fun n h => h.keep s) (fun _ _ _ _ _ h => s _ _ h), Γ.fst _ _ _ _ (Fit2.same s) R.fr, R.tz.ext s⟩
  · obtain ⟨o, h⟩ := R.hp
    exact ⟨o, s _ _ h⟩
  · obtain ⟨h1, ⟨vs, h2⟩, h3⟩ := R.tmp a h
    exact ⟨h1, ⟨vs, s _ _ h2⟩, h3⟩
theorem mx_less {Γ : Ga} {ε : List AV} {T T' : Addr → Prop} {σ : L2.St} (h : ∀ a, T' a → T a) {a : Addr} (z : Mx Γ ε T' σ a) : Mx Γ ε T σ a := by
  rcases z with z | z | z
  · exact .inl z
  · exact .inr (.inl z)
  · exact .inr (.inr (h a z))
theorem Rep.less {Γ : Ga} {ε : List AV} {T T' : Addr → Prop} {σ : L2.St} {H : Hp} (R : Rep Γ ε T σ H) (h : ∀ a, T' a → T a) : Rep Γ ε T' σ H :=
  ⟨R.ln, R.pm, R.hp, R.hp0, R.ext, R.ml, fun a q => R.tmp a (h a q), R.dis, fun i e q => (R.sl i e q).go (Fit2.less fun _ => mx_less h) (fun _ h => h) (fun _ _ _ _ _ h => h), Γ.fst _ _ _ _ (Fit2.less fun _ => mx_less h) R.fr, R.tz⟩
/-- a new list, kept for itself -/
theorem Rep.temp {Γ : Ga} {ε : List AV} {T : Addr → Prop} {σ : L2.St} {H : Hp} {t : Addr} {xs : List V} (R : Rep Γ ε T σ H) (h : H t = none) : Rep Γ ε (fun a => T a ∨ a = t) σ (upd H t (.lst xs)) := by
  have s := same_new (o := .lst xs) h
  have R' := R.same s
  have no : ¬ OwnS ε σ t := fun z => R.not_x h (.inr (.inl z))
  refine ⟨R'.ln, R'.pm, R'.hp, R'.hp0, R'.ext, R'.ml, fun a q => ?_, R'.dis, fun i e q => (R.sl i e q).go ⟨?f1, fun b o _ h => s _ _ h⟩ (fun n h => h.keep s) (fun _ _ _ _ _ h => s _ _ h), Γ.fst _ _ _ _ ⟨?f1, fun b o _ h => s _ _ h⟩ R.fr, R'.tz⟩
  case f1 =>
    intro a z
    rcases z with z | z | z | rfl
    · exact .inl (.inl z)
    · exact .inl (.inr (.inl z))
    · exact .inl (.inr (.inr z))
    · exact .inr h
  · rcases q with q | rfl
    · exact R'.tmp a q
    · exact ⟨R.fresh h, ⟨xs, upd_same⟩, no⟩
end Cs
set_option maxHeartbeats 4000000
/-! Expressions over data. -/
namespace Cs
open PySem L2 PyProof.Rows
structure XE where
  run : List AV → (RV → List AV → Prop) → Prop
  mono : ∀ {ε : List AV} {K K' : RV → List AV → Prop}, (∀ r e, K r e → K' r e) → run ε K → run ε K'
structure XA where
  run : List AV → (List RV → List AV → Prop) → Prop
  mono : ∀ {ε : List AV} {K K' : List RV → List AV → Prop}, (∀ r e, K r e → K' r e) → run ε K → run ε K'
structure XT where
  run : List AV → (Bool → List AV → Prop) → Prop
  mono : ∀ {ε : List AV} {K K' : Bool → List AV → Prop}, (∀ r e, K r e → K' r e) → run ε K → run ε K'
structure XO where
  run : List AV → (Option Int → List AV → Prop) → Prop
  mono : ∀ {ε : List AV} {K K' : Option Int → List AV → Prop}, (∀ r e, K r e → K' r e) → run ε K → run ε K'
inductive DenA (Γ : Ga) (ε : List AV) (T : Addr → Prop) (σ : L2.St) (H : Hp) : List RV → List V → Hp → Prop
  | nil {H'} : DenA Γ ε T σ H [] [] H'
  | cons {r : RV} {v : V} {rs : List RV} {vs : List V} {H'} (h : Den Γ ε T σ H r v H') (t : DenA Γ ε T σ H rs vs H') (n : ∀ xs a, r = .f xs → v = .ref a → ∀ (k : Nat) ys, rs[k]? = some (.f ys) → vs[k]? ≠ some (.ref a)) : DenA Γ ε T σ H (r :: rs) (v :: vs) H'
def up (t : XE) : TE := fun σ H Q => ∃ Γ ε T, Rep Γ ε T σ H ∧ t.run ε fun r ε' => ∀ v T' H', Rep Γ ε' T' σ H' → Stp Γ ε T ε' T' σ H H' → Den Γ ε' T' σ H r v H' → Q v H'
def upA (t : XA) : TA := fun σ H Q => ∃ Γ ε T, Rep Γ ε T σ H ∧ t.run ε fun rs ε' => ∀ vs T' H', Rep Γ ε' T' σ H' → Stp Γ ε T ε' T' σ H H' → DenA Γ ε' T' σ H rs vs H' → Q vs H'
def upT (t : XT) : TT := fun σ H Q => ∃ Γ ε T, Rep Γ ε T σ H ∧ t.run ε fun b ε' => ∀ T' H', Rep Γ ε' T' σ H' → Stp Γ ε T ε' T' σ H H' → Q b H'
def upO (t : XO) : TO := fun σ H Q => ∃ Γ ε T, Rep Γ ε T σ H ∧ t.run ε fun b ε' => ∀ T' H', Rep Γ ε' T' σ H' → Stp Γ ε T ε' T' σ H H' → Q b H'
section
variable {Γ : Ga} {ε ε2 : List AV} {T T2 : Addr → Prop} {σ : L2.St} {H H2 : Hp}
theorem up1 {t : XE} {G : RV → List AV → Prop} {R : VK} (R0 : Rep Γ ε T σ H) (h : t.run ε G) (k : ∀ r x ε1 T1 H1, G r ε1 → Rep Γ ε1 T1 σ H1 → Stp Γ ε T ε1 T1 σ H H1 → Den Γ ε1 T1 σ H r x H1 → R x H1) : up t σ H R :=
  ⟨Γ, ε, T, R0, t.mono (fun r e g v T' H' R' s d => k r v e T' H' g R' s d) h⟩
theorem upA1 {t : XA} {G : List RV → List AV → Prop} {R : List V → Hp → Prop} (R0 : Rep Γ ε T σ H) (h : t.run ε G) (k : ∀ r x ε1 T1 H1, G r ε1 → Rep Γ ε1 T1 σ H1 → Stp Γ ε T ε1 T1 σ H H1 → DenA Γ ε1 T1 σ H r x H1 → R x H1) : upA t σ H R :=
  ⟨Γ, ε, T, R0, t.mono (fun r e g v T' H' R' s d => k r v e T' H' g R' s d) h⟩
theorem upT1 {t : XT} {G : Bool → List AV → Prop} {R : Bool → Hp → Prop} (R0 : Rep Γ ε T σ H) (h : t.run ε G) (k : ∀ b ε1 T1 H1, G b ε1 → Rep Γ ε1 T1 σ H1 → Stp Γ ε T ε1 T1 σ H H1 → R b H1) : upT t σ H R :=
  ⟨Γ, ε, T, R0, t.mono (fun r e g T' H' R' s => k r e T' H' g R' s) h⟩
theorem upO1 {t : XO} {G : Option Int → List AV → Prop} {R : Option Int → Hp → Prop} (R0 : Rep Γ ε T σ H) (h : t.run ε G) (k : ∀ b ε1 T1 H1, G b ε1 → Rep Γ ε1 T1 σ H1 → Stp Γ ε T ε1 T1 σ H H1 → R b H1) : upO t σ H R :=
  ⟨Γ, ε, T, R0, t.mono (fun r e g T' H' R' s => k r e T' H' g R' s) h⟩
theorem DenA.step {ε' : List AV} {T' : Addr → Prop} {H1 : Hp} {rs : List RV} {vs : List V} (R : Rep Γ ε T σ H1) (d : DenA Γ ε T σ H rs vs H1) (s : Stp Γ ε T ε' T' σ H1 H2) : DenA Γ ε' T' σ H rs vs H2 := by
  induction rs generalizing vs with
  | nil => cases d; exact .nil
  | cons r rs ih =>
    cases d with
    | cons h t n => exact .cons (h.step R s) (ih t) n
theorem DenA.early {H1 : Hp} {rs : List RV} {vs : List V} (d : DenA Γ ε T σ H1 rs vs H2) (hn : ∀ a, H1 a = none → H a = none) : DenA Γ ε T σ H rs vs H2 := by
  induction rs generalizing vs with
  | nil => cases d; exact .nil
  | cons r rs ih =>
    cases d with
    | cons h t n => exact .cons (h.early hn) (ih t) n
theorem DenA.fr {rs : List RV} {vs : List V} (d : DenA Γ ε T σ H rs vs H2) : ∀ (k : Nat) (ys : List PyData) (a : Addr), rs[k]? = some (.f ys) → vs[k]? = some (.ref a) → H a = none := by
  induction rs generalizing vs with
  | nil => intro k ys a h; cases h
  | cons r rs ih =>
    intro k ys a h1 h2
    cases d with
    | cons h t n =>
      cases k with
      | zero =>
        cases h1
        cases h2
        obtain ⟨b, ws, e, h0, _⟩ := h
        cases e
        exact h0
      | succ k => exact ih t k ys a h1 h2
theorem up2 {ta tb : XE} {G : RV → RV → List AV → Prop} {R : V → V → Hp → Prop} (R0 : Rep Γ ε T σ H) (h : ta.run ε fun r ε1 => tb.run ε1 fun s ε2 => G r s ε2)
    (k : ∀ r s x y ε2 T2 H2, G r s ε2 → Rep Γ ε2 T2 σ H2 → Stp Γ ε T ε2 T2 σ H H2 → Den Γ ε2 T2 σ H r x H2 → Den Γ ε2 T2 σ H s y H2 → R x y H2) : up ta σ H fun x H1 => up tb σ H1 fun y H2 => R x y H2 :=
  up1 R0 h fun r x ε1 T1 H1 g R1 s1 d1 => up1 R1 g fun s y ε2 T2 H2 g2 R2 s2 d2 => k r s x y ε2 T2 H2 g2 R2 (s1.trans R0.hp s2) (d1.step R1 s2) (d2.early fun a => s1.none R0.hp)
/-- seen as data -/
def See (N : Addr → Prop) (H : Hp) (v : V) (d : PyData) : Prop := Dn N H v d ∨ (∃ y : Str, v = .str y ∧ d = .str y ∧ y.length ≤ sizeLine) ∨ ∃ a vs xs, v = .ref a ∧ d = .list xs ∧ H a = some (.lst vs) ∧ vs.length ≤ 1000 ∧ DnA N H vs xs
inductive SeeA (N : Addr → Prop) (H : Hp) : List V → List PyData → Prop
  | nil : SeeA N H [] []
  | cons {v : V} {vs : List V} {d : PyData} {ds : List PyData} (h : See N H v d) (t : SeeA N H vs ds) : SeeA N H (v :: vs) (d :: ds)
theorem Den.see {r : RV} {v : V} {d : PyData} (h : Den Γ ε T σ H r v H2) (e : r.see = some d) : See (Mx Γ ε T σ) H2 v d := by
  cases r with
  | d x => cases e; exact .inl h
  | f xs =>
    cases e
    obtain ⟨a, vs, e, _, _, h1, h2, h3⟩ := h
    exact .inr (.inr ⟨a, vs, xs, e, rfl, h1, h2, h3⟩)
  | b x =>
    cases e
    rcases h with h | h | ⟨a, vs, xs, e, h0, _, h1, h2, h3⟩
    · exact .inl h
    · exact .inr (.inl h)
    · exact .inr (.inr ⟨a, vs, xs, e, h0, h1, h2, h3⟩)
  | p => cases e
  | o P => cases e
/-- kept as data, with the temporary things of before -/
theorem Den.kept {r : RV} {v : V} {d : PyData} (R : Rep Γ ε T σ H) (R2 : Rep Γ ε2 T2 σ H2) (s : Stp Γ ε T ε2 T2 σ H H2) (h : Den Γ ε2 T2 σ H r v H2) (e : r.kp = some d) : Dn (Mx Γ ε2 T σ) H2 v d := by
  have f : Fit2 (Mx Γ ε2 T2 σ) (Mx Γ ε2 T σ) H2 H2 := Fit2.less fun _ => mx_less s.t
  cases r with
  | d x => cases e; exact Dn.go f h
  | f xs =>
    cases e
    obtain ⟨a, vs, rfl, h0, h1, h2, h3, h4⟩ := h
    refine .lst ?_ h2 h3 (h4.go f)
    rintro (m | o | t)
    · exact not_M R (R.fresh h0) m
    · exact (R2.tmp a h1).2.2 o
    · obtain ⟨_, ⟨ws, e⟩, _⟩ := R.tmp a t
      rw [h0] at e
      cases e
  | b x => cases e
  | p => cases e
  | o P => cases e
theorem Stp.drop (s : Stp Γ ε T ε2 T2 σ H H2) : Stp Γ ε T ε2 T σ H H2 := ⟨s.k, s.hp, s.tz, fun _ h => h, fun a h => s.m a (mx_less s.t h)⟩
theorem Stp.same {H3 : Hp} (s : Stp Γ ε T ε2 T2 σ H H2) (e : Same H2 H3) : Stp Γ ε T ε2 T2 σ H H3 := ⟨fun b o n h => e _ _ (s.k b o n h), by
  obtain ⟨o, h⟩ := s.hp
  exact ⟨o, e _ _ h⟩, s.tz.ext e, s.t, s.m⟩
/-- where a result goes -/
structure Outs (N : Addr → Prop) (H : Hp) (G : RV → Prop) (Q : VK) : Prop where
  old : ∀ v c, G (.d c) → Dn N H v c → Q v H
  lst : ∀ t xs cs, G (.f cs) → H t = none → xs.length ≤ 1000 → DnA N H xs cs → Q (.ref t) (upd H t (.lst xs))
  tup : ∀ t xs cs, G (.d (.tuple cs)) → H t = none → xs.length ≤ 1000 → DnA N H xs cs → Q (.ref t) (upd H t (.tup xs))
  txt : ∀ y : Str, G (.b (.str y)) → y.length ≤ sizeLine → Q (.str y) H
theorem outs {G : RV → Prop} {Q : VK} (R : Rep Γ ε T σ H) (R2 : Rep Γ ε2 T2 σ H2) (s : Stp Γ ε T ε2 T2 σ H H2)
    (q : ∀ r, G r → ∀ v T' H', Rep Γ ε2 T' σ H' → Stp Γ ε T ε2 T' σ H H' → Den Γ ε2 T' σ H r v H' → Q v H') : Outs (Mx Γ ε2 T2 σ) H2 G Q := by
  refine ⟨fun v c g d => q _ g v T2 H2 R2 s d, fun t xs cs g ht hl d => ?_, fun t xs cs g ht hl d => ?_, fun y g hl => q _ g _ T2 H2 R2 s (.inr (.inl ⟨y, rfl, rfl, hl⟩))⟩
  · have e := same_new (o := .lst xs) ht
    have f : Fit2 (Mx Γ ε2 T2 σ) (Mx Γ ε2 (fun a => T2 a ∨ a = t) σ) H2 (upd H2 t (.lst xs)) := ⟨fun a z => by
      rcases z with z | z | z | rfl
      · exact .inl (.inl z)
      · exact .inl (.inr (.inl z))
      · exact .inl (.inr (.inr z))
      · exact .inr ht, fun b o _ h => e _ _ h⟩
    refine q _ g _ _ _ (R2.temp ht) ⟨fun b o n h => e _ _ (s.k b o n h), (R2.same e).hp, (R2.same e).tz, fun a z => .inl (s.t a z), fun a z => ?_⟩ ⟨t, xs, rfl, s.none R.hp ht, .inr rfl, upd_same, hl, d.go f⟩
    rcases z with z | z | z | rfl
    · exact s.m a (.inl z)
    · exact s.m a (.inr (.inl z))
    · exact s.m a (.inr (.inr z))
    · exact .inr (s.none R.hp ht)
  · have e := same_new (o := .tup xs) ht
    exact q _ g _ _ _ (R2.same e) (s.same e) (.tup (R2.not_x ht) (.inl upd_same) hl (d.go (Fit2.same e)))
end
/-! ### leaves -/
def rdV (ε : List AV) (i : Nat) : Option (RV × List AV) := match ε[i]? with
  | some (.d x) => some (.d x, ε)
  | some (.l xs) => some (.d (.list xs), ε.set i (.d (.list xs)))
  | some (.p _) => some (.p, ε)
  | some (.q _ _) => some (.p, ε)
  | some (.o P) => some (.o P, ε)
  | _ => none
def rdB (ε : List AV) (i : Nat) : Option RV := match ε[i]? with
  | some (.d x) => some (.d x)
  | some (.l xs) => some (.b (.list xs))
  | some (.p _) => some .p
  | some (.q _ _) => some .p
  | some (.o P) => some (.o P)
  | _ => none
def xV (i : Nat) : XE := ⟨fun ε K => ∃ q, rdV ε i = some q ∧ K q.1 q.2, fun h ⟨q, e, k⟩ => ⟨q, e, h _ _ k⟩⟩
def xB (i : Nat) : XE := ⟨fun ε K => ∃ q, rdB ε i = some q ∧ K q ε, fun h ⟨q, e, k⟩ => ⟨q, e, h _ _ k⟩⟩
def xC (c : PyData) : XE := ⟨fun ε K => K (.d c) ε, fun h k => h _ _ k⟩
section
variable {Γ : Ga} {ε : List AV} {T : Addr → Prop} {σ : L2.St} {H : Hp} {X : Cx}
theorem slot_at {i : Nat} {e : AV} (R : Rep Γ ε T σ H) (h : ε[i]? = some e) : Slot Γ (Mx Γ ε T σ) H e σ[i]? := R.sl i e h
/-- a list of one's own given up -/
theorem Rep.give {i : Nat} {xs : List PyData} (R : Rep Γ ε T σ H) (h : ε[i]? = some (.l xs)) : ∃ a, σ[i]? = some (some (.ref a)) ∧ Rep Γ (ε.set i (.d (.list xs))) T σ H ∧ Dn (Mx Γ (ε.set i (.d (.list xs))) T σ) H (.ref a) (.list xs) ∧ ∀ b, Mx Γ (ε.set i (.d (.list xs))) T σ b → Mx Γ ε T σ b := by
  obtain ⟨a, vs, e, h0, h1, h2, h3⟩ := R.sl i _ h
  have hi : i < ε.length := (List.getElem?_eq_some_iff.mp h).1
  have own : ∀ {b}, OwnS (ε.set i (.d (.list xs))) σ b → OwnS ε σ b ∧ b ≠ a := by
    rintro b ⟨j, ys, e1, e2⟩
    by_cases z : i = j
    · subst z
      rw [List.getElem?_set_self hi] at e1
      cases e1
    · rw [List.getElem?_set_ne z] at e1
      refine ⟨⟨j, ys, e1, e2⟩, ?_⟩
      rintro rfl
      exact z (R.dis i j xs ys h e1 (by rw [e, e2]))
  have mx : ∀ b, Mx Γ (ε.set i (.d (.list xs))) T σ b → Mx Γ ε T σ b := by
    rintro b (z | z | z)
    · exact .inl z
    · exact .inr (.inl (own z).1)
    · exact .inr (.inr z)
  have f : Fit2 (Mx Γ ε T σ) (Mx Γ (ε.set i (.d (.list xs))) T σ) H H := Fit2.less mx
  have na : ¬ Mx Γ (ε.set i (.d (.list xs))) T σ a := by
    rintro (z | z | z)
    · exact not_M R h0 z
    · exact (own z).2 rfl
    · exact (R.tmp a z).2.2 ⟨i, xs, h, e⟩
  have dn : Dn (Mx Γ (ε.set i (.d (.list xs))) T σ) H (.ref a) (.list xs) := .lst na h1 h2 (h3.go f)
  refine ⟨a, e, ⟨by rw [List.length_set]; exact R.ln, R.pm, R.hp, R.hp0, R.ext, R.ml, fun b hb => ?_, fun j k ys zs hj hk q => ?_, fun j e' hj => ?_, Γ.fst _ _ _ _ f R.fr, R.tz⟩, dn, mx⟩
  · obtain ⟨t1, t2, t3⟩ := R.tmp b hb
    exact ⟨t1, t2, fun z => t3 (own z).1⟩
  · have nj : i ≠ j := by
      rintro rfl
      rw [List.getElem?_set_self hi] at hj
      cases hj
    have nk : i ≠ k := by
      rintro rfl
      rw [List.getElem?_set_self hi] at hk
      cases hk
    rw [List.getElem?_set_ne nj] at hj
    rw [List.getElem?_set_ne nk] at hk
    exact R.dis j k ys zs hj hk q
  · by_cases z : i = j
    · subst z
      rw [List.getElem?_set_self hi] at hj
      cases hj
      exact ⟨_, e, dn⟩
    · rw [List.getElem?_set_ne z] at hj
      exact (R.sl j e' hj).go f (fun _ h => h) (fun _ _ _ _ _ h => h)
theorem xe_v {e : Expr} {i : Nat} (h : PE X e (tVar i)) : PE X e (up (xV i)) := pe_wk h fun σ H Q ⟨Γ, ε, T, R, ⟨r, ε'⟩, e, k⟩ => by
  unfold rdV at e
  split at e
  · rename_i x hx
    cases e
    obtain ⟨v, hv, d⟩ := slot_at R hx
    exact ⟨v, hv, k v T H R (.refl R) d⟩
  · rename_i xs hx
    cases e
    obtain ⟨a, ha, R', d, mx⟩ := R.give hx
    exact ⟨_, ha, k _ T H R' ⟨fun _ _ _ h => h, R.hp, R.tz, fun _ h => h, fun b z => .inl (mx b z)⟩ d⟩
  · rename_i n hx
    cases e
    obtain ⟨hv, d⟩ := slot_at R hx
    exact ⟨_, hv, k _ T H R (.refl R) rfl⟩
  · rename_i n z hx
    cases e
    obtain ⟨hv, d⟩ := slot_at R hx
    exact ⟨_, hv, k _ T H R (.refl R) rfl⟩
  · rename_i P hx
    cases e
    obtain ⟨v, hv, d⟩ := slot_at R hx
    exact ⟨v, hv, k v T H R (.refl R) d⟩
  · cases e
theorem xe_b {e : Expr} {i : Nat} (h : PE X e (tVar i)) : PE X e (up (xB i)) := pe_wk h fun σ H Q ⟨Γ, ε, T, R, r, e, k⟩ => by
  unfold rdB at e
  split at e
  · rename_i x hx
    cases e
    obtain ⟨v, hv, d⟩ := slot_at R hx
    exact ⟨v, hv, k v T H R (.refl R) d⟩
  · rename_i xs hx
    cases e
    obtain ⟨a, vs, hv, h0, h1, h2, h3⟩ := slot_at R hx
    refine ⟨_, hv, k _ T H R (.refl R) (.inr (.inr ⟨a, vs, xs, rfl, rfl, fun e => ?_, h1, h2, h3⟩))⟩
    obtain ⟨o, e2⟩ := R.hp0
    rw [← e, h0] at e2
    cases e2
  · rename_i n hx
    cases e
    obtain ⟨hv, d⟩ := slot_at R hx
    exact ⟨_, hv, k _ T H R (.refl R) rfl⟩
  · rename_i n z hx
    cases e
    obtain ⟨hv, d⟩ := slot_at R hx
    exact ⟨_, hv, k _ T H R (.refl R) rfl⟩
  · rename_i P hx
    cases e
    obtain ⟨v, hv, d⟩ := slot_at R hx
    exact ⟨v, hv, k v T H R (.refl R) d⟩
  · cases e
theorem xe_c {e : Expr} {v : V} {c : PyData} (h : PE X e (tC v)) (r : ∀ N H, Dn N H v c) : PE X e (up (xC c)) := pe_wk h fun σ H Q ⟨Γ, ε, T, R, k⟩ => k v T H R (.refl R) (r _ _)
end
/-! ### arguments, displays -/
def xNil : XA := ⟨fun ε K => K [] ε, fun h k => h _ _ k⟩
def xCons (a : XE) (b : XA) : XA := ⟨fun ε K => a.run ε fun r ε1 => b.run ε1 fun rs ε2 => K (r :: rs) ε2, fun h q => a.mono (fun _ _ q => b.mono (fun _ _ k => h _ _ k) q) q⟩
def kps : List RV → Option (List PyData)
  | [] => some []
  | r :: rs => match r.kp, kps rs with
    | some x, some xs => some (x :: xs)
    | _, _ => none
def sees : List RV → Option (List PyData)
  | [] => some []
  | r :: rs => match r.see, sees rs with
    | some x, some xs => some (x :: xs)
    | _, _ => none
def xTup (a : XA) : XE := ⟨fun ε K => a.run ε fun rs ε' => ∃ ds, kps rs = some ds ∧ ds.length ≤ 1000 ∧ K (.d (.tuple ds)) ε', fun h q => a.mono (fun _ _ ⟨ds, e, l, k⟩ => ⟨ds, e, l, h _ _ k⟩) q⟩
def xLst (a : XA) : XE := ⟨fun ε K => a.run ε fun rs ε' => ∃ ds, kps rs = some ds ∧ ds.length ≤ 1000 ∧ K (.f ds) ε', fun h q => a.mono (fun _ _ ⟨ds, e, l, k⟩ => ⟨ds, e, l, h _ _ k⟩) q⟩
section
variable {Γ : Ga} {ε ε2 : List AV} {T T2 : Addr → Prop} {σ : L2.St} {H H2 : Hp} {X : Cx}
theorem DenA.kept {rs : List RV} {vs : List V} {ds : List PyData} (R : Rep Γ ε T σ H) (R2 : Rep Γ ε2 T2 σ H2) (s : Stp Γ ε T ε2 T2 σ H H2) (h : DenA Γ ε2 T2 σ H rs vs H2) (e : kps rs = some ds) : DnA (Mx Γ ε2 T σ) H2 vs ds := by
  induction rs generalizing vs ds with
  | nil =>
    cases h
    cases e
    exact .nil
  | cons r rs ih =>
    cases h with
    | cons h t =>
      unfold kps at e
      split at e
      · rename_i x xs e1 e2
        cases e
        exact .cons (h.kept R R2 s e1) (ih t e2)
      · cases e
theorem DenA.see {rs : List RV} {vs : List V} {ds : List PyData} (h : DenA Γ ε T σ H rs vs H2) (e : sees rs = some ds) : SeeA (Mx Γ ε T σ) H2 vs ds := by
  induction rs generalizing vs ds with
  | nil =>
    cases h
    cases e
    exact .nil
  | cons r rs ih =>
    cases h with
    | cons h t =>
      unfold sees at e
      split at e
      · rename_i x xs e1 e2
        cases e
        exact .cons (h.see e1) (ih t e2)
      · cases e
theorem xa_nil : PA X [] (upA xNil) := pa_wk pa_nil fun σ H Q ⟨Γ, ε, T, R, k⟩ => k [] T H R (.refl R) .nil
theorem xa_cons {e : Expr} {es : List Expr} {a : XE} {b : XA} (ha : PE X e (up a)) (hb : PA X es (upA b)) (hs : starEach (e :: es) X.env = (false, eval e X.env) :: starEach es X.env := by rfl) : PA X (e :: es) (upA (xCons a b)) :=
  pa_wk (pa_cons ha hb hs) fun σ H Q ⟨Γ, ε, T, R, k⟩ => up1 R k fun r x ε1 T1 H1 g R1 s1 d1 => upA1 R1 g fun rs xs ε2 T2 H2 g2 R2 s2 d2 => g2 _ T2 H2 R2 (s1.trans R.hp s2) (.cons (d1.step R1 s2) (d2.early fun a => s1.none R.hp) fun ys a er ev k zs h1 h2 => by
    have h0 := d2.fr k zs a h1 h2
    subst er
    obtain ⟨b, ws, e, _, _, h3, _⟩ := d1
    rw [ev] at e
    cases e
    rw [h0] at h3
    cases h3)
theorem xe_tup {es : List Expr} {k : Nat} {pos : Pos} {a : XA} (ha : PA X es (upA a)) : PE X (.Tuple es k pos) (up (xTup a)) :=
  pe_wk (pe_tup ha) fun σ H Q ⟨Γ, ε, T, R, h⟩ => upA1 R h fun rs xs ε2 T2 H2 ⟨ds, e, hl, g⟩ R2 s2 d2 => by
    have d := d2.kept R R2 s2 e
    have z : xs.length ≤ 1000 := by rw [d.length]; exact hl
    exact ⟨sz1000 z, fun t ht => (outs (G := fun r => r = .d (.tuple ds)) R (R2.less s2.t) s2.drop fun r er v T' H' R' s' d' => by subst er; exact g v T' H' R' s' d').tup t xs ds rfl ht z d⟩
theorem xe_lst {es : List Expr} {k : Pos} {a : XA} (ha : PA X es (upA a)) : PE X (.List es k) (up (xLst a)) :=
  pe_wk (pe_lst ha) fun σ H Q ⟨Γ, ε, T, R, h⟩ => upA1 R h fun rs xs ε2 T2 H2 ⟨ds, e, hl, g⟩ R2 s2 d2 => by
    have d := d2.kept R R2 s2 e
    have z : xs.length ≤ 1000 := by rw [d.length]; exact hl
    exact ⟨sz1000 z, fun t ht => (outs (G := fun r => r = .f ds) R (R2.less s2.t) s2.drop fun r er v T' H' R' s' d' => by subst er; exact g v T' H' R' s' d').lst t xs ds rfl ht z d⟩
end
/-! ### operators -/
abbrev F2 := PyData → PyData → Option (Prop × RV)
def xOp (f : F2) (a b : XE) : XE := ⟨fun ε K => a.run ε fun r ε1 => b.run ε1 fun s ε2 => ∃ d e c, r.see = some d ∧ s.see = some e ∧ f d e = some c ∧ c.1 ∧ K c.2 ε2,
  fun h q => a.mono (fun _ _ q => b.mono (fun _ _ ⟨d, e, c, a1, a2, a3, a4, k⟩ => ⟨d, e, c, a1, a2, a3, a4, h _ _ k⟩) q) q⟩
def OpL (r : R2) (f : F2) : Prop := ∀ {N : Addr → Prop} {H : Hp} {x y : V} {d e : PyData} {c : Prop × RV} {Q : VK}, See N H x d → See N H y e → f d e = some c → c.1 → Outs N H (fun r => r = c.2) Q → r x y H Q
theorem x_op {X : Cx} {g : R2} {f : F2} {ta tb : XE} {E : Expr} (h : PE X E (tOp g (up ta) (up tb))) (hl : OpL g f) : PE X E (up (xOp f ta tb)) :=
  pe_wk h fun σ H Q ⟨Γ, ε, T, R, k⟩ => up2 R k fun r s x y ε2 T2 H2 ⟨d, e, c, e1, e2, e3, e4, g⟩ R2 s2 d1 d2 =>
    hl (d1.see e1) (d2.see e2) e3 e4 (outs R R2 s2 fun r er v T' H' R' s' d' => by subst er; exact g v T' H' R' s' d')
end Cs
set_option maxHeartbeats 4000000
/-! Operators, subscripts, built-ins over data. -/
namespace Cs
open PySem L2 PyProof.Rows
section
variable {N : Addr → Prop} {H : Hp} {v : V} {d : PyData}
theorem See.int {i : Int} (h : See N H v (.int i)) : v = .int i := by
  rcases h with h | ⟨y, _, e, _⟩ | ⟨_, _, _, _, e, _⟩
  · cases h; rfl
  · cases e
  · cases e
theorem See.bl {b : Bool} (h : See N H v (.bool b)) : v = .bl b := by
  rcases h with h | ⟨y, _, e, _⟩ | ⟨_, _, _, _, e, _⟩
  · cases h; rfl
  · cases e
  · cases e
theorem See.str {x : Str} (h : See N H v (.str x)) : v = .str x ∧ x.length ≤ sizeLine := by
  rcases h with h | ⟨y, e1, e, hl⟩ | ⟨_, _, _, _, e, _⟩
  · cases h with
    | str _ h => exact ⟨rfl, sz1000 h⟩
  · cases e
    exact ⟨e1, hl⟩
  · cases e
theorem See.list {ds : List PyData} (h : See N H v (.list ds)) : ∃ a vs, v = .ref a ∧ H a = some (.lst vs) ∧ vs.length ≤ 1000 ∧ DnA N H vs ds := by
  rcases h with h | ⟨y, _, e, _⟩ | ⟨a, vs, xs, e, e2, h1, h2, h3⟩
  · cases h with
    | @lst a xs _ n h z r => exact ⟨a, xs, rfl, h, z, r⟩
  · cases e
  · cases e2
    exact ⟨a, vs, e, h1, h2, h3⟩
theorem See.tup {ds : List PyData} (h : See N H v (.tuple ds)) : ∃ a vs, v = .ref a ∧ Rd H a (.tup vs) ∧ vs.length ≤ 1000 ∧ DnA N H vs ds ∧ Dn N H v (.tuple ds) := by
  rcases h with h | ⟨y, _, e, _⟩ | ⟨_, _, _, _, e, _⟩
  · have h' := h
    cases h with
    | @tup a xs _ n h z r => exact ⟨a, xs, rfl, h, z, r, h'⟩
  · cases e
  · cases e
theorem See.dp {K : PySem.W.Frag} (h : See N H v d) (e : d.canLay0 = true) : Dp K H v d := by
  rcases h with h | ⟨y, rfl, rfl, _⟩ | ⟨a, vs, xs, rfl, rfl, h1, h2, h3⟩
  · exact h.dp e
  · exact .str y
  · exact .lst (SqL.of h1) (h3.dp e)
end
/-! two places -/
def fAdd : F2
  | .int i, .int j => some (True, .d (.int (i + j)))
  | .str a, .str b => some (a.length + b.length ≤ 1000, .d (.str (a ++ b)))
  | .list xs, .list ys => some (xs.length + ys.length ≤ 1000, .f (xs ++ ys))
  | .tuple xs, .tuple ys => some (xs.length + ys.length ≤ 1000, .d (.tuple (xs ++ ys)))
  | _, _ => none
def gAdd (K : PySem.W.Frag) : R2 := fun x y H Q => rI0 (fun i j => .int (i + j)) x y H Q ∨ (∃ i j, x = .str i ∧ y = .str j ∧ i.length + j.length ≤ sizeLine ∧ Q (.str (i ++ j)) H) ∨ rCat x y H Q ∨ rCatA K x y H Q
def opAddD {X : Cx} : OpR X (binaryOp .Add) (gAdd X.K) := (op_add (X := X)).or ((op_add_str (X := X)).or ((op_cat (X := X)).or (op_catA (X := X))))
theorem ol_add {K : PySem.W.Frag} : OpL (gAdd K) fAdd := by
  intro N H x y d e c Q hx hy e1 e2 o
  unfold fAdd at e1
  split at e1
  · cases e1
    exact .inl ⟨_, _, hx.int, hy.int, o.old _ _ rfl (.int _)⟩
  · rename_i a b
    cases e1
    exact .inr (.inl ⟨_, _, hx.str.1, hy.str.1, sz1000 e2, o.old _ _ rfl (.str _ (by rw [Str.length_append]; exact e2))⟩)
  · cases e1
    obtain ⟨a, vs, rfl, h1, h2, h3⟩ := hx.list
    obtain ⟨b, ws, rfl, k1, k2, k3⟩ := hy.list
    have l1 := h3.length
    have l2 := k3.length
    have e2' : _ + _ ≤ 1000 := e2
    exact .inr (.inr (.inl ⟨a, b, vs, ws, rfl, rfl, h1, k1, sz1000 (by omega), fun p hp => o.lst p _ _ rfl hp (by rw [List.length_append]; omega) (h3.append k3)⟩))
  · rename_i xs ys
    cases e1
    obtain ⟨a, vs, rfl, h1, h2, h3, h4⟩ := hx.tup
    obtain ⟨b, ws, rfl, k1, k2, k3, k4⟩ := hy.tup
    have l1 := h3.length
    have l2 := k3.length
    have e2' : xs.length + ys.length ≤ 1000 := e2
    refine .inr (.inr (.inr ⟨a, b, vs, ws, rfl, rfl, SqT.rd h1, SqT.rd k1, sz1000 (by omega), fun z => ?_, fun _ z => ?_, fun _ _ p hp => o.tup p _ _ rfl hp (by rw [List.length_append]; omega) (h3.append k3)⟩))
    · subst z
      cases h3
      exact o.old _ _ rfl k4
    · subst z
      cases k3
      rw [List.append_nil] at o
      exact o.old _ _ rfl h4
  · cases e1
def fSub : F2
  | .int i, .int j => some (True, .d (.int (i - j)))
  | _, _ => none
theorem ol_sub : OpL (rI0 fun i j => .int (i - j)) fSub := by
  intro N H x y d e c Q hx hy e1 e2 o
  unfold fSub at e1
  split at e1
  · cases e1
    exact ⟨_, _, hx.int, hy.int, o.old _ _ rfl (.int _)⟩
  · cases e1
def fMul : F2
  | .int i, .int j => some (CMul i j, .d (.int (i * j)))
  | .list xs, .int k => some (0 ≤ k ∧ k ≤ 1000 ∧ xs.length * k.toNat ≤ 1000, .f (List.replicate k.toNat xs).flatten)
  | _, _ => none
theorem flat_len {α : Type} (xs : List α) : ∀ n : Nat, (List.replicate n xs).flatten.length = xs.length * n
  | 0 => rfl
  | n + 1 => by rw [List.replicate_succ, List.flatten_cons, List.length_append, flat_len xs n, Nat.mul_succ, Nat.add_comm]
theorem ol_mul : OpL (fun x y H Q => rI CMul (fun i j => .int (i * j)) x y H Q ∨ rRep x y H Q) fMul := by
  intro N H x y d e c Q hx hy e1 e2 o
  unfold fMul at e1
  split at e1
  · cases e1
    exact .inl ⟨_, _, hx.int, hy.int, e2, o.old _ _ rfl (.int _)⟩
  · cases e1
    obtain ⟨a, vs, rfl, h1, h2, h3⟩ := hx.list
    obtain ⟨e3, e4, e5⟩ := e2
    have l1 := h3.length
    exact .inr ⟨a, _, vs, rfl, hy.int, h1, by omega, by omega, sz1000 (by rw [l1]; exact e5), fun p hp => o.lst p _ _ rfl hp (by rw [flat_len, l1]; exact e5) (h3.rep _)⟩
  · cases e1
def fDiv : F2
  | .int i, .int j => some (CDiv i j, .d (.int (i / j)))
  | _, _ => none
theorem ol_div : OpL (rI CDiv fun i j => .int (i / j)) fDiv := by
  intro N H x y d e c Q hx hy e1 e2 o
  unfold fDiv at e1
  split at e1
  · cases e1
    exact ⟨_, _, hx.int, hy.int, e2, o.old _ _ rfl (.int _)⟩
  · cases e1
def fMod : F2
  | .int i, .int j => some (0 < j, .d (.int (i % j)))
  | _, _ => none
theorem ol_mod : OpL (rI (fun _ j => 0 < j) fun i j => .int (i % j)) fMod := by
  intro N H x y d e c Q hx hy e1 e2 o
  unfold fMod at e1
  split at e1
  · cases e1
    exact ⟨_, _, hx.int, hy.int, e2, o.old _ _ rfl (.int _)⟩
  · cases e1
def fPow : F2
  | .int i, .int j => some (CPow i j, .d (.int (i ^ j.toNat)))
  | _, _ => none
theorem ol_pow : OpL (rI CPow fun i j => .int (i ^ j.toNat)) fPow := by
  intro N H x y d e c Q hx hy e1 e2 o
  unfold fPow at e1
  split at e1
  · cases e1
    exact ⟨_, _, hx.int, hy.int, e2, o.old _ _ rfl (.int _)⟩
  · cases e1
def fLt : F2
  | .int i, .int j => some (True, .d (.bool (decide (i < j))))
  | .str i, .str j => some (True, .d (.bool (decide (i.cps.toList < j.cps.toList))))
  | _, _ => none
theorem ol_lt : OpL (fun x y H Q => rI0 (fun i j => .bl (decide (i < j))) x y H Q ∨ ∃ i j, x = .str i ∧ y = .str j ∧ Q (.bl (decide (i.cps.toList < j.cps.toList))) H) fLt := by
  intro N H x y d e c Q hx hy e1 e2 o
  unfold fLt at e1
  split at e1
  · cases e1
    exact .inl ⟨_, _, hx.int, hy.int, o.old _ _ rfl (.bl _)⟩
  · cases e1
    exact .inr ⟨_, _, hx.str.1, hy.str.1, o.old _ _ rfl (.bl _)⟩
  · cases e1
def fLe : F2
  | .int i, .int j => some (True, .d (.bool (decide (i ≤ j))))
  | .str i, .str j => some (True, .d (.bool (!decide (j.cps.toList < i.cps.toList))))
  | _, _ => none
theorem ol_le : OpL (fun x y H Q => rI0 (fun i j => .bl (decide (i ≤ j))) x y H Q ∨ ∃ i j, x = .str i ∧ y = .str j ∧ Q (.bl (!decide (j.cps.toList < i.cps.toList))) H) fLe := by
  intro N H x y d e c Q hx hy e1 e2 o
  unfold fLe at e1
  split at e1
  · cases e1
    exact .inl ⟨_, _, hx.int, hy.int, o.old _ _ rfl (.bl _)⟩
  · cases e1
    exact .inr ⟨_, _, hx.str.1, hy.str.1, o.old _ _ rfl (.bl _)⟩
  · cases e1
def fGt : F2
  | .int i, .int j => some (True, .d (.bool (decide (j < i))))
  | _, _ => none
theorem ol_gt : OpL (rI0 fun i j => .bl (decide (j < i))) fGt := by
  intro N H x y d e c Q hx hy e1 e2 o
  unfold fGt at e1
  split at e1
  · cases e1
    exact ⟨_, _, hx.int, hy.int, o.old _ _ rfl (.bl _)⟩
  · cases e1
def fGe : F2
  | .int i, .int j => some (True, .d (.bool (decide (j ≤ i))))
  | _, _ => none
theorem ol_ge : OpL (rI0 fun i j => .bl (decide (j ≤ i))) fGe := by
  intro N H x y d e c Q hx hy e1 e2 o
  unfold fGe at e1
  split at e1
  · cases e1
    exact ⟨_, _, hx.int, hy.int, o.old _ _ rfl (.bl _)⟩
  · cases e1
theorem scal_int {i j : Int} : decide (V.int i = V.int j) = decide (i = j) := decide_eq_decide.mpr ⟨fun h => by injection h, fun h => by rw [h]⟩
theorem scal_str {i j : Str} : decide (V.str i = V.str j) = decide (i = j) := decide_eq_decide.mpr ⟨fun h => by injection h, fun h => by rw [h]⟩
def fEq : F2
  | .int i, .int j => some (True, .d (.bool (decide (i = j))))
  | .str i, .str j => some (True, .d (.bool (decide (i = j))))
  | d, e => some (SeqAt.shaped d = true ∧ SeqAt.shaped e = true, .d (.bool (PyData.eqv d e)))
theorem ol_eq {K : PySem.W.Frag} : OpL (fun x y H Q => rEq x y H Q ∨ rEqD K x y H Q) fEq := by
  intro N H x y d e c Q hx hy e1 e2 o
  unfold fEq at e1
  split at e1
  · cases e1
    have := o.old _ _ rfl (.bl _)
    rw [← scal_int] at this
    rw [hx.int, hy.int]
    exact .inl ⟨rfl, this⟩
  · cases e1
    have := o.old _ _ rfl (.bl _)
    rw [← scal_str] at this
    rw [hx.str.1, hy.str.1]
    exact .inl ⟨rfl, this⟩
  · cases e1
    obtain ⟨s1, s2⟩ := e2
    exact .inr ⟨_, _, hx.dp (Bool.and_eq_true_iff.mp s1).1, hy.dp (Bool.and_eq_true_iff.mp s2).1, s1, s2, o.old _ _ rfl (.bl _)⟩
def fNe : F2
  | .int i, .int j => some (True, .d (.bool (!decide (i = j))))
  | .str i, .str j => some (True, .d (.bool (!decide (i = j))))
  | d, e => some (SeqAt.shaped d = true ∧ SeqAt.shaped e = true, .d (.bool (!PyData.eqv d e)))
theorem ol_ne {K : PySem.W.Frag} : OpL (fun x y H Q => rNe x y H Q ∨ rNeD K x y H Q) fNe := by
  intro N H x y d e c Q hx hy e1 e2 o
  unfold fNe at e1
  split at e1
  · cases e1
    have := o.old _ _ rfl (.bl _)
    rw [← scal_int] at this
    rw [hx.int, hy.int]
    exact .inl ⟨rfl, this⟩
  · cases e1
    have := o.old _ _ rfl (.bl _)
    rw [← scal_str] at this
    rw [hx.str.1, hy.str.1]
    exact .inl ⟨rfl, this⟩
  · cases e1
    obtain ⟨s1, s2⟩ := e2
    exact .inr ⟨_, _, hx.dp (Bool.and_eq_true_iff.mp s1).1, hy.dp (Bool.and_eq_true_iff.mp s2).1, s1, s2, o.old _ _ rfl (.bl _)⟩
def flatD : PyData → Bool
  | .none | .bool _ | .int _ | .str _ => true
  | _ => false
theorem dn_flat {N : Addr → Prop} {H : Hp} {v : V} {d : PyData} (h : Dn N H v d) (f : flatD d = true) : flatV v = true := by
  cases h <;> first | rfl | cases f
theorem dn_flats {N : Addr → Prop} {H : Hp} : ∀ {vs : List V} {ds : List PyData}, DnA N H vs ds → ds.all flatD = true → vs.all flatV = true
  | _, _, .nil, _ => rfl
  | _, _, .cons h t, f => by
    rw [List.all_cons, Bool.and_eq_true] at f
    rw [List.all_cons, dn_flat h f.1, dn_flats t f.2]
    rfl
theorem dn_eqv {N : Addr → Prop} {H : Hp} {v w : V} {d e : PyData} (h : Dn N H v d) (k : Dn N H w e) (f : flatD d = true) (g : flatD e = true) : eqV v w = d.eqv e := by
  cases h <;> first | (cases k <;> first | rfl | cases g) | cases f
theorem dn_in {N : Addr → Prop} {H : Hp} {w : V} {e : PyData} (k : Dn N H w e) (g : flatD e = true) : ∀ {vs : List V} {ds : List PyData}, DnA N H vs ds → ds.all flatD = true → inV w vs = ds.any fun y => y.eqv e
  | _, _, .nil, _ => rfl
  | _, _, .cons h t, f => by
    rw [List.all_cons, Bool.and_eq_true] at f
    unfold inV
    rw [List.any_cons, List.any_cons, dn_eqv h k f.1 g]
    have := dn_in k g t f.2
    unfold inV at this
    rw [this]
theorem See.flat {N : Addr → Prop} {H : Hp} {v : V} {d : PyData} (h : See N H v d) (f : flatD d = true) (hs : ∀ y, d = .str y → y.length ≤ 1000) : Dn N H v d := by
  rcases h with h | ⟨y, rfl, rfl, _⟩ | ⟨_, _, _, _, rfl, _⟩
  · exact h
  · exact .str y (hs y rfl)
  · cases f
def fIn (neg : Bool) : F2
  | d, .list ds => some (flatD d = true ∧ (∀ y, d = .str y → y.length ≤ 1000) ∧ ds.all flatD = true, .d (.bool (if neg then !(ds.any fun y => y.eqv d) else ds.any fun y => y.eqv d)))
  | d, .tuple ds => some (flatD d = true ∧ (∀ y, d = .str y → y.length ≤ 1000) ∧ ds.all flatD = true, .d (.bool (if neg then !(ds.any fun y => y.eqv d) else ds.any fun y => y.eqv d)))
  | _, _ => none
theorem ol_in {K : PySem.W.Frag} {neg : Bool} : OpL (rIn K neg) (fIn neg) := by
  intro N H x y d e c Q hx hy e1 e2 o
  unfold fIn at e1
  split at e1
  · cases e1
    obtain ⟨f1, f2, f3⟩ := e2
    obtain ⟨a, vs, rfl, h1, h2, h3⟩ := hy.list
    have k := hx.flat f1 f2
    have := o.old _ _ rfl (.bl _)
    rw [← dn_in k f1 h3 f3] at this
    exact ⟨a, vs, rfl, .inl (SqL.of h1), dn_flat k f1, dn_flats h3 f3, this⟩
  · cases e1
    obtain ⟨f1, f2, f3⟩ := e2
    obtain ⟨a, vs, rfl, h1, h2, h3, _⟩ := hy.tup
    have k := hx.flat f1 f2
    have := o.old _ _ rfl (.bl _)
    rw [← dn_in k f1 h3 f3] at this
    exact ⟨a, vs, rfl, .inr (SqT.rd h1), dn_flat k f1, dn_flats h3 f3, this⟩
  · cases e1
theorem DnA.atI {N : Addr → Prop} {H : Hp} {vs : List V} {ds : List PyData} {i : Int} {c : PyData} (h : DnA N H vs ds) (e : L2.atI ds i = some c) : ∃ v, L2.atI vs i = some v ∧ Dn N H v c := by
  unfold L2.atI at e ⊢
  rw [h.length]
  cases q : ixN ds.length i with
  | none => rw [q] at e; cases e
  | some j =>
    rw [q] at e
    exact h.at_ e
def fIx : F2
  | .list ds, .int i => (L2.atI ds i).map fun c => (True, .d c)
  | .tuple ds, .int i => (L2.atI ds i).map fun c => (True, .d c)
  | .str z, .int i => (L2.atI z.cps.toList i).map fun c => (True, .d (.str ⟨#[c]⟩))
  | _, _ => none
theorem ol_ix {K : PySem.W.Frag} : OpL (rIx K) fIx := by
  intro N H x y d e c Q hx hy e1 e2 o
  unfold fIx at e1
  split at e1
  · obtain ⟨c', e3, rfl⟩ := Option.map_eq_some_iff.mp e1
    obtain ⟨a, vs, rfl, h1, h2, h3⟩ := hx.list
    obtain ⟨v, hv, dv⟩ := h3.atI e3
    exact .inl ⟨a, vs, _, v, rfl, hy.int, SqL.of h1, hv, o.old _ _ rfl dv⟩
  · obtain ⟨c', e3, rfl⟩ := Option.map_eq_some_iff.mp e1
    obtain ⟨a, vs, rfl, h1, h2, h3, _⟩ := hx.tup
    obtain ⟨v, hv, dv⟩ := h3.atI e3
    exact .inr (.inl ⟨a, vs, _, v, rfl, hy.int, SqT.rd h1, hv, o.old _ _ rfl dv⟩)
  · obtain ⟨c', e3, rfl⟩ := Option.map_eq_some_iff.mp e1
    exact .inr (.inr ⟨_, _, c', hx.str.1, hy.int, hx.str.2, e3, o.old _ _ rfl (.str _ (show 1 ≤ 1000 by decide))⟩)
  · cases e1
/-! one place -/
abbrev F1 := PyData → Option (Prop × RV)
def xUn (f : F1) (a : XE) : XE := ⟨fun ε K => a.run ε fun r ε1 => ∃ d c, r.see = some d ∧ f d = some c ∧ c.1 ∧ K c.2 ε1, fun h q => a.mono (fun _ _ ⟨d, c, a1, a2, a3, k⟩ => ⟨d, c, a1, a2, a3, h _ _ k⟩) q⟩
def fNeg : F1
  | .int i => some (True, .d (.int (-i)))
  | _ => none
theorem xe_neg {X : Cx} {a : Expr} {pos : Pos} {ta : XE} (h : PE X a (up ta)) : PE X (.UnaryOp .USub a pos) (up (xUn fNeg ta)) :=
  pe_wk (pe_un un_neg h) fun σ H Q ⟨Γ, ε, T, R, k⟩ => up1 R k fun r x ε1 T1 H1 ⟨d, c, e1, e2, e3, g⟩ R1 s1 d1 => by
    unfold fNeg at e2
    split at e2
    · cases e2
      exact ⟨_, (d1.see e1).int, g _ T1 H1 R1 s1 (.int _)⟩
    · cases e2
/-! tests -/
def xTest (a : XE) : XT := ⟨fun ε K => a.run ε fun r ε1 => ∃ b, r.see = some (.bool b) ∧ K b ε1, fun h q => a.mono (fun _ _ ⟨b, e, k⟩ => ⟨b, e, h _ _ k⟩) q⟩
theorem xt_of {X : Cx} {e : Expr} {a : XE} (h : PT X e (tTest (up a))) : PT X e (upT (xTest a)) := ⟨fun pins s σ H Q I ⟨Γ, ε, T, R, k⟩ => h.run pins s σ H Q I (up1 R k fun r x ε1 T1 H1 ⟨b, e, g⟩ R1 s1 d1 => ⟨b, (d1.see e).bl, g T1 H1 R1 s1⟩)⟩
theorem tTest_wk {X : Cx} {e : Expr} {t t' : TE} (h : PT X e (tTest t)) (w : ∀ σ H Q, t' σ H Q → t σ H Q) : PT X e (tTest t') := ⟨fun pins s σ H Q I q => h.run pins s σ H Q I (w σ H _ q)⟩
theorem xt_op {X : Cx} {g : R2} {f : F2} {ta tb : XE} {E : Expr} (h : PT X E (tTest (tOp g (up ta) (up tb)))) (hl : OpL g f) : PT X E (upT (xTest (xOp f ta tb))) :=
  xt_of (tTest_wk h fun σ H Q ⟨Γ, ε, T, R, k⟩ => up2 R k fun r s x y ε2 T2 H2 ⟨d, e, c, e1, e2, e3, e4, g⟩ R2 s2 d1 d2 =>
    hl (d1.see e1) (d2.see e2) e3 e4 (outs R R2 s2 fun r er v T' H' R' s' d' => by subst er; exact g v T' H' R' s' d'))
theorem xt_val {X : Cx} {e : Expr} {t : XE} (h : PE X e (up t)) (he : ∀ whole, isTrue e X.env whole = (do let v ← whole; standAt e.pos; holding [v] (truthy v)) := by intro _; rfl) : PT X e (upT (xTest t)) := xt_of (pt_val h he)
def xNot (a : XT) : XT := ⟨fun ε K => a.run ε fun b ε1 => K (!b) ε1, fun h q => a.mono (fun _ _ k => h _ _ k) q⟩
theorem xt_not {X : Cx} {a : Expr} {pos : Pos} {t : XT} (h : PT X a (upT t)) : PT X (.UnaryOp .Not a pos) (upT (xNot t)) := ⟨fun pins s σ H Q I ⟨Γ, ε, T, R, k⟩ => (pt_not h).run pins s σ H Q I (upT1 R k fun b ε1 T1 H1 g R1 s1 => g T1 H1 R1 s1)⟩
def xAndT (a b : XT) : XT := ⟨fun ε K => a.run ε fun c ε1 => if c = true then b.run ε1 K else K false ε1, fun h q => a.mono (fun c _ k => by
  split at k
  · rw [if_pos (by assumption)]
    exact b.mono h k
  · rw [if_neg (by assumption)]
    exact h _ _ k) q⟩
def xOrT (a b : XT) : XT := ⟨fun ε K => a.run ε fun c ε1 => if c = true then K true ε1 else b.run ε1 K, fun h q => a.mono (fun c _ k => by
  split at k
  · rw [if_pos (by assumption)]
    exact h _ _ k
  · rw [if_neg (by assumption)]
    exact b.mono h k) q⟩
def PWX (X : Cx) (e : Expr) (t : XT) : Prop := PW X e (upT t)
section
variable {X : Cx} {a b : Expr} {rest : List Expr} {pos : Pos} {ta tb : XT}
theorem up_cont {Γ : Ga} {ε ε1 : List AV} {T T1 : Addr → Prop} {σ : L2.St} {H H1 : Hp} {t : XT} {Q : Bool → Hp → Prop} (R : Rep Γ ε T σ H) (R1 : Rep Γ ε1 T1 σ H1) (s1 : Stp Γ ε T ε1 T1 σ H H1)
    (k : t.run ε1 fun b ε' => ∀ T' H', Rep Γ ε' T' σ H' → Stp Γ ε T ε' T' σ H H' → Q b H') : upT t σ H1 Q :=
  upT1 R1 k fun b ε2 T2 H2 g R2 s2 => g T2 H2 R2 (s1.trans R.hp s2)
theorem xw_and1 (h : PT X a (upT ta)) : PW X (.BoolOp .And [a] pos) (upT ta) := pw_and1 h
theorem xw_or1 (h : PT X a (upT ta)) : PW X (.BoolOp .Or [a] pos) (upT ta) := pw_or1 h
theorem xw_and (h : PT X a (upT ta)) (k : PW X (.BoolOp .And (b :: rest) pos) (upT tb)) : PW X (.BoolOp .And (a :: b :: rest) pos) (upT (xAndT ta tb)) := ⟨fun whole pins s σ H Q I ⟨Γ, ε, T, R, q⟩ => (pw_and h k).run whole pins s σ H Q I (upT1 R q fun c ε1 T1 H1 g R1 s1 => by
  split at g
  · rw [if_pos (by assumption)]
    exact up_cont R R1 s1 g
  · rw [if_neg (by assumption)]
    exact g T1 H1 R1 s1)⟩
theorem xw_or (h : PT X a (upT ta)) (k : PW X (.BoolOp .Or (b :: rest) pos) (upT tb)) : PW X (.BoolOp .Or (a :: b :: rest) pos) (upT (xOrT ta tb)) := ⟨fun whole pins s σ H Q I ⟨Γ, ε, T, R, q⟩ => (pw_or h k).run whole pins s σ H Q I (upT1 R q fun c ε1 T1 H1 g R1 s1 => by
  split at g
  · rw [if_pos (by assumption)]
    exact g T1 H1 R1 s1
  · rw [if_neg (by assumption)]
    exact up_cont R R1 s1 g)⟩
end
/-! and, or, not as values of bools; a if t else b -/
def xAndV (a b : XE) : XE := ⟨fun ε K => a.run ε fun r ε1 => ∃ c, r.see = some (.bool c) ∧ if c = true then b.run ε1 K else K (.d (.bool false)) ε1, fun h q => a.mono (fun r _ ⟨c, e, k⟩ => ⟨c, e, by
  split at k
  · rw [if_pos (by assumption)]
    exact b.mono h k
  · rw [if_neg (by assumption)]
    exact h _ _ k⟩) q⟩
def xOrV (a b : XE) : XE := ⟨fun ε K => a.run ε fun r ε1 => ∃ c, r.see = some (.bool c) ∧ if c = true then K (.d (.bool true)) ε1 else b.run ε1 K, fun h q => a.mono (fun r _ ⟨c, e, k⟩ => ⟨c, e, by
  split at k
  · rw [if_pos (by assumption)]
    exact h _ _ k
  · rw [if_neg (by assumption)]
    exact b.mono h k⟩) q⟩
def xNotV (a : XE) : XE := ⟨fun ε K => a.run ε fun r ε1 => ∃ c, r.see = some (.bool c) ∧ K (.d (.bool !c)) ε1, fun h q => a.mono (fun r _ ⟨c, e, k⟩ => ⟨c, e, h _ _ k⟩) q⟩
def xIf (t : XT) (a b : XE) : XE := ⟨fun ε K => t.run ε fun c ε1 => if c = true then a.run ε1 K else b.run ε1 K, fun h q => t.mono (fun c _ k => by
  split at k
  · rw [if_pos (by assumption)]
    exact a.mono h k
  · rw [if_neg (by assumption)]
    exact b.mono h k) q⟩
section
variable {X : Cx} {a b : Expr} {rest : List Expr} {pos : Pos} {ta tb : XE}
theorem up_contE {Γ : Ga} {ε ε1 : List AV} {T T1 : Addr → Prop} {σ : L2.St} {H H1 : Hp} {t : XE} {Q : VK} (R : Rep Γ ε T σ H) (R1 : Rep Γ ε1 T1 σ H1) (s1 : Stp Γ ε T ε1 T1 σ H H1)
    (k : t.run ε1 fun r ε' => ∀ v T' H', Rep Γ ε' T' σ H' → Stp Γ ε T ε' T' σ H H' → Den Γ ε' T' σ H r v H' → Q v H') : up t σ H1 Q :=
  up1 R1 k fun r v ε2 T2 H2 g R2 s2 d2 => g v T2 H2 R2 (s1.trans R.hp s2) (d2.early fun a => s1.none R.hp)
theorem xe_one {op : BoolOp} (h : PE X a (up ta)) : PE X (.BoolOp op [a] pos) (up ta) := pe_one h
theorem xe_and (h : PE X a (up ta)) (k : PE X (.BoolOp .And (b :: rest) pos) (up tb)) : PE X (.BoolOp .And (a :: b :: rest) pos) (up (xAndV ta tb)) :=
  pe_wk (pe_and h k) fun σ H Q ⟨Γ, ε, T, R, q⟩ => up1 R q fun r x ε1 T1 H1 ⟨c, e, g⟩ R1 s1 d1 => ⟨c, (d1.see e).bl, by
    split at g
    · rw [if_pos (by assumption)]
      exact up_contE R R1 s1 g
    · rw [if_neg (by assumption)]
      exact g _ T1 H1 R1 s1 (.bl _)⟩
theorem xe_or (h : PE X a (up ta)) (k : PE X (.BoolOp .Or (b :: rest) pos) (up tb)) : PE X (.BoolOp .Or (a :: b :: rest) pos) (up (xOrV ta tb)) :=
  pe_wk (pe_or h k) fun σ H Q ⟨Γ, ε, T, R, q⟩ => up1 R q fun r x ε1 T1 H1 ⟨c, e, g⟩ R1 s1 d1 => ⟨c, (d1.see e).bl, by
    split at g
    · rw [if_pos (by assumption)]
      exact g _ T1 H1 R1 s1 (.bl _)
    · rw [if_neg (by assumption)]
      exact up_contE R R1 s1 g⟩
theorem xe_not (h : PE X a (up ta)) : PE X (.UnaryOp .Not a pos) (up (xNotV ta)) :=
  pe_wk (pe_not h) fun σ H Q ⟨Γ, ε, T, R, q⟩ => up1 R q fun r x ε1 T1 H1 ⟨c, e, g⟩ R1 s1 d1 => ⟨c, (d1.see e).bl, g _ T1 H1 R1 s1 (.bl _)⟩
theorem xe_ifExp {c : Expr} {t : XT} (hc : PT X c (upT t)) (h : PE X a (up ta)) (k : PE X b (up tb)) : PE X (.IfExp c a b pos) (up (xIf t ta tb)) :=
  pe_wk (pe_ifExp hc h k) fun σ H Q ⟨Γ, ε, T, R, q⟩ => upT1 R q fun c ε1 T1 H1 g R1 s1 => by
    split at g
    · rw [if_pos (by assumption)]
      exact up_contE R R1 s1 g
    · rw [if_neg (by assumption)]
      exact up_contE R R1 s1 g
end
/-! slices -/
def xNoPart : XO := ⟨fun ε K => K none ε, fun h k => h _ _ k⟩
def xPart (a : XE) : XO := ⟨fun ε K => a.run ε fun r ε1 => ∃ i, r.see = some (.int i) ∧ K (some i) ε1, fun h q => a.mono (fun _ _ ⟨i, e, k⟩ => ⟨i, e, h _ _ k⟩) q⟩
theorem xo_none {X : Cx} : PO X none (upO xNoPart) := ⟨fun pins s σ H Q I ⟨Γ, ε, T, R, k⟩ => po_none.run pins s σ H Q I (k T H R (.refl R))⟩
theorem xo_some {X : Cx} {e : Expr} {a : XE} (h : PE X e (up a)) : PO X (some e) (upO (xPart a)) := ⟨fun pins s σ H Q I ⟨Γ, ε, T, R, k⟩ => (po_some h).run pins s σ H Q I (up1 R k fun r x ε1 T1 H1 ⟨i, e, g⟩ R1 s1 d1 => ⟨i, (d1.see e).int, g T1 H1 R1 s1⟩)⟩
def fSl : PyData → Option Int → Option Int → Option RV
  | .list ds, lo, hi => some (.f (cutD ds lo hi))
  | .tuple ds, lo, hi => some (.d (.tuple (cutD ds lo hi)))
  | _, _, _ => none
def xSl (a : XE) (l h : XO) : XE := ⟨fun ε K => a.run ε fun r ε1 => l.run ε1 fun lo ε2 => h.run ε2 fun hi ε3 => ∃ d c, r.see = some d ∧ fSl d lo hi = some c ∧ K c ε3,
  fun w q => a.mono (fun _ _ q => l.mono (fun _ _ q => h.mono (fun _ _ ⟨d, c, a1, a2, k⟩ => ⟨d, c, a1, a2, w _ _ k⟩) q) q) q⟩
def gSl (K : PySem.W.Frag) : V → Option Int → Option Int → Hp → VK → Prop := fun x lo hi H Q => rSlL K x lo hi H Q ∨ rSlA K x lo hi H Q
def slTwo {X : Cx} : SlR X (gSl X.K) := (sl_list (X := X)).or (sl_tupA (X := X))
theorem cutD_len2 {ds : List PyData} {lo hi : Option Int} : (cutD ds lo hi).length ≤ ds.length := by
  unfold cutD
  rw [List.length_take, List.length_drop]
  omega
theorem xe_slice {X : Cx} {K : PySem.W.Frag} {e : Expr} {lo hi : Option Expr} {p2 pos : Pos} {a : XE} {l h : XO} (hr : SlR X (gSl K)) (he : PE X e (up a)) (hl : PO X lo (upO l)) (hu : PO X hi (upO h)) : PE X (.Subscript e (.Slice lo hi none p2) pos) (up (xSl a l h)) :=
  pe_wk (pe_slice hr he hl hu) fun σ H Q ⟨Γ, ε, T, R, k⟩ => up1 R k fun r x ε1 T1 H1 g R1 s1 d1 => upO1 R1 g fun lo ε2 T2 H2 g R2 s2 => upO1 R2 g fun hi ε3 T3 H3 ⟨d, c, e1, e2, g⟩ R3 s3 => by
    have sA := (s1.trans R.hp s2).trans R.hp s3
    have sd := ((d1.step R1 s2).step R2 s3).see e1
    have o := outs (G := fun r => r = c) (Q := Q) R R3 sA fun r er v T' H' R' s' d' => by subst er; exact g v T' H' R' s' d'
    unfold fSl at e2
    split at e2
    · cases e2
      obtain ⟨b, vs, rfl, h1, h2, h3⟩ := sd.list
      exact .inl ⟨b, vs, rfl, SqL.of h1, fun p hp => o.lst p _ _ rfl hp (by rw [(h3.cut lo hi).length]; exact Nat.le_trans cutD_len2 (by rw [← h3.length]; exact h2)) (h3.cut lo hi)⟩
    · rename_i ds
      cases e2
      obtain ⟨b, vs, rfl, h1, h2, h3, h4⟩ := sd.tup
      refine .inr ⟨b, vs, rfl, SqT.rd h1, fun z => ?_, fun _ p hp => o.tup p _ _ rfl hp (by rw [(h3.cut lo hi).length]; exact Nat.le_trans cutD_len2 (by rw [← h3.length]; exact h2)) (h3.cut lo hi)⟩
      have e3 : cutD ds lo hi = ds := by
        unfold cutD
        rw [← h3.length, z.1, z.2, List.drop_zero, Nat.sub_zero, List.take_of_length_le (by rw [h3.length]; exact Nat.le_refl _)]
      rw [e3] at o
      exact o.old _ _ rfl h4
    · cases e2
/-! calls of built-ins -/
abbrev FN := List PyData → Option (Prop × RV)
def xBi (f : FN) (a : XA) : XE := ⟨fun ε K => a.run ε fun rs ε1 => ∃ ds c, sees rs = some ds ∧ f ds = some c ∧ c.1 ∧ K c.2 ε1, fun h q => a.mono (fun _ _ ⟨d, c, a1, a2, a3, k⟩ => ⟨d, c, a1, a2, a3, h _ _ k⟩) q⟩
def BiL (r : List V → Hp → VK → Prop) (f : FN) : Prop := ∀ {N : Addr → Prop} {H : Hp} {vs : List V} {ds : List PyData} {c : Prop × RV} {Q : VK}, SeeA N H vs ds → f ds = some c → c.1 → Outs N H (fun r => r = c.2) Q → r vs H Q
theorem x_bi {X : Cx} {E : Expr} {r : List V → Hp → VK → Prop} {f : FN} {a : XA} (h : PE X E (tCB r (upA a))) (hl : BiL r f) : PE X E (up (xBi f a)) :=
  pe_wk h fun σ H Q ⟨Γ, ε, T, R, k⟩ => upA1 R k fun rs xs ε1 T1 H1 ⟨ds, c, e1, e2, e3, g⟩ R1 s1 d1 => hl (d1.see e1) e2 e3 (outs R R1 s1 fun r er v T' H' R' s' d' => by subst er; exact g v T' H' R' s' d')
section
variable {N : Addr → Prop} {H : Hp}
theorem see1 {vs : List V} {d : PyData} (h : SeeA N H vs [d]) : ∃ v, vs = [v] ∧ See N H v d := by
  cases h with
  | cons h t => cases t; exact ⟨_, rfl, h⟩
theorem see2 {vs : List V} {d e : PyData} (h : SeeA N H vs [d, e]) : ∃ v w, vs = [v, w] ∧ See N H v d ∧ See N H w e := by
  cases h with
  | cons h t =>
    cases t with
    | cons h2 t => cases t; exact ⟨_, _, rfl, h, h2⟩
end
def intsD : List PyData → Option (List Int)
  | [] => some []
  | .int i :: ds => (intsD ds).map (i :: ·)
  | _ => none
theorem intsD_map : ∀ xs : List Int, intsD (xs.map PyData.int) = some xs
  | [] => rfl
  | x :: xs => by
    show (intsD (xs.map PyData.int)).map (x :: ·) = _
    rw [intsD_map xs]
    rfl
theorem dn_ints {N : Addr → Prop} {H : Hp} : ∀ {vs : List V} {ds : List PyData} {is : List Int}, DnA N H vs ds → intsD ds = some is → vs = is.map V.int ∧ ds = is.map PyData.int
  | _, _, _, .nil, e => by cases e; exact ⟨rfl, rfl⟩
  | _, _, _, .cons h t, e => by
    cases h <;> first | cases e | skip
    obtain ⟨r, e1, rfl⟩ := Option.map_eq_some_iff.mp e
    obtain ⟨e2, e3⟩ := dn_ints t e1
    rw [e2, e3]
    exact ⟨rfl, rfl⟩
def boolsD : List PyData → Option (List Bool)
  | [] => some []
  | .bool i :: ds => (boolsD ds).map (i :: ·)
  | _ => none
theorem boolsD_map : ∀ xs : List Bool, boolsD (xs.map PyData.bool) = some xs
  | [] => rfl
  | x :: xs => by
    show (boolsD (xs.map PyData.bool)).map (x :: ·) = _
    rw [boolsD_map xs]
    rfl
theorem dn_bools {N : Addr → Prop} {H : Hp} : ∀ {vs : List V} {ds : List PyData} {is : List Bool}, DnA N H vs ds → boolsD ds = some is → vs = is.map V.bl
  | _, _, _, .nil, e => by cases e; rfl
  | _, _, _, .cons h t, e => by
    cases h <;> first | cases e | skip
    obtain ⟨r, e1, rfl⟩ := Option.map_eq_some_iff.mp e
    rw [dn_bools t e1]
    rfl
def fLen : FN
  | [.list ds] => some (True, .d (.int (ds.length : Nat)))
  | [.tuple ds] => some (True, .d (.int (ds.length : Nat)))
  | [.str x] => some (True, .d (.int (x.length : Nat)))
  | _ => none
theorem bl_len {K : PySem.W.Frag} : BiL (fun xs H Q => (∃ p ys, xs = [.ref p] ∧ (SqL K H p ys ∨ SqT K H p ys) ∧ Q (.int ys.length) H) ∨ ∃ z, xs = [.str z] ∧ z.length ≤ sizeLine ∧ Q (.int z.length) H) fLen := by
  intro N H vs ds c Q hs e1 e2 o
  unfold fLen at e1
  split at e1
  · cases e1
    obtain ⟨v, rfl, h⟩ := see1 hs
    obtain ⟨a, ws, rfl, h1, h2, h3⟩ := h.list
    have := o.old _ _ rfl (.int _)
    rw [← h3.length] at this
    exact .inl ⟨a, ws, rfl, .inl (SqL.of h1), this⟩
  · cases e1
    obtain ⟨v, rfl, h⟩ := see1 hs
    obtain ⟨a, ws, rfl, h1, h2, h3, _⟩ := h.tup
    have := o.old _ _ rfl (.int _)
    rw [← h3.length] at this
    exact .inl ⟨a, ws, rfl, .inr (SqT.rd h1), this⟩
  · cases e1
    obtain ⟨v, rfl, h⟩ := see1 hs
    obtain ⟨rfl, h2⟩ := h.str
    exact .inr ⟨_, rfl, h2, o.old _ _ rfl (.int _)⟩
  · cases e1
def fAbs : FN
  | [.int i] => some (True, .d (.int (if i < 0 then -i else i)))
  | _ => none
theorem bl_abs : BiL (fun xs H Q => ∃ i, xs = [.int i] ∧ Q (.int (if i < 0 then -i else i)) H) fAbs := by
  intro N H vs ds c Q hs e1 e2 o
  unfold fAbs at e1
  split at e1
  · cases e1
    obtain ⟨v, rfl, h⟩ := see1 hs
    rw [h.int]
    exact ⟨_, rfl, o.old _ _ rfl (.int _)⟩
  · cases e1
def fInt : FN
  | [.int i] => some (True, .d (.int i))
  | [.bool b] => some (True, .d (.int (if b then 1 else 0)))
  | _ => none
theorem bl_int : BiL (fun xs H Q => (∃ i, xs = [.int i] ∧ Q (.int i) H) ∨ ∃ k, xs = [.bl k] ∧ Q (.int (if k then 1 else 0)) H) fInt := by
  intro N H vs ds c Q hs e1 e2 o
  unfold fInt at e1
  split at e1
  · cases e1
    obtain ⟨v, rfl, h⟩ := see1 hs
    rw [h.int]
    exact .inl ⟨_, rfl, o.old _ _ rfl (.int _)⟩
  · cases e1
    obtain ⟨v, rfl, h⟩ := see1 hs
    rw [h.bl]
    exact .inr ⟨_, rfl, o.old _ _ rfl (.int _)⟩
  · cases e1
def maxI : List Int → Int
  | [] => 0
  | [x] => x
  | x :: y :: xs => max x (maxI (y :: xs))
def minI : List Int → Int
  | [] => 0
  | [x] => x
  | x :: y :: xs => min x (minI (y :: xs))
theorem maxI_ok : ∀ {xs : List Int}, xs ≠ [] → maxI xs ∈ xs ∧ ∀ y ∈ xs, y ≤ maxI xs
  | [], h => absurd rfl h
  | [x], _ => ⟨List.mem_cons_self, fun y h => by rw [List.mem_singleton.mp h]; exact Int.le_refl _⟩
  | x :: y :: xs, _ => by
    obtain ⟨h1, h2⟩ := maxI_ok (xs := y :: xs) (by simp)
    refine ⟨?_, fun z hz => ?_⟩
    · show max x (maxI (y :: xs)) ∈ _
      by_cases q : x ≤ maxI (y :: xs)
      · rw [Int.max_eq_right q]
        exact List.mem_cons_of_mem _ h1
      · rw [Int.max_eq_left (by omega)]
        exact List.mem_cons_self
    · show z ≤ max x (maxI (y :: xs))
      rcases List.mem_cons.mp hz with rfl | hz
      · omega
      · have := h2 z hz
        omega
theorem minI_ok : ∀ {xs : List Int}, xs ≠ [] → minI xs ∈ xs ∧ ∀ y ∈ xs, minI xs ≤ y
  | [], h => absurd rfl h
  | [x], _ => ⟨List.mem_cons_self, fun y h => by rw [List.mem_singleton.mp h]; exact Int.le_refl _⟩
  | x :: y :: xs, _ => by
    obtain ⟨h1, h2⟩ := minI_ok (xs := y :: xs) (by simp)
    refine ⟨?_, fun z hz => ?_⟩
    · show min x (minI (y :: xs)) ∈ _
      by_cases q : x ≤ minI (y :: xs)
      · rw [Int.min_eq_left q]
        exact List.mem_cons_self
      · rw [Int.min_eq_right (by omega)]
        exact List.mem_cons_of_mem _ h1
    · show min x (minI (y :: xs)) ≤ z
      rcases List.mem_cons.mp hz with rfl | hz
      · omega
      · have := h2 z hz
        omega
theorem max_un {xs : List Int} {m : Int} (h1 : m ∈ xs) (h2 : ∀ y ∈ xs, y ≤ m) : m = maxI xs := by
  obtain ⟨h3, h4⟩ := maxI_ok (xs := xs) (fun e => by rw [e] at h1; cases h1)
  have := h2 _ h3
  have := h4 _ h1
  omega
theorem min_un {xs : List Int} {m : Int} (h1 : m ∈ xs) (h2 : ∀ y ∈ xs, m ≤ y) : m = minI xs := by
  obtain ⟨h3, h4⟩ := minI_ok (xs := xs) (fun e => by rw [e] at h1; cases h1)
  have := h2 _ h3
  have := h4 _ h1
  omega
def fMax : FN
  | [.list ds] => (intsD ds).map fun is => (is ≠ [], .d (.int (maxI is)))
  | [.tuple ds] => (intsD ds).map fun is => (is ≠ [], .d (.int (maxI is)))
  | [.int i, .int j] => some (True, .d (.int (max i j)))
  | _ => none
def fMin : FN
  | [.list ds] => (intsD ds).map fun is => (is ≠ [], .d (.int (minI is)))
  | [.tuple ds] => (intsD ds).map fun is => (is ≠ [], .d (.int (minI is)))
  | [.int i, .int j] => some (True, .d (.int (min i j)))
  | _ => none
def gMax (K : PySem.W.Frag) : List V → Hp → VK → Prop := fun xs H Q => rMax K xs H Q ∨ rMaxT K xs H Q ∨ ∃ i j, xs = [.int i, .int j] ∧ Q (.int (if j > i then j else i)) H
def gMin (K : PySem.W.Frag) : List V → Hp → VK → Prop := fun xs H Q => rMin K xs H Q ∨ rMinT K xs H Q ∨ ∃ i j, xs = [.int i, .int j] ∧ Q (.int (if j < i then j else i)) H
def crMax {X : Cx} (hc : X.calm = true) : CallR X (.builtin "max") (gMax X.K) := (cr_max hc).or ((cr_maxT hc).or (call_max2 hc))
def crMin {X : Cx} (hc : X.calm = true) : CallR X (.builtin "min") (gMin X.K) := (cr_min hc).or ((cr_minT hc).or (call_min2 hc))
theorem ne_len {xs : List Int} (h : xs ≠ []) : 0 < xs.length := by
  cases xs with
  | nil => exact absurd rfl h
  | cons x xs => simp
theorem bl_max {K : PySem.W.Frag} : BiL (gMax K) fMax := by
  intro N H vs ds c Q hs e1 e2 o
  unfold fMax at e1
  split at e1
  · obtain ⟨is, e3, rfl⟩ := Option.map_eq_some_iff.mp e1
    obtain ⟨v, rfl, h⟩ := see1 hs
    obtain ⟨a, ws, rfl, h1, h2, h3⟩ := h.list
    obtain ⟨rfl, _⟩ := dn_ints h3 e3
    exact .inl ⟨a, is, rfl, SqL.of h1, ne_len e2, fun m m1 m2 => by rw [max_un m1 m2]; exact o.old _ _ rfl (.int _)⟩
  · obtain ⟨is, e3, rfl⟩ := Option.map_eq_some_iff.mp e1
    obtain ⟨v, rfl, h⟩ := see1 hs
    obtain ⟨a, ws, rfl, h1, h2, h3, _⟩ := h.tup
    obtain ⟨rfl, _⟩ := dn_ints h3 e3
    exact .inr (.inl ⟨a, is, rfl, SqT.rd h1, ne_len e2, fun m m1 m2 => by rw [max_un m1 m2]; exact o.old _ _ rfl (.int _)⟩)
  · rename_i i j
    cases e1
    obtain ⟨v, w, rfl, h1, h2⟩ := see2 hs
    rw [h1.int, h2.int]
    have := o.old _ _ rfl (.int _)
    rw [show max i j = if j > i then j else i by split <;> omega] at this
    exact .inr (.inr ⟨i, j, rfl, this⟩)
  · cases e1
theorem bl_min {K : PySem.W.Frag} : BiL (gMin K) fMin := by
  intro N H vs ds c Q hs e1 e2 o
  unfold fMin at e1
  split at e1
  · obtain ⟨is, e3, rfl⟩ := Option.map_eq_some_iff.mp e1
    obtain ⟨v, rfl, h⟩ := see1 hs
    obtain ⟨a, ws, rfl, h1, h2, h3⟩ := h.list
    obtain ⟨rfl, _⟩ := dn_ints h3 e3
    exact .inl ⟨a, is, rfl, SqL.of h1, ne_len e2, fun m m1 m2 => by rw [min_un m1 m2]; exact o.old _ _ rfl (.int _)⟩
  · obtain ⟨is, e3, rfl⟩ := Option.map_eq_some_iff.mp e1
    obtain ⟨v, rfl, h⟩ := see1 hs
    obtain ⟨a, ws, rfl, h1, h2, h3, _⟩ := h.tup
    obtain ⟨rfl, _⟩ := dn_ints h3 e3
    exact .inr (.inl ⟨a, is, rfl, SqT.rd h1, ne_len e2, fun m m1 m2 => by rw [min_un m1 m2]; exact o.old _ _ rfl (.int _)⟩)
  · rename_i i j
    cases e1
    obtain ⟨v, w, rfl, h1, h2⟩ := see2 hs
    rw [h1.int, h2.int]
    have := o.old _ _ rfl (.int _)
    rw [show min i j = if j < i then j else i by split <;> omega] at this
    exact .inr (.inr ⟨i, j, rfl, this⟩)
  · cases e1
def fSum : FN
  | [.list ds] => (intsD ds).map fun is => (True, .d (.int is.sum))
  | _ => none
theorem bl_sum {K : PySem.W.Frag} : BiL (rSum K) fSum := by
  intro N H vs ds c Q hs e1 e2 o
  unfold fSum at e1
  split at e1
  · obtain ⟨is, e3, rfl⟩ := Option.map_eq_some_iff.mp e1
    obtain ⟨v, rfl, h⟩ := see1 hs
    obtain ⟨a, ws, rfl, h1, h2, h3⟩ := h.list
    obtain ⟨rfl, _⟩ := dn_ints h3 e3
    exact ⟨a, is, rfl, SqL.of h1, o.old _ _ rfl (.int _)⟩
  · cases e1
def fAll : FN
  | [.list ds] => (boolsD ds).map fun is => (True, .d (.bool (is.all id)))
  | _ => none
theorem bl_all {K : PySem.W.Frag} : BiL (rAll K) fAll := by
  intro N H vs ds c Q hs e1 e2 o
  unfold fAll at e1
  split at e1
  · obtain ⟨is, e3, rfl⟩ := Option.map_eq_some_iff.mp e1
    obtain ⟨v, rfl, h⟩ := see1 hs
    obtain ⟨a, ws, rfl, h1, h2, h3⟩ := h.list
    obtain rfl := dn_bools h3 e3
    exact ⟨a, is, rfl, SqL.of h1, o.old _ _ rfl (.bl _)⟩
  · cases e1
def fAny : FN
  | [.list ds] => (boolsD ds).map fun is => (True, .d (.bool (is.any id)))
  | _ => none
theorem bl_any {K : PySem.W.Frag} : BiL (rAny K) fAny := by
  intro N H vs ds c Q hs e1 e2 o
  unfold fAny at e1
  split at e1
  · obtain ⟨is, e3, rfl⟩ := Option.map_eq_some_iff.mp e1
    obtain ⟨v, rfl, h⟩ := see1 hs
    obtain ⟨a, ws, rfl, h1, h2, h3⟩ := h.list
    obtain rfl := dn_bools h3 e3
    exact ⟨a, is, rfl, SqL.of h1, o.old _ _ rfl (.bl _)⟩
  · cases e1
def fTupleOf : FN
  | [.list ds] => some (True, .d (.tuple ds))
  | [.tuple ds] => some (True, .d (.tuple ds))
  | _ => none
theorem bl_tuple {K : PySem.W.Frag} : BiL (fun xs H Q => ∃ p ys, xs = [.ref p] ∧ ((SqL K H p ys ∧ ∀ l, H l = none → Q (.ref l) (upd H l (.tup ys))) ∨ (SqT K H p ys ∧ Q (.ref p) H))) fTupleOf := by
  intro N H vs ds c Q hs e1 e2 o
  unfold fTupleOf at e1
  split at e1
  · cases e1
    obtain ⟨v, rfl, h⟩ := see1 hs
    obtain ⟨a, ws, rfl, h1, h2, h3⟩ := h.list
    exact ⟨a, ws, rfl, .inl ⟨SqL.of h1, fun l hl => o.tup l _ _ rfl hl h2 h3⟩⟩
  · cases e1
    obtain ⟨v, rfl, h⟩ := see1 hs
    obtain ⟨a, ws, rfl, h1, h2, h3, h4⟩ := h.tup
    exact ⟨a, ws, rfl, .inr ⟨SqT.rd h1, o.old _ _ rfl h4⟩⟩
  · cases e1
def fListOf : FN
  | [.list ds] => some (True, .f ds)
  | [.tuple ds] => some (True, .f ds)
  | _ => none
theorem bl_list {K : PySem.W.Frag} : BiL (fun xs H Q => ∃ p ys, xs = [.ref p] ∧ (SqL K H p ys ∨ SqT K H p ys) ∧ ∀ l, H l = none → Q (.ref l) (upd H l (.lst ys))) fListOf := by
  intro N H vs ds c Q hs e1 e2 o
  unfold fListOf at e1
  split at e1
  · cases e1
    obtain ⟨v, rfl, h⟩ := see1 hs
    obtain ⟨a, ws, rfl, h1, h2, h3⟩ := h.list
    exact ⟨a, ws, rfl, .inl (SqL.of h1), fun l hl => o.lst l _ _ rfl hl h2 h3⟩
  · cases e1
    obtain ⟨v, rfl, h⟩ := see1 hs
    obtain ⟨a, ws, rfl, h1, h2, h3, h4⟩ := h.tup
    exact ⟨a, ws, rfl, .inr (SqT.rd h1), fun l hl => o.lst l _ _ rfl hl h2 h3⟩
  · cases e1
def srt (xs : List Int) : List Int := xs.mergeSort fun a b => decide (a ≤ b)
theorem srt_un {xs ys : List Int} (h1 : ys.Perm xs) (h2 : ys.Pairwise (· ≤ ·)) : ys = srt xs := by
  have p : (srt xs).Perm xs := List.mergeSort_perm xs _
  have q : (srt xs).Pairwise (· ≤ ·) := by
    have := List.pairwise_mergeSort (le := fun a b : Int => decide (a ≤ b)) (fun a b c h k => decide_eq_true (Int.le_trans (of_decide_eq_true h) (of_decide_eq_true k))) (fun a b => by
      rcases Int.le_total a b with h | h
      · rw [decide_eq_true h]; rfl
      · rw [decide_eq_true h, Bool.or_true]) xs
    exact this.imp fun h => of_decide_eq_true h
  exact (h1.trans p.symm).eq_of_pairwise (fun a b _ _ => Int.le_antisymm) h2 q
def fSorted : FN
  | [.list ds] => (intsD ds).map fun is => (True, .f ((srt is).map PyData.int))
  | _ => none
theorem ints_dn {N : Addr → Prop} {H : Hp} : ∀ xs : List Int, DnA N H (xs.map V.int) (xs.map PyData.int)
  | [] => .nil
  | x :: xs => .cons (.int x) (ints_dn xs)
theorem bl_sorted {K : PySem.W.Frag} : BiL (rSortedI K) fSorted := by
  intro N H vs ds c Q hs e1 e2 o
  unfold fSorted at e1
  split at e1
  · obtain ⟨is, e3, rfl⟩ := Option.map_eq_some_iff.mp e1
    obtain ⟨v, rfl, h⟩ := see1 hs
    obtain ⟨a, ws, rfl, h1, h2, h3⟩ := h.list
    obtain ⟨rfl, _⟩ := dn_ints h3 e3
    refine ⟨a, is, rfl, SqL.of h1, fun ns p k1 k2 hp => ?_⟩
    obtain rfl := srt_un k1 k2
    exact o.lst p _ _ rfl hp (by rw [List.length_map, k1.length_eq, ← List.length_map (f := V.int)]; exact h2) (ints_dn _)
  · cases e1
def fGcd : FN
  | [.int i, .int j] => some (True, .d (.int ((Nat.gcd i.natAbs j.natAbs : Nat) : Int)))
  | _ => none
theorem bl_gcd : BiL rGcd fGcd := by
  intro N H vs ds c Q hs e1 e2 o
  unfold fGcd at e1
  split at e1
  · cases e1
    obtain ⟨v, w, rfl, h1, h2⟩ := see2 hs
    rw [h1.int, h2.int]
    exact ⟨_, _, rfl, o.old _ _ rfl (.int _)⟩
  · cases e1
def fDivmod : FN
  | [.int i, .int j] => some (CDiv i j, .d (.tuple [.int (i / j), .int (i % j)]))
  | _ => none
theorem bl_divmod : BiL (fun xs H Q => ∃ i j, xs = [.int i, .int j] ∧ CDiv i j ∧ ∀ p, H p = none → Q (.ref p) (upd H p (.tup [.int (i / j), .int (i % j)]))) fDivmod := by
  intro N H vs ds c Q hs e1 e2 o
  unfold fDivmod at e1
  split at e1
  · cases e1
    obtain ⟨v, w, rfl, h1, h2⟩ := see2 hs
    rw [h1.int, h2.int]
    exact ⟨_, _, rfl, e2, fun p hp => o.tup p _ _ rfl hp (by exact Nat.le_of_ble_eq_true rfl) (.cons (.int _) (.cons (.int _) .nil))⟩
  · cases e1
def fRepr : FN
  | [d] => some (d.showable = true ∧ topSafe d = true ∧ d.depth ≤ 60 ∧ d.shown.length ≤ sizeLine ∧ ∀ y, d = .str y → y.length ≤ 1000, .b (.str d.shown))
  | _ => none
end Cs
set_option maxHeartbeats 4000000
/-! Iterators, targets, comprehensions over data. -/
namespace Cs
open PySem L2 PyProof.Rows
theorem mapget {α β : Type} {f : α → β} {xs : List α} {i : Nat} {y : β} (h : (xs.map f)[i]? = some y) : ∃ x, xs[i]? = some x ∧ y = f x := by
  rw [List.getElem?_map] at h
  obtain ⟨x, hx, e⟩ := Option.map_eq_some_iff.mp h
  exact ⟨x, hx, e.symm⟩
structure XI where
  run : List AV → (List PyData → Bool → List AV → Prop) → Prop
  mono : ∀ {ε : List AV} {K K' : List PyData → Bool → List AV → Prop}, (∀ r b e, K r b e → K' r b e) → run ε K → run ε K'
/-- an iterator that walks data; whether it bears that lists are changed meanwhile -/
structure ItOk (p : Addr) (J : It) (A : (Addr → Prop) → Hp → Prop) (ds : List PyData) (fl : Bool) : Prop where
  st : ∀ N N' H H', Fit2 N N' H H' → (fl = false → ∀ b o, b ≠ p → (∀ ps, o ≠ .tbl ps) → H b = some o → H' b = some o) → A N H → A N' H'
  stop : ∀ N H, A N H → J.stop ds.length H
  go : ∀ N H i d, (∀ a, N a → ∃ o, H a = some o) → A N H → ds[i]? = some d → J.go i H ∧ ∀ x H', J.yld i H x H' → Same H H' ∧ Dn N H' x d
def upI (t : XI) : TI := fun σ H R => ∃ Γ ε T, Rep Γ ε T σ H ∧ t.run ε fun ds fl ε' => ∀ J A T' H', Rep Γ ε' T' σ H' → Stp Γ ε T ε' T' σ H H' → ItOk Γ.p J A ds fl → A (Mx Γ ε' T' σ) H' → R J H'
theorem pi_wk {X : Cx} {tg e : Expr} {t t' : TI} (h : PI X tg e t) (w : ∀ σ H R, t' σ H R → t σ H R) : PI X tg e t' := ⟨fun pins s σ H R I q => h.run pins s σ H R I (w σ H R q)⟩
section
variable {Γ : Ga} {ε ε2 : List AV} {T T2 : Addr → Prop} {σ : L2.St} {H H2 : Hp} {X : Cx}
theorem Rep.alloc (R : Rep Γ ε T σ H) : ∀ a, Mx Γ ε T σ a → ∃ o, H a = some o := by
  rintro a (m | ⟨i, xs, e1, e2⟩ | t)
  · by_cases z : a = Γ.p
    · rw [z]
      exact R.hp.elim fun _ h => ⟨_, h⟩
    · rcases R.ml a m with z' | h
      · exact absurd z' z
      · obtain ⟨o, h⟩ := h.ob
        by_cases zz : Zp Γ a
        · exact (zp_at R.tz zz).elim fun _ h => ⟨_, h⟩
        · exact ⟨_, R.ext a _ ⟨fun _ => z, zz⟩ h⟩
  · obtain ⟨b, vs, e3, _, h2, _⟩ := R.sl i _ e1
    rw [e3] at e2
    cases e2
    exact ⟨_, h2⟩
  · obtain ⟨_, ⟨vs, h⟩, _⟩ := R.tmp a t
    exact ⟨_, h⟩
end
/-! #### over a list that is kept; a list that is looked at; a tuple; a range; a text -/
def xiL (a : XE) : XI := ⟨fun ε K => a.run ε fun r ε1 => ∃ ds, r.kp = some (.list ds) ∧ K ds true ε1, fun h q => a.mono (fun _ _ ⟨ds, e, k⟩ => ⟨ds, e, h _ _ _ k⟩) q⟩
def xiB (a : XE) : XI := ⟨fun ε K => a.run ε fun r ε1 => ∃ ds, r.see = some (.list ds) ∧ K ds false ε1, fun h q => a.mono (fun _ _ ⟨ds, e, k⟩ => ⟨ds, e, h _ _ _ k⟩) q⟩
def xiT (a : XE) : XI := ⟨fun ε K => a.run ε fun r ε1 => ∃ ds, r.see = some (.tuple ds) ∧ K ds true ε1, fun h q => a.mono (fun _ _ ⟨ds, e, k⟩ => ⟨ds, e, h _ _ _ k⟩) q⟩
def rgD (lo : Int) (n : Nat) : List PyData := (List.range n).map fun (i : Nat) => PyData.int (lo + (i : Int))
def xiR1 (a : XA) : XI := ⟨fun ε K => a.run ε fun rs ε1 => ∃ j : Int, sees rs = some [.int j] ∧ -(2 ^ 62) ≤ j ∧ j < 2 ^ 62 ∧ K (rgD 0 j.toNat) true ε1, fun h q => a.mono (fun _ _ ⟨j, e, b1, b2, k⟩ => ⟨j, e, b1, b2, h _ _ _ k⟩) q⟩
def xiR2 (a : XA) : XI := ⟨fun ε K => a.run ε fun rs ε1 => ∃ i j : Int, sees rs = some [.int i, .int j] ∧ (-(2 ^ 62) ≤ i ∧ i < 2 ^ 62 ∧ -(2 ^ 62) ≤ j ∧ j < 2 ^ 62) ∧ K (rgD i (j - i).toNat) true ε1, fun h q => a.mono (fun _ _ ⟨i, j, e, b, k⟩ => ⟨i, j, e, b, h _ _ _ k⟩) q⟩
def chD (x : Str) : List PyData := x.cps.toList.map fun c => PyData.str ⟨#[c]⟩
def xiS (a : XE) : XI := ⟨fun ε K => a.run ε fun r ε1 => ∃ x, r.see = some (.str x) ∧ K (chD x) true ε1, fun h q => a.mono (fun _ _ ⟨ds, e, k⟩ => ⟨ds, e, h _ _ _ k⟩) q⟩
def AL (p a : Addr) (vs : List V) (ds : List PyData) : (Addr → Prop) → Hp → Prop := fun N H => a ≠ p ∧ H a = some (.lst vs) ∧ DnA N H vs ds
def ALk (a : Addr) (vs : List V) (ds : List PyData) : (Addr → Prop) → Hp → Prop := fun N H => ¬ N a ∧ H a = some (.lst vs) ∧ DnA N H vs ds
def AT (a : Addr) (vs : List V) (ds : List PyData) : (Addr → Prop) → Hp → Prop := fun N H => ¬ N a ∧ Rd H a (.tup vs) ∧ DnA N H vs ds
theorem sqL_un {K : PySem.W.Frag} {H : Hp} {a : Addr} {vs xs : List V} (h : H a = some (.lst vs)) (k : (∀ ys, SqL K H a ys → ys[0]? = xs[0]?) → True) : True := trivial
theorem AL.fit {p a : Addr} {vs : List V} {ds : List PyData} {N N' : Addr → Prop} {H H' : Hp} (f : Fit2 N N' H H') (k : ∀ b o, b ≠ p → (∀ ps, o ≠ .tbl ps) → H b = some o → H' b = some o) (h : AL p a vs ds N H) : AL p a vs ds N' H' := ⟨h.1, k _ _ h.1 nofun h.2.1, h.2.2.go f⟩
theorem ALk.fit {a : Addr} {vs : List V} {ds : List PyData} {N N' : Addr → Prop} {H H' : Hp} (f : Fit2 N N' H H') (h : ALk a vs ds N H) : ALk a vs ds N' H' := ⟨f.ok h.1 h.2.1, f.k _ _ h.1 h.2.1, h.2.2.go f⟩
theorem AT.fit {a : Addr} {vs : List V} {ds : List PyData} {N N' : Addr → Prop} {H H' : Hp} (f : Fit2 N N' H H') (h : AT a vs ds N H) : AT a vs ds N' H' := ⟨f.rd h.1 h.2.1, rd_keep (fun o q => f.k _ o h.1 q) h.2.1, h.2.2.go f⟩
theorem it_list {K : PySem.W.Frag} {p a : Addr} {vs : List V} {ds : List PyData} : ItOk p (Itl K a) (AL p a vs ds) ds false where
  st := fun N N' H H' f k h => h.fit f (k rfl)
  stop := fun N H h => ⟨vs, SqL.of h.2.1, Nat.le_of_eq h.2.2.length⟩
  go := fun N H i d _ h hd => by
    obtain ⟨v, hv, dv⟩ := h.2.2.at_ hd
    refine ⟨⟨vs, v, SqL.of h.2.1, hv⟩, fun x H' ⟨e, y⟩ => ?_⟩
    subst e
    have := y vs (SqL.of h.2.1)
    rw [hv] at this
    cases this
    exact ⟨Same.refl _, dv⟩
theorem it_listK {K : PySem.W.Frag} {p a : Addr} {vs : List V} {ds : List PyData} : ItOk p (Itl K a) (ALk a vs ds) ds true where
  st := fun N N' H H' f k h => h.fit f
  stop := fun N H h => ⟨vs, SqL.of h.2.1, Nat.le_of_eq h.2.2.length⟩
  go := fun N H i d _ h hd => by
    obtain ⟨v, hv, dv⟩ := h.2.2.at_ hd
    refine ⟨⟨vs, v, SqL.of h.2.1, hv⟩, fun x H' ⟨e, y⟩ => ?_⟩
    subst e
    have := y vs (SqL.of h.2.1)
    rw [hv] at this
    cases this
    exact ⟨Same.refl _, dv⟩
theorem it_tup {K : PySem.W.Frag} {p a : Addr} {vs : List V} {ds : List PyData} : ItOk p (Itt K a) (AT a vs ds) ds true where
  st := fun N N' H H' f k h => h.fit f
  stop := fun N H h => ⟨vs, SqT.rd h.2.1, Nat.le_of_eq h.2.2.length⟩
  go := fun N H i d _ h hd => by
    obtain ⟨v, hv, dv⟩ := h.2.2.at_ hd
    refine ⟨⟨vs, v, SqT.rd h.2.1, hv⟩, fun x H' ⟨e, y⟩ => ?_⟩
    subst e
    have := y vs (SqT.rd h.2.1)
    rw [hv] at this
    cases this
    exact ⟨Same.refl _, dv⟩
theorem it_rng {p : Addr} {lo : Int} {n : Nat} : ItOk p (Itr lo n) (fun _ _ => True) (rgD lo n) true where
  st := fun _ _ _ _ _ _ _ => trivial
  stop := fun N H _ => by
    show n ≤ (rgD lo n).length
    unfold rgD
    rw [List.length_map, List.length_range]
    exact Nat.le_refl _
  go := fun N H i d _ _ hd => by
    unfold rgD at hd
    obtain ⟨j, hj, rfl⟩ := mapget hd
    obtain ⟨h1, h2⟩ := List.getElem?_eq_some_iff.mp hj
    rw [List.length_range] at h1
    rw [List.getElem_range] at h2
    subst h2
    refine ⟨h1, fun x H' ⟨e, y⟩ => ?_⟩
    subst e y
    exact ⟨Same.refl _, .int _⟩
theorem it_str {p : Addr} {x : Str} : ItOk p (Its x) (fun _ _ => True) (chD x) true where
  st := fun _ _ _ _ _ _ _ => trivial
  stop := fun N H _ => by
    show x.cps.size ≤ (chD x).length
    unfold chD
    rw [List.length_map, Array.length_toList]
    exact Nat.le_refl _
  go := fun N H i d _ _ hd => by
    unfold chD at hd
    obtain ⟨c, hc, rfl⟩ := mapget hd
    rw [Array.getElem?_toList] at hc
    refine ⟨(Array.getElem?_eq_some_iff.mp hc).1, fun y H' ⟨e, c', hc', z⟩ => ?_⟩
    subst e z
    rw [hc] at hc'
    cases hc'
    exact ⟨Same.refl _, .str _ (show 1 ≤ 1000 by decide)⟩
section
variable {X : Cx} {tg e e2 : Expr} {p pos tpos : Pos} {a : XE} {b : XA}
theorem xi_list (h : PE X e (up a)) : PI X tg e (upI (xiL a)) := pi_wk (pi_list h) fun σ H R ⟨Γ, ε, T, R0, k⟩ => up1 R0 k fun r x ε1 T1 H1 ⟨ds, e1, g⟩ R1 s1 d1 => by
  have d := d1.kept R0 R1 s1 e1
  cases d with
  | @lst a vs _ n h z q => exact ⟨a, rfl, ⟨vs, SqL.of h⟩, g _ _ T H1 (R1.less s1.t) s1.drop it_listK ⟨n, h, q⟩⟩
theorem xi_look (h : PE X e (up a)) : PI X tg e (upI (xiB a)) := pi_wk (pi_list h) fun σ H R ⟨Γ, ε, T, R0, k⟩ => up1 R0 k fun r x ε1 T1 H1 ⟨ds, e1, g⟩ R1 s1 d1 => by
  have np : ∀ a, x = .ref a → a ≠ Γ.p := fun a ea => by
    subst ea
    cases r with
    | d y =>
      cases e1
      cases d1 with
      | lst n h z q => exact fun ep => n (ep ▸ .inl R1.pm)
    | f xs =>
      obtain ⟨b, vs, e, h0, ht, _⟩ := d1
      cases e
      exact tmp_p R1 ht
    | b y =>
      cases e1
      rcases d1 with d1 | ⟨y, e, _⟩ | ⟨b, vs, xs, e, _, hb, _⟩
      · cases d1 with
        | lst n h z q => exact fun ep => n (ep ▸ .inl R1.pm)
      · cases e
      · cases e
        exact hb
    | p => cases e1
    | o P => cases e1
  obtain ⟨a, vs, rfl, h1, h2, h3⟩ := (d1.see e1).list
  exact ⟨a, rfl, ⟨vs, SqL.of h1⟩, g _ _ T1 H1 R1 s1 it_list ⟨np a rfl, h1, h3⟩⟩
theorem xi_tup (h : PE X e (up a)) : PI X tg e (upI (xiT a)) := pi_wk (pi_tup h) fun σ H R ⟨Γ, ε, T, R0, k⟩ => up1 R0 k fun r x ε1 T1 H1 ⟨ds, e1, g⟩ R1 s1 d1 => by
  obtain ⟨a, vs, rfl, h1, h2, h3, h4⟩ := (d1.see e1).tup
  cases h4 with
  | tup n h z q => exact ⟨a, rfl, ⟨vs, SqT.rd h1⟩, g _ _ T1 H1 R1 s1 it_tup ⟨n, h1, h3⟩⟩
theorem xi_rng1 (hg : Gl X "range") (hm : X.mg "range" = none) (h : PA X [e] (upA b)) (hs : starEach [e] X.env = [(false, eval e X.env)] := by rfl) : PI X tg (.Call (.Name "range" p) [e] [] pos) (upI (xiR1 b)) := pi_wk (pi_range1 hg hm h hs) fun σ H R ⟨Γ, ε, T, R0, k⟩ => upA1 R0 k fun r x ε1 T1 H1 ⟨j, e1, b1, b2, g⟩ R1 s1 d1 => by
  obtain ⟨v, rfl, h⟩ := see1 (d1.see e1)
  exact ⟨j, by rw [h.int], b1, b2, g _ _ T1 H1 R1 s1 it_rng trivial⟩
theorem xi_rng2 (hg : Gl X "range") (hm : X.mg "range" = none) (h : PA X [e, e2] (upA b)) (hs : starEach [e, e2] X.env = [(false, eval e X.env), (false, eval e2 X.env)] := by rfl) (hs2 : starEach [e2] X.env = [(false, eval e2 X.env)] := by rfl) : PI X tg (.Call (.Name "range" p) [e, e2] [] pos) (upI (xiR2 b)) := pi_wk (pi_range2 hg hm h hs hs2) fun σ H R ⟨Γ, ε, T, R0, k⟩ => upA1 R0 k fun r x ε1 T1 H1 ⟨i, j, e1, b1, g⟩ R1 s1 d1 => by
  obtain ⟨v, w, rfl, h1, h2⟩ := see2 (d1.see e1)
  exact ⟨i, j, by rw [h1.int, h2.int], b1, g _ _ T1 H1 R1 s1 it_rng trivial⟩
theorem xi_str (h : PE X e (up a)) : PI X tg e (upI (xiS a)) := pi_wk (pi_str h) fun σ H R ⟨Γ, ε, T, R0, k⟩ => up1 R0 k fun r x ε1 T1 H1 ⟨y, e1, g⟩ R1 s1 d1 =>
  ⟨y, (d1.see e1).str.1, g _ _ T1 H1 R1 s1 it_str trivial⟩
end
/-! #### zip, enumerate -/
def zipD (xs ys : List PyData) : List PyData := (xs.zip ys).map fun q => .tuple [q.1, q.2]
def enD (xs : List PyData) : List PyData := xs.zipIdx.map fun q => .tuple [.int (q.2 : Nat), q.1]
def AS (p : Addr) (t fl : Bool) (a : Addr) (vs : List V) (ds : List PyData) : (Addr → Prop) → Hp → Prop := match t, fl with
  | true, _ => AT a vs ds
  | false, true => ALk a vs ds
  | false, false => AL p a vs ds
theorem AS.fit {p : Addr} {t fl : Bool} {a : Addr} {vs : List V} {ds : List PyData} {N N' : Addr → Prop} {H H' : Hp} (f : Fit2 N N' H H') (k : fl = false → ∀ b o, b ≠ p → (∀ ps, o ≠ .tbl ps) → H b = some o → H' b = some o) (h : AS p t fl a vs ds N H) : AS p t fl a vs ds N' H' := by
  cases t with
  | true => exact AT.fit f h
  | false =>
    cases fl with
    | true => exact ALk.fit f h
    | false => exact AL.fit f (k rfl) h
theorem AS.sq {K : PySem.W.Frag} {p : Addr} {t fl : Bool} {a : Addr} {vs : List V} {ds : List PyData} {N : Addr → Prop} {H : Hp} (h : AS p t fl a vs ds N H) : SqB K t H a vs ∧ DnA N H vs ds := by
  cases t with
  | true => exact ⟨SqT.rd h.2.1, h.2.2⟩
  | false =>
    cases fl with
    | true => exact ⟨SqL.of h.2.1, h.2.2⟩
    | false => exact ⟨SqL.of h.2.1, h.2.2⟩
theorem dn_pair {N : Addr → Prop} {H : Hp} {T : Addr} {x y : V} {d e : PyData} (ha : ∀ a, N a → ∃ o, H a = some o) (hT : H T = none) (dx : Dn N H x d) (dy : Dn N H y e) : Dn N (upd H T (.tup [x, y])) (.ref T) (.tuple [d, e]) := by
  have f : Fit2 N N H (upd H T (.tup [x, y])) := Fit2.same (same_new hT)
  refine .tup (fun z => ?_) (.inl upd_same) (by exact Nat.le_of_ble_eq_true rfl) (.cons (dx.go f) (.cons (dy.go f) .nil))
  obtain ⟨o, e⟩ := ha T z
  rw [hT] at e
  cases e
theorem zipD_at {xs ys : List PyData} {i : Nat} {d : PyData} (h : (zipD xs ys)[i]? = some d) : ∃ x y, xs[i]? = some x ∧ ys[i]? = some y ∧ d = .tuple [x, y] := by
  unfold zipD at h
  obtain ⟨q, hq, rfl⟩ := mapget h
  rw [List.getElem?_zip_eq_some] at hq
  exact ⟨q.1, q.2, hq.1, hq.2, rfl⟩
theorem zipD_len {xs ys : List PyData} : (zipD xs ys).length = min xs.length ys.length := by
  unfold zipD
  rw [List.length_map, List.length_zip]
theorem it_zip {K : PySem.W.Frag} {p : Addr} {t u fl : Bool} {a b : Addr} {vs ws : List V} {ds es : List PyData} : ItOk p (ItzB K t u a b) (fun N H => AS p t fl a vs ds N H ∧ AS p u fl b ws es N H) (zipD ds es) fl where
  st := fun N N' H H' f k h => ⟨h.1.fit f k, h.2.fit f k⟩
  stop := fun N H h => by
    obtain ⟨h1, h2⟩ := h.1.sq (K := K)
    obtain ⟨k1, k2⟩ := h.2.sq (K := K)
    refine ⟨vs, ws, h1, k1, ?_⟩
    rw [zipD_len, h2.length, k2.length]
    omega
  go := fun N H i d ha h hd => by
    obtain ⟨h1, h2⟩ := h.1.sq (K := K)
    obtain ⟨k1, k2⟩ := h.2.sq (K := K)
    obtain ⟨x, y, hx, hy, rfl⟩ := zipD_at hd
    obtain ⟨v, hv, dv⟩ := h2.at_ hx
    obtain ⟨w, hw, dw⟩ := k2.at_ hy
    refine ⟨⟨vs, ws, v, w, h1, k1, hv, hw⟩, fun z H' ⟨T, x', y', e, hT, eH, q1, q2⟩ => ?_⟩
    subst e eH
    have r1 := q1 vs h1
    have r2 := q2 ws k1
    rw [hv] at r1
    rw [hw] at r2
    cases r1
    cases r2
    exact ⟨same_new hT, dn_pair ha hT dv dw⟩
/-- what is zipped: a tuple (true) or a list; kept (fl) or looked at -/
def srcD (t fl : Bool) (r : RV) : Option (List PyData) := match t with
  | true => match r.see with
    | some (.tuple ds) => some ds
    | _ => none
  | false => match (if fl then r.kp else r.see) with
    | some (.list ds) => some ds
    | _ => none
def xiZ (t u fl : Bool) (a : XA) : XI := ⟨fun ε K => a.run ε fun rs ε1 => ∃ r s ds es, rs = [r, s] ∧ srcD t fl r = some ds ∧ srcD u fl s = some es ∧ K (zipD ds es) fl ε1, fun h q => a.mono (fun _ _ ⟨r, s, ds, es, e1, e2, e3, k⟩ => ⟨r, s, ds, es, e1, e2, e3, h _ _ _ k⟩) q⟩
section
variable {Γ : Ga} {ε ε2 : List AV} {T T2 : Addr → Prop} {σ : L2.St} {H H2 : Hp}
theorem Den.src {t fl : Bool} {r : RV} {v : V} {ds : List PyData} (R : Rep Γ ε T σ H) (R2 : Rep Γ ε2 T2 σ H2) (s : Stp Γ ε T ε2 T2 σ H H2) (d : Den Γ ε2 T2 σ H r v H2) (e : srcD t fl r = some ds) : ∃ a vs, v = .ref a ∧ AS Γ.p t fl a vs ds (Mx Γ ε2 (if fl then T else T2) σ) H2 := by
  have less : ∀ a, (if fl then T else T2) a → T2 a := by
    cases fl with
    | true => exact s.t
    | false => exact fun _ h => h
  unfold srcD at e
  cases t with
  | true =>
    simp only at e
    split at e
    · rename_i x hx
      cases e
      obtain ⟨a, vs, rfl, h1, h2, h3, h4⟩ := (d.see hx).tup
      have f : Fit2 (Mx Γ ε2 T2 σ) (Mx Γ ε2 (if fl then T else T2) σ) H2 H2 := Fit2.less fun _ => mx_less less
      cases h4 with
      | tup n h z q =>
        have key : AT a vs ds (Mx Γ ε2 (if fl then T else T2) σ) H2 := ⟨f.rd n h1, h1, h3.go f⟩
        exact ⟨a, vs, rfl, key⟩
    · cases e
  | false =>
    simp only at e
    cases fl with
    | true =>
      split at e
      · rename_i x hx
        cases e
        have k := d.kept R R2 s hx
        cases k with
        | @lst a vs _ n h z q => exact ⟨a, vs, rfl, n, h, q⟩
      · cases e
    | false =>
      split at e
      · rename_i x hx
        cases e
        have np : ∀ a, v = .ref a → a ≠ Γ.p := fun a ea => by
          subst ea
          cases r with
          | d y =>
            cases hx
            cases d with
            | lst n h z q => exact fun ep => n (ep ▸ .inl R2.pm)
          | f xs =>
            obtain ⟨b, vs, e, h0, ht, _⟩ := d
            cases e
            exact tmp_p R2 ht
          | b y =>
            cases hx
            rcases d with d1 | ⟨y, e, _⟩ | ⟨b, vs, xs, e, _, hb, _⟩
            · cases d1 with
              | lst n h z q => exact fun ep => n (ep ▸ .inl R2.pm)
            · cases e
            · cases e
              exact hb
          | p => cases hx
          | o P => cases hx
        obtain ⟨a, vs, rfl, h1, h2, h3⟩ := (d.see hx).list
        exact ⟨a, vs, rfl, np a rfl, h1, h3⟩
      · cases e
theorem den2 {r s : RV} {vs : List V} (h : DenA Γ ε T σ H [r, s] vs H2) : ∃ v w, vs = [v, w] ∧ Den Γ ε T σ H r v H2 ∧ Den Γ ε T σ H s w H2 := by
  cases h with
  | cons h t =>
    cases t with
    | cons h2 t => cases t; exact ⟨_, _, rfl, h, h2⟩
theorem den1 {r : RV} {vs : List V} (h : DenA Γ ε T σ H [r] vs H2) : ∃ v, vs = [v] ∧ Den Γ ε T σ H r v H2 := by
  cases h with
  | cons h t => cases t; exact ⟨_, rfl, h⟩
theorem zip_up {a : XA} {t u fl : Bool} {Rr : It → Hp → Prop} {K : PySem.W.Frag} (R0 : Rep Γ ε T σ H)
    (k : (xiZ t u fl a).run ε fun ds fl ε' => ∀ J A T' H', Rep Γ ε' T' σ H' → Stp Γ ε T ε' T' σ H H' → ItOk Γ.p J A ds fl → A (Mx Γ ε' T' σ) H' → Rr J H') :
    upA a σ H fun vs H1 => ∃ a b xs ys, vs = [.ref a, .ref b] ∧ SqB K t H1 a xs ∧ SqB K u H1 b ys ∧ Rr (ItzB K t u a b) H1 :=
  upA1 R0 k fun rs xs ε1 T1 H1 ⟨r, s, ds, es, e1, e2, e3, g⟩ R1 s1 d1 => by
    subst e1
    obtain ⟨v, w, rfl, dv, dw⟩ := den2 d1
    obtain ⟨a1, vs, rfl, h1⟩ := dv.src R0 R1 s1 e2
    obtain ⟨b1, ws, rfl, h2⟩ := dw.src R0 R1 s1 e3
    refine ⟨a1, b1, vs, ws, rfl, h1.sq.1, h2.sq.1, ?_⟩
    have less : ∀ a, (if fl then T else T1) a → T1 a := by
      cases fl with
      | true => exact s1.t
      | false => exact fun _ h => h
    refine g _ _ (if fl then T else T1) H1 (R1.less less) ?_ it_zip ⟨h1, h2⟩
    cases fl with
    | true => exact s1.drop
    | false => exact s1
end
section
variable {X : Cx} {e e2 : Expr} {p pos tpos : Pos} {a : XA} {elts : List Expr} {kk : Nat}
theorem xi_zipB (t u fl : Bool) (ne : t ≠ u) (hg : Gl X "zip") (hm : X.mg "zip" = none) (h : PA X [e, e2] (upA a)) (hs : starEach [e, e2] X.env = (false, eval e X.env) :: starEach [e2] X.env := by rfl) (hpl : ((backTo pos (starEach [e2] X.env)).any fun x => x.1) = false := by rfl) : PI X (.Tuple elts kk tpos) (.Call (.Name "zip" p) [e, e2] [] pos) (upI (xiZ t u fl a)) :=
  pi_wk (pi_zipB t u ne hg hm h hs hpl) fun σ H R ⟨Γ, ε, T, R0, k⟩ => zip_up R0 k
theorem xi_zipA (t fl : Bool) (hg : Gl X "zip") (hm : X.mg "zip" = none) (h : PA X [e, e2] (upA a)) (hs : starEach [e, e2] X.env = (false, eval e X.env) :: starEach [e2] X.env := by rfl) (hpl : ((backTo pos (starEach [e2] X.env)).any fun x => x.1) = false := by rfl) : PI X (.Tuple elts kk tpos) (.Call (.Name "zip" p) [e, e2] [] pos) (upI (xiZ t t fl a)) :=
  pi_wk (RZ.pi_zipA hg hm h hs hpl) fun σ H R ⟨Γ, ε, T, R0, k⟩ => by
    have q := zip_up (K := X.K) R0 k
    obtain ⟨Γ', ε', T', R', q⟩ := q
    refine ⟨Γ', ε', T', R', a.mono (fun rs e g vs T2 H2 R2 s2 d2 => ?_) q⟩
    obtain ⟨b1, b2, xs, ys, e1, q1, q2, q3⟩ := g vs T2 H2 R2 s2 d2
    cases t with
    | true => exact ⟨b1, b2, xs, ys, e1, .inr ⟨q1, q2, q3⟩⟩
    | false => exact ⟨b1, b2, xs, ys, e1, .inl ⟨q1, q2, q3⟩⟩
end
theorem enD_at {xs : List PyData} {i : Nat} {d : PyData} (h : (enD xs)[i]? = some d) : ∃ x, xs[i]? = some x ∧ d = .tuple [.int (i : Nat), x] := by
  unfold enD at h
  obtain ⟨q, hq, rfl⟩ := mapget h
  rw [List.getElem?_zipIdx] at hq
  obtain ⟨x, hx, rfl⟩ := Option.map_eq_some_iff.mp hq
  exact ⟨x, hx, by simp⟩
theorem enD_len {xs : List PyData} : (enD xs).length = xs.length := by
  unfold enD
  rw [List.length_map, List.length_zipIdx]
theorem it_enT {K : PySem.W.Frag} {p a : Addr} {vs : List V} {ds : List PyData} : ItOk p (EtT K a) (AT a vs ds) (enD ds) true where
  st := fun N N' H H' f k h => h.fit f
  stop := fun N H h => ⟨vs, SqT.rd h.2.1, by rw [enD_len]; exact h.2.2.length⟩
  go := fun N H i d ha h hd => by
    obtain ⟨x, hx, rfl⟩ := enD_at hd
    obtain ⟨v, hv, dv⟩ := h.2.2.at_ hx
    refine ⟨⟨vs, v, SqT.rd h.2.1, hv⟩, fun z H' ⟨T, x', e, hT, eH, q⟩ => ?_⟩
    subst e eH
    have r := q vs (SqT.rd h.2.1)
    rw [hv] at r
    cases r
    exact ⟨same_new hT, dn_pair ha hT (.int _) dv⟩
def xiE (a : XA) : XI := ⟨fun ε K => a.run ε fun rs ε1 => ∃ ds, sees rs = some [.tuple ds] ∧ K (enD ds) true ε1, fun h q => a.mono (fun _ _ ⟨ds, e, k⟩ => ⟨ds, e, h _ _ _ k⟩) q⟩
theorem xi_en {X : Cx} {e : Expr} {p pos tpos : Pos} {a : XA} {elts : List Expr} {kk : Nat} (hg : Gl X "enumerate") (hm : X.mg "enumerate" = none) (h : PA X [e] (upA a)) (hs : starEach [e] X.env = [(false, eval e X.env)] := by rfl) : PI X (.Tuple elts kk tpos) (.Call (.Name "enumerate" p) [e] [] pos) (upI (xiE a)) :=
  pi_wk (pi_enumT hg hm h hs) fun σ H R ⟨Γ, ε, T, R0, k⟩ => upA1 R0 k fun rs xs ε1 T1 H1 ⟨ds, e1, g⟩ R1 s1 d1 => by
    obtain ⟨v, rfl, h⟩ := see1 (d1.see e1)
    obtain ⟨b, vs, rfl, h1, h2, h3, h4⟩ := h.tup
    cases h4 with
    | tup n h z q => exact ⟨b, rfl, ⟨vs, SqT.rd h1⟩, g _ _ T1 H1 R1 s1 it_enT ⟨n, h1, h3⟩⟩
end Cs
set_option maxHeartbeats 4000000
/-! Targets, comprehensions over data. -/
namespace Cs
open PySem L2 PyProof.Rows
def wipeA (ε : List AV) : List Nat → List AV
  | [] => ε
  | v :: vs => (wipeA ε vs).set v .u
theorem wipeA_len {ε : List AV} : ∀ {vs : List Nat}, (wipeA ε vs).length = ε.length
  | [] => rfl
  | v :: vs => by
    show ((wipeA ε vs).set v .u).length = _
    rw [List.length_set, wipeA_len]
theorem wipeA_in {ε : List AV} {i : Nat} {e : AV} : ∀ {vs : List Nat}, i ∈ vs → (wipeA ε vs)[i]? = some e → e = .u
  | v :: vs, h, q => by
    have q' : ((wipeA ε vs).set v .u)[i]? = some e := q
    by_cases z : v = i
    · subst z
      rw [List.getElem?_set] at q'
      rw [if_pos rfl] at q'
      split at q'
      · cases q'; rfl
      · cases q'
    · rw [List.getElem?_set_ne z] at q'
      rcases List.mem_cons.mp h with h | h
      · exact absurd h.symm z
      · exact wipeA_in h q'
theorem wipeA_out {ε : List AV} {i : Nat} : ∀ {vs : List Nat}, i ∉ vs → (wipeA ε vs)[i]? = ε[i]?
  | [], _ => rfl
  | v :: vs, h => by
    show ((wipeA ε vs).set v .u)[i]? = _
    rw [List.getElem?_set_ne (fun z : v = i => h (z ▸ List.mem_cons_self)), wipeA_out fun z => h (List.mem_cons_of_mem _ z)]
theorem wipe_out {σ : L2.St} {i : Nat} : ∀ {vs : List Nat}, i ∉ vs → (wipe σ vs)[i]? = σ[i]?
  | [], _ => rfl
  | v :: vs, h => by
    show ((wipe σ vs).set v none)[i]? = _
    rw [List.getElem?_set_ne (fun z : v = i => h (z ▸ List.mem_cons_self)), wipe_out fun z => h (List.mem_cons_of_mem _ z)]
section
variable {Γ : Ga} {ε : List AV} {T : Addr → Prop} {σ τ : L2.St} {H H2 : Hp} {vs : List Nat}
/-- what is known with some slots forgotten, of a state that is the same at the others -/
theorem Rep.forget (R : Rep Γ ε T σ H) (hl : τ.length = σ.length) (h : ∀ i, i ∉ vs → τ[i]? = σ[i]?) : Rep Γ (wipeA ε vs) T τ H ∧ ∀ a, Mx Γ (wipeA ε vs) T τ a → Mx Γ ε T σ a := by
  have out : ∀ {i : Nat} {xs : List PyData}, (wipeA ε vs)[i]? = some (.l xs) → i ∉ vs ∧ ε[i]? = some (.l xs) := fun {i xs} q => by
    by_cases z : i ∈ vs
    · cases wipeA_in z q
    · rw [wipeA_out z] at q
      exact ⟨z, q⟩
  have own : ∀ a, OwnS (wipeA ε vs) τ a → OwnS ε σ a := by
    rintro a ⟨i, xs, q1, q2⟩
    obtain ⟨z, q1⟩ := out q1
    rw [h i z] at q2
    exact ⟨i, xs, q1, q2⟩
  have mx : ∀ a, Mx Γ (wipeA ε vs) T τ a → Mx Γ ε T σ a := by
    rintro a (z | z | z)
    · exact .inl z
    · exact .inr (.inl (own a z))
    · exact .inr (.inr z)
  refine ⟨⟨by rw [wipeA_len, hl, R.ln], R.pm, R.hp, R.hp0, R.ext, R.ml, fun a ha => ?_, fun i j xs ys h1 h2 e => ?_, fun i e q => ?_, Γ.fst _ _ _ _ (Fit2.less mx) R.fr, R.tz⟩, mx⟩
  · obtain ⟨t1, t2, t3⟩ := R.tmp a ha
    exact ⟨t1, t2, fun z => t3 (own a z)⟩
  · obtain ⟨z1, h1⟩ := out h1
    obtain ⟨z2, h2⟩ := out h2
    rw [h i z1, h j z2] at e
    exact R.dis i j xs ys h1 h2 e
  · by_cases z : i ∈ vs
    · rw [wipeA_in z q]
      trivial
    · rw [wipeA_out z] at q
      rw [h i z]
      exact (R.sl i e q).go (Fit2.less mx) (fun _ h => h) (fun _ _ _ _ _ h => h)
/-- data put into a slot -/
theorem Rep.put {i : Nat} {e : AV} {v : V} (R : Rep Γ ε T σ H) (h : Slot Γ (Mx Γ ε T σ) H e (some (some v))) (hn : ∀ xs, e ≠ .l xs) : Rep Γ (ε.set i e) T (σ.set i (some v)) H ∧ ∀ a, Mx Γ (ε.set i e) T (σ.set i (some v)) a → Mx Γ ε T σ a := by
  have out : ∀ {j : Nat} {xs : List PyData}, (ε.set i e)[j]? = some (.l xs) → i ≠ j ∧ ε[j]? = some (.l xs) := fun {j xs} q => by
    by_cases z : i = j
    · subst z
      rw [List.getElem?_set, if_pos rfl] at q
      split at q
      · cases q
        exact absurd rfl (hn xs)
      · cases q
    · rw [List.getElem?_set_ne z] at q
      exact ⟨z, q⟩
  have own : ∀ a, OwnS (ε.set i e) (σ.set i (some v)) a → OwnS ε σ a := by
    rintro a ⟨j, xs, q1, q2⟩
    obtain ⟨z, q1⟩ := out q1
    rw [List.getElem?_set_ne z] at q2
    exact ⟨j, xs, q1, q2⟩
  have mx : ∀ a, Mx Γ (ε.set i e) T (σ.set i (some v)) a → Mx Γ ε T σ a := by
    rintro a (z | z | z)
    · exact .inl z
    · exact .inr (.inl (own a z))
    · exact .inr (.inr z)
  refine ⟨⟨by rw [List.length_set, List.length_set, R.ln], R.pm, R.hp, R.hp0, R.ext, R.ml, fun a ha => ?_, fun k j xs ys h1 h2 q => ?_, fun j e' q => ?_, Γ.fst _ _ _ _ (Fit2.less mx) R.fr, R.tz⟩, mx⟩
  · obtain ⟨t1, t2, t3⟩ := R.tmp a ha
    exact ⟨t1, t2, fun z => t3 (own a z)⟩
  · obtain ⟨z1, h1⟩ := out h1
    obtain ⟨z2, h2⟩ := out h2
    rw [List.getElem?_set_ne z1, List.getElem?_set_ne z2] at q
    exact R.dis k j xs ys h1 h2 q
  · by_cases z : i = j
    · subst z
      rw [List.getElem?_set, if_pos rfl] at q
      split at q
      · rename_i hi
        cases q
        rw [List.getElem?_set_self (by rw [← R.ln]; exact hi)]
        exact h.go (Fit2.less mx) (fun _ h => h) (fun _ _ _ _ _ h => h)
      · cases q
    · rw [List.getElem?_set_ne z] at q
      rw [List.getElem?_set_ne z]
      exact (R.sl j e' q).go (Fit2.less mx) (fun _ h => h) (fun _ _ _ _ _ h => h)
/-- a temporary list changed -/
theorem Rep.mutT {a : Addr} {ys zs : List V} (R : Rep Γ ε T σ H) (ha : T a) (hy : H a = some (.lst ys)) : Rep Γ ε T σ (upd H a (.lst zs)) := by
  obtain ⟨t1, t2, t3⟩ := R.tmp a ha
  have ne : a ≠ Γ.p := tmp_p R ha
  have k : ∀ b o, ¬ Mx Γ ε T σ b → H b = some o → upd H a (.lst zs) b = some o := fun b o n h => by
    rw [upd_ne (fun e : b = a => n (e ▸ .inr (.inr ha)))]
    exact h
  have f : Fit2 (Mx Γ ε T σ) (Mx Γ ε T σ) H (upd H a (.lst zs)) := ⟨fun _ h => .inl h, k⟩
  refine ⟨R.ln, R.pm, ?_, R.hp0, fun b o n h => ?_, R.ml, fun b hb => ?_, R.dis, fun i e q => (R.sl i e q).go f (fun n h => h.put ne) (fun xs b e1 e2 o h => ?_), Γ.fst _ _ _ _ f R.fr, tabs_exb R.tz hy fun b o nb h => by rw [upd_ne nb]; exact h⟩
  · obtain ⟨o, h⟩ := R.hp
    exact ⟨o, by rw [upd_ne ne.symm]; exact h⟩
  · rw [upd_ne (ne_of_none h t1)]
    exact R.ext b o n h
  · obtain ⟨u1, ⟨ws, u2⟩, u3⟩ := R.tmp b hb
    refine ⟨u1, ?_, u3⟩
    by_cases z : b = a
    · subst z
      exact ⟨zs, upd_same⟩
    · exact ⟨ws, by rw [upd_ne z]; exact u2⟩
  · subst e1
    have : b ≠ a := by
      rintro rfl
      exact t3 ⟨i, xs, q, e2⟩
    rw [upd_ne this]
    exact h
end
/-! ### targets -/
structure XG where
  is : List Nat
  run : PyData → List AV → (List AV → Prop) → Prop
  mono : ∀ {d : PyData} {ε : List AV} {K K' : List AV → Prop}, (∀ e, K e → K' e) → run d ε K → run d ε K'
  prog : ∀ {d : PyData} {ε : List AV} {K : List AV → Prop}, run d ε K → ∃ e, K e
structure XGs where
  is : List Nat
  run : List PyData → List AV → (List AV → Prop) → Prop
  mono : ∀ {d : List PyData} {ε : List AV} {K K' : List AV → Prop}, (∀ e, K e → K' e) → run d ε K → run d ε K'
  prog : ∀ {d : List PyData} {ε : List AV} {K : List AV → Prop}, run d ε K → ∃ e, K e
  len : Nat
  lenOk : ∀ {d : List PyData} {ε : List AV} {K : List AV → Prop}, run d ε K → d.length = len
def GK (Γ : Ga) (ε : List AV) (T : Addr → Prop) (σ : L2.St) (H : Hp) (is : List Nat) (Q : L2.St → Hp → Prop) (ε' : List AV) : Prop :=
  ∀ σ', Rep Γ ε' T σ' H → (∀ a, Mx Γ ε' T σ' a → Mx Γ ε T σ a) → σ'.length = σ.length → (∀ i, i ∉ is → σ'[i]? = σ[i]?) → Q σ' H
def upG (g : XG) : TG := fun v σ H Q => ∃ Γ ε T d, Rep Γ ε T σ H ∧ Dn (Mx Γ ε T σ) H v d ∧ g.run d ε (GK Γ ε T σ H g.is Q)
def upGs (g : XGs) : TGs := fun vs σ H Q => ∃ Γ ε T ds, Rep Γ ε T σ H ∧ DnA (Mx Γ ε T σ) H vs ds ∧ g.run ds ε (GK Γ ε T σ H g.is Q)
theorem pg_wk {X : Cx} {tg : Expr} {t t' : TG} (h : PG X tg t) (w : ∀ v σ H Q, t' v σ H Q → t v σ H Q) : PG X tg t' := ⟨fun pins s σ H v u Q I r q => h.run pins s σ H v u Q I r (w v σ H Q q)⟩
theorem pgs_wk {X : Cx} {tg : List Expr} {t t' : TGs} (h : PGs X tg t) (w : ∀ v σ H Q, t' v σ H Q → t v σ H Q) : PGs X tg t' := ⟨fun pins s σ H v u Q I r q => h.run pins s σ H v u Q I r (w v σ H Q q)⟩
def xgN (i : Nat) : XG := ⟨[i], fun d ε K => K (ε.set i (.d d)), fun h k => h _ k, fun k => ⟨_, k⟩⟩
def xgNil : XGs := ⟨[], fun ds ε K => ds = [] ∧ K ε, fun h k => ⟨k.1, h _ k.2⟩, fun k => ⟨_, k.2⟩, 0, fun k => by rw [k.1]; rfl⟩
def xgCons (g : XG) (gs : XGs) : XGs := ⟨g.is ++ gs.is, fun ds ε K => ∃ d r, ds = d :: r ∧ g.run d ε fun ε1 => gs.run r ε1 K, fun h ⟨d, r, e, k⟩ => ⟨d, r, e, g.mono (fun _ q => gs.mono (fun _ w => h _ w) q) k⟩, fun ⟨d, r, e, k⟩ => (g.prog k).elim fun _ q => gs.prog q, gs.len + 1, fun ⟨d, r, e, k⟩ => (g.prog k).elim fun _ q => by rw [e, List.length_cons, gs.lenOk q]⟩
def xgT (gs : XGs) : XG := ⟨gs.is, fun d ε K => ∃ ds, d = .tuple ds ∧ gs.run ds ε K, fun h ⟨ds, e, k⟩ => ⟨ds, e, gs.mono h k⟩, fun ⟨ds, e, k⟩ => gs.prog k⟩
theorem GK.nest {Γ : Ga} {ε ε1 : List AV} {T : Addr → Prop} {σ σ1 : L2.St} {H : Hp} {is js : List Nat} {Q : L2.St → Hp → Prop} {e : List AV} (mx : ∀ a, Mx Γ ε1 T σ1 a → Mx Γ ε T σ a) (hl : σ1.length = σ.length) (hs : ∀ i, i ∉ is → σ1[i]? = σ[i]?)
    (k : GK Γ ε T σ H (is ++ js) Q e) : GK Γ ε1 T σ1 H js Q e := fun σ2 R2 m2 l2 h2 => k σ2 R2 (fun a z => mx a (m2 a z)) (l2.trans hl) fun i hi => by
  rw [h2 i fun z => hi (List.mem_append_right _ z), hs i fun z => hi (List.mem_append_left _ z)]
theorem xg_n {X : Cx} {tg : Expr} {i : Nat} (h : PG X tg (gName i)) : PG X tg (upG (xgN i)) := pg_wk h fun v σ H Q ⟨Γ, ε, T, d, R, dn, k⟩ => by
  obtain ⟨R', mx⟩ := R.put (i := i) (e := .d d) (v := v) ⟨v, rfl, dn⟩ (fun _ => nofun)
  exact k _ R' mx List.length_set fun j hj => by rw [List.getElem?_set_ne fun z : i = j => hj (z ▸ List.mem_cons_self)]
theorem xgs_nil {X : Cx} : PGs X [] (upGs xgNil) := pgs_wk pgs_nil fun vs σ H Q ⟨Γ, ε, T, ds, R, dn, e, k⟩ => by
  subst e
  cases dn
  exact ⟨rfl, k σ R (fun _ h => h) rfl fun _ _ => rfl⟩
theorem xgs_cons {X : Cx} {e : Expr} {es : List Expr} {g : XG} {gs : XGs} (h1 : PG X e (upG g)) (h2 : PGs X es (upGs gs)) (hs : (assignEach (e :: es) X.env).map (·.2) = assign e X.env :: (assignEach es X.env).map (·.2) := by rfl) : PGs X (e :: es) (upGs (xgCons g gs)) :=
  pgs_wk (pgs_cons h1 h2 hs) fun vs σ H Q ⟨Γ, ε, T, ds, R, dn, d, r, e, k⟩ => by
    subst e
    cases dn with
    | cons dn t =>
      refine ⟨_, _, rfl, Γ, ε, T, d, R, dn, g.mono (fun ε1 q σ1 R1 m1 l1 s1 => ?_) k⟩
      exact ⟨Γ, ε1, T, r, R1, t.go (Fit2.less m1), gs.mono (fun ε2 w => w.nest m1 l1 s1) q⟩
theorem xg_t {X : Cx} {K : PySem.W.Frag} {tg : Expr} {gs : XGs} (h : PG X tg (gTup K gs.len (upGs gs))) : PG X tg (upG (xgT gs)) := pg_wk h fun v σ H Q ⟨Γ, ε, T, d, R, dn, ds, e, k⟩ => by
  subst e
  cases dn with
  | @tup a xs _ n h z r => exact ⟨a, xs, rfl, SqT.rd h, by rw [r.length]; exact gs.lenOk k, Γ, ε, T, ds, R, r, k⟩
/-! ### comprehensions -/
def xYes : XT := ⟨fun ε K => K true ε, fun h k => h _ _ k⟩
theorem pts_wk {X : Cx} {ifs : List Expr} {t t' : TT} (h : PTs X ifs t) (w : ∀ σ H Q, t' σ H Q → t σ H Q) : PTs X ifs t' := ⟨fun pins s σ H Q I q => h.run pins s σ H Q I (w σ H Q q)⟩
theorem xts_nil {X : Cx} : PTs X [] (upT xYes) := pts_wk pts_nil fun σ H Q ⟨Γ, ε, T, R, k⟩ => k T H R (.refl R)
theorem xts_one {X : Cx} {c : Expr} {t : XT} (h : PT X c (upT t)) : PTs X [c] (upT t) := pts_one h
/-- one turn -/
def lcTurn (g : XG) (tt : XT) (te : XE) (vs : List Nat) (d : PyData) (ε : List AV) (Y : PyData → List AV → Prop) (Nn : List AV → Prop) : Prop :=
  g.run d ε fun ε2 => tt.run ε2 fun b ε3 => if b = true then te.run ε3 fun r ε4 => ∃ x, r.kp = some x ∧ Y x (wipeA ε4 vs) else Nn (wipeA ε3 vs)
@[irreducible] def xLc (it : XI) (g : XG) (tt : XT) (te : XE) (vs : List Nat) : XE := ⟨fun ε K => it.run ε fun ds fl ε1 => ds.length ≤ 1000 ∧ ∃ W : Nat → List PyData → List AV → Prop, (∃ e, W 0 [] (wipeA e vs) ∧ wipeA e vs = wipeA ε1 vs) ∧
    (∀ acc e, W ds.length acc (wipeA e vs) → K (.f acc) (wipeA e vs)) ∧
    ∀ i d acc e, ds[i]? = some d → W i acc (wipeA e vs) → lcTurn g tt te vs d (wipeA e vs) (fun x e' => W (i + 1) (acc ++ [x]) e') fun e' => W (i + 1) acc e',
  fun h q => it.mono (fun ds fl ε1 ⟨l, W, w0, wn, ws⟩ => ⟨l, W, w0, fun acc e w => h _ _ (wn acc e w), ws⟩) q⟩
theorem xLc_run {it : XI} {g : XG} {tt : XT} {te : XE} {vs : List Nat} {ε : List AV} {K : RV → List AV → Prop} : (xLc it g tt te vs).run ε K = it.run ε fun ds fl ε1 => ds.length ≤ 1000 ∧ ∃ W : Nat → List PyData → List AV → Prop, (∃ e, W 0 [] (wipeA e vs) ∧ wipeA e vs = wipeA ε1 vs) ∧
    (∀ acc e, W ds.length acc (wipeA e vs) → K (.f acc) (wipeA e vs)) ∧
    ∀ i d acc e, ds[i]? = some d → W i acc (wipeA e vs) → lcTurn g tt te vs d (wipeA e vs) (fun x e' => W (i + 1) (acc ++ [x]) e') fun e' => W (i + 1) acc e' := by
  unfold xLc
  rfl
theorem xe_lcT {it : XI} {g : XG} {tt : XT} {te : XE} {vs : List Nat} {σ : L2.St} {H : Hp} {Q : VK} (hv : ∀ i ∈ g.is, i ∈ vs) (h : up (xLc it g tt te vs) σ H Q) : tLc (upI it) (upG g) (upT tt) (up te) vs σ H Q := by
  obtain ⟨Γ, ε, T, R, k⟩ := h
  rw [xLc_run] at k
  refine ⟨Γ, ε, T, R, it.mono (fun ds fl ε1 q J A T1 H1 R1 s1 ok ha D hD => ?_) k⟩
  obtain ⟨hl, W, ⟨e0, w0, z0⟩, wn, ws⟩ := q
  have nD : ¬ Mx Γ ε1 T1 σ D := R1.not_x hD
  have RT : Rep Γ ε1 (fun a => T1 a ∨ a = D) σ (upd H1 D (.lst [])) := R1.temp hD
  have sN := same_new (o := .lst ([] : List V)) hD
  generalize hT1 : (fun a => T1 a ∨ a = D) = T2 at RT
  have hT : T2 D := by rw [← hT1]; exact .inr rfl
  have sub : ∀ a, T1 a → T2 a := fun a h => by rw [← hT1]; exact .inl h
  have m0 : ∀ a, Mx Γ (wipeA ε1 vs) T2 σ a → Mx Γ ε1 T1 σ a ∨ H1 a = none := fun a z => by
    have := (R1.forget (vs := vs) (τ := σ) rfl fun _ _ => rfl).2 a
    rcases z with z | z | z
    · exact .inl (.inl z)
    · exact .inl (this (.inr (.inl z)))
    · rw [← hT1] at z
      rcases z with z | rfl
      · exact .inl (.inr (.inr z))
      · exact .inr hD
  refine ⟨fun i m H => m = ds.length - i ∧ i ≤ ds.length ∧ ∃ acc e ys, W i acc (wipeA e vs) ∧ acc.length ≤ i ∧ Rep Γ (wipeA e vs) T2 σ H ∧ Stp Γ ε1 T1 (wipeA e vs) T2 σ H1 H ∧ H D = some (.lst ys) ∧ DnA (Mx Γ (wipeA e vs) T2 σ) H ys acc,
    ⟨ds.length, by simp, Nat.zero_le _, [], e0, [], w0, Nat.le_refl _, ?_, ?_, upd_same, .nil⟩, ?_⟩
  · rw [z0]
    exact (RT.forget (vs := vs) (τ := σ) rfl fun _ _ => rfl).1
  · rw [z0]
    exact ⟨fun b o _ h => sN _ _ h, (R1.same sN).hp, (R1.same sN).tz, sub, m0⟩
  · rintro i m H2 ⟨rfl, hi, acc, e, ys, w, la, R2, s2, hd, dn⟩
    have ha2 : A (Mx Γ (wipeA e vs) T2 σ) H2 := ok.st _ _ _ _ (s2.fit R1.pm) (fun _ b o nb nt h => s2.k b o ⟨fun _ => nb, zp_not R1.tz h nt⟩ h) ha
    by_cases lt : i < ds.length
    · have hdi := List.getElem?_eq_getElem lt
      obtain ⟨go, yl⟩ := ok.go _ H2 i _ R2.alloc ha2 hdi
      refine .inr ⟨go, fun H' => i + 1 ≤ ds.length ∧ ∃ acc e ys, W (i + 1) acc (wipeA e vs) ∧ acc.length ≤ i + 1 ∧ Rep Γ (wipeA e vs) T2 σ H' ∧ Stp Γ ε1 T1 (wipeA e vs) T2 σ H1 H' ∧ H' D = some (.lst ys) ∧ DnA (Mx Γ (wipeA e vs) T2 σ) H' ys acc, fun H' p' => ⟨ds.length - (i + 1), by omega, rfl, p'.1, p'.2⟩, fun x H3 y => ?_⟩
      obtain ⟨s23, dx⟩ := yl x H3 y
      have R3 := R2.same s23
      have s3 := s2.same s23
      have hl3 : (wipe σ vs).length = σ.length := wipe_length σ vs
      have fo := R3.forget (vs := vs) (τ := wipe σ vs) hl3 fun i hi => wipe_out hi
      have ww : wipeA (wipeA e vs) vs = wipeA e vs := by
        refine List.ext_getElem? fun j => ?_
        by_cases z : j ∈ vs
        · cases q : (wipeA e vs)[j]? with
          | none =>
            rw [List.getElem?_eq_none_iff] at q ⊢
            rw [wipeA_len]
            exact q
          | some u =>
            cases q2 : (wipeA (wipeA e vs) vs)[j]? with
            | none =>
              rw [List.getElem?_eq_none_iff, wipeA_len] at q2
              have := (List.getElem?_eq_some_iff.mp q).1
              omega
            | some u2 => rw [wipeA_in z q, wipeA_in z q2]
        · rw [wipeA_out z]
      rw [ww] at fo
      obtain ⟨R4, m4⟩ := fo
      have hd3 := s23 _ _ hd
      have dn3 := dn.go (Fit2.same (N := Mx Γ (wipeA e vs) T2 σ) s23)
      refine ⟨Γ, wipeA e vs, T2, _, R4, dx.go (Fit2.less m4), g.mono (fun ε2 q σ2 R5 m5 l5 h5 => ?_) (ws i _ acc e hdi w)⟩
      have back : ∀ j, j ∉ vs → σ2[j]? = σ[j]? := fun j hj => by rw [h5 j fun z => hj (hv j z), wipe_out hj]
      have len5 : σ.length = σ2.length := by rw [l5, hl3]
      -- the end of a turn
      have fin : ∀ {ε4 : List AV} {H4 : Hp}, Rep Γ ε4 T2 σ2 H4 → Stp Γ ε2 T2 ε4 T2 σ2 H3 H4 → ∀ {acc' : List PyData} {ys' : List V}, W (i + 1) acc' (wipeA ε4 vs) → acc'.length ≤ i + 1 → DnA (Mx Γ ε4 T2 σ2) H4 ys' acc' →
          i + 1 ≤ ds.length ∧ ∃ acc e ys, W (i + 1) acc (wipeA e vs) ∧ acc.length ≤ i + 1 ∧ Rep Γ (wipeA e vs) T2 σ (upd H4 D (.lst ys')) ∧ Stp Γ ε1 T1 (wipeA e vs) T2 σ H1 (upd H4 D (.lst ys')) ∧ upd H4 D (.lst ys') D = some (.lst ys) ∧ DnA (Mx Γ (wipeA e vs) T2 σ) (upd H4 D (.lst ys')) ys acc := fun {ε4 H4} R6 s6 {acc' ys'} w' l' d' => by
        have hd4 := s6.k _ _ ⟨fun _ => tmp_p R5 hT, zp_not R5.tz hd3 nofun⟩ hd3
        have R7 := R6.mutT (zs := ys') hT hd4
        obtain ⟨R8, m8⟩ := R7.forget (vs := vs) (τ := σ) len5 fun j hj => (back j hj).symm
        have f7 : Fit2 (Mx Γ ε4 T2 σ2) (Mx Γ (wipeA ε4 vs) T2 σ) H4 (upd H4 D (.lst ys')) := ⟨fun a z => .inl (m8 a z), fun b o n h => by
          rw [upd_ne fun z : b = D => n (z ▸ .inr (.inr hT))]
          exact h⟩
        refine ⟨by omega, acc', ε4, ys', w', l', R8, ⟨fun b o n h => ?_, R8.hp, R8.tz, sub, fun a z => ?_⟩, upd_same, d'.go f7⟩
        · rw [upd_ne (ne_of_none h hD)]
          exact s6.k b o n (s23 _ _ (s2.k b o n h))
        · rcases s6.m a (m8 a z) with z | z
          · exact s2.m a (m4 a (m5 a z))
          · right
            exact (s2.same s23).none R1.hp z
      refine ⟨?_, Γ, ε2, T2, R5, tt.mono (fun b ε3 q3 T3 H4 R6 s6 => ?_) q⟩
      · refine List.ext_getElem? fun j => ?_
        by_cases z : j ∈ vs
        · have wn : ∀ {τ : L2.St} {vs : List Nat}, j ∈ vs → j < τ.length → (wipe τ vs)[j]? = some none := by
            intro τ vs hj hl
            induction vs with
            | nil => cases hj
            | cons v vs ih =>
              show ((wipe τ vs).set v none)[j]? = some none
              by_cases z : v = j
              · subst z
                exact List.getElem?_set_self (by rw [wipe_length]; exact hl)
              · rw [List.getElem?_set_ne z]
                rcases List.mem_cons.mp hj with h | h
                · exact absurd h.symm z
                · exact ih h
          by_cases lj : j < σ.length
          · rw [wn z (by rw [← len5]; exact lj), wn z lj]
          · rw [List.getElem?_eq_none_iff.mpr (by rw [wipe_length, ← len5]; omega), List.getElem?_eq_none_iff.mpr (by rw [wipe_length]; omega)]
        · rw [wipe_out z, wipe_out z, back j z]
      · split at q3
        · rw [if_pos (by assumption)]
          refine up1 R6 q3 fun r y ε4 T4 H5 ⟨x', ex, w'⟩ R7 s7 d7 => ?_
          have sA := s6.trans R5.hp s7
          have dy := (d7.early (H := H3) fun a => s6.none R5.hp).kept R5 R7 sA ex
          have R8 := R7.less (T' := T2) sA.t
          have s8 := sA.drop
          have hd5 := s8.k _ _ ⟨fun _ => tmp_p R5 hT, zp_not R5.tz hd3 nofun⟩ hd3
          have dn5 : DnA (Mx Γ ε4 T2 σ2) H5 ys acc := (dn3.go (Fit2.less fun a z => m4 a (m5 a z))).go (s8.fit R5.pm)
          refine ⟨ys, hd5, ?_, fin R8 s8 w' (by rw [List.length_append]; simp only [List.length_cons, List.length_nil]; omega) (dn5.append (.cons dy .nil))⟩
          rw [dn.length]
          exact Nat.lt_of_lt_of_le (by omega : acc.length < 1000) (by decide)
        · rw [if_neg (by assumption)]
          have R8 := R6.less (T' := T2) s6.t
          have s8 := s6.drop
          have hd5 := s8.k _ _ ⟨fun _ => tmp_p R5 hT, zp_not R5.tz hd3 nofun⟩ hd3
          have dn5 : DnA (Mx Γ ε3 T2 σ2) H4 ys acc := (dn3.go (Fit2.less fun a z => m4 a (m5 a z))).go (s8.fit R5.pm)
          have := fin R8 s8 q3 (by omega) dn5
          have same : upd H4 D (.lst ys) = H4 := by
            funext b
            unfold upd
            split
            · rename_i z; rw [z, hd5]
            · rfl
          rw [same] at this
          exact this
    · have e2 : i = ds.length := by omega
      subst e2
      refine .inl ⟨ok.stop _ H2 ha2, ?_⟩
      exact wn acc e w (.ref D) T2 H2 R2 (s1.trans R.hp s2) ⟨D, ys, rfl, s1.none R.hp hD, hT, hd, by rw [dn.length]; omega, dn⟩
section
variable {X : Cx} {elt tg iter : Expr} {ifs : List Expr} {scope : Scope} {own : List (Str × Nat)} {pos : Pos} {it : XI} {g : XG} {tt : XT} {te : XE}
theorem xe_lc (hc : X.calm = true) (hN : X.N.Nodup) (hi : PI X tg iter (upI it)) (ok : BlkOk X.N X.env.scope scope own)
    (hg : ∀ (s : Shared) (H : Hp) (C : Addr) (cl : List (Str × Addr)) (fp : List Addr), PG (X.blk s H scope (compEnvC scope cl C X.env) fp) tg (upG g)) (ht : ∀ (s : Shared) (H : Hp) (C : Addr) (cl : List (Str × Addr)) (fp : List Addr), PTs (X.blk s H scope (compEnvC scope cl C X.env) fp) ifs (upT tt))
    (he : ∀ (s : Shared) (H : Hp) (C : Addr) (cl : List (Str × Addr)) (fp : List Addr), PE (X.blk s H scope (compEnvC scope cl C X.env) fp) elt (up te)) (hv : ∀ i ∈ g.is, i ∈ own.map (·.2)) (hs : ∀ x, foldedSetIterable iter X.env x = pure x := by intro _; rfl) :
    PE X (.ListComp elt [⟨tg, iter, ifs, 0⟩] scope pos) (up (xLc it g tt te (own.map (·.2)))) := pe_wk (pe_lc hc hN hi ok hg ht he hs) fun _ _ _ h => xe_lcT hv h
end
end Cs
set_option maxHeartbeats 4000000
/-! Statements, calls, defs over data. -/
namespace Cs
open PySem L2 PyProof.Rows
abbrev TN : Addr → Prop := fun _ => False
structure XEnds where
  nx : List AV → Prop
  rt : RV → List AV → Prop
  bk : List AV → Prop := fun _ => False
  ct : List AV → Prop := fun _ => False
structure XS where
  run : XEnds → List AV → Prop
  mono : ∀ {D D' : XEnds} {ε : List AV}, (∀ e, D.nx e → D'.nx e) → (∀ r e, D.rt r e → D'.rt r e) → (∀ e, D.bk e → D'.bk e) → (∀ e, D.ct e → D'.ct e) → run D ε → run D' ε
def upD (Γ : Ga) (D : Ends) : XEnds where
  nx := fun ε' => ∀ σ' H', Rep Γ ε' TN σ' H' → D.nx σ' H'
  rt := fun r ε' => ∀ v σ' T' H', Rep Γ ε' T' σ' H' → Den Γ ε' T' σ' Γ.H0 r v H' → D.rt v H'
  bk := fun ε' => ∀ σ' H', Rep Γ ε' TN σ' H' → D.bk σ' H'
  ct := fun ε' => ∀ σ' H', Rep Γ ε' TN σ' H' → D.ct σ' H'
def upS (t : XS) : TS := fun D σ H => ∃ Γ ε, Rep Γ ε TN σ H ∧ t.run (upD Γ D) ε
theorem ps_wk {X : Cx} {st : Stmt} {t t' : TS} (h : PS X st t) (w : ∀ D σ H, t' D σ H → t D σ H) : PS X st t' := ⟨fun pins s σ H D I q => h.run pins s σ H D I (w D σ H q)⟩
theorem pss_wk {X : Cx} {st : List Stmt} {t t' : TS} (h : PSs X st t) (w : ∀ D σ H, t' D σ H → t D σ H) : PSs X st t' := ⟨fun pins s σ H D I q => h.run pins s σ H D I (w D σ H q)⟩
theorem Rep.nil {Γ : Ga} {ε : List AV} {T : Addr → Prop} {σ : L2.St} {H : Hp} (R : Rep Γ ε T σ H) : Rep Γ ε TN σ H := R.less fun _ h => h.elim
def xNext : XS := ⟨fun D ε => D.nx ε, fun h _ _ _ q => h _ q⟩
def xSeq (t u : XS) : XS := ⟨fun D ε => t.run { D with nx := u.run D } ε, fun {D D' ε} h1 h2 h3 h4 q => t.mono (D := { D with nx := u.run D }) (D' := { D' with nx := u.run D' }) (fun _ w => u.mono h1 h2 h3 h4 w) h2 h3 h4 q⟩
def xNev : XS := ⟨fun _ _ => False, fun _ _ _ _ q => q⟩
theorem xss_nil {X : Cx} : PSs X [] (upS xNext) := pss_wk pss_nil fun D σ H ⟨Γ, ε, R, k⟩ => k σ H R
theorem xss_cons {X : Cx} {st : Stmt} {rest : List Stmt} {t u : XS} (h1 : PS X st (upS t)) (h2 : PSs X rest (upS u)) : PSs X (st :: rest) (upS (xSeq t u)) := pss_wk (pss_cons h1 h2) fun D σ H ⟨Γ, ε, R, k⟩ =>
  ⟨Γ, ε, R, t.mono (D := { upD Γ D with nx := u.run (upD Γ D) }) (D' := upD Γ { D with nx := upS u D }) (fun e q σ' H' R' => ⟨Γ, e, R', q⟩) (fun _ _ q => q) (fun _ q => q) (fun _ q => q) k⟩
theorem xss_one {X : Cx} {st : Stmt} {t : XS} (h1 : PS X st (upS t)) : PSs X [st] (upS t) := pss_one h1
theorem xs_nev {X : Cx} {st : Stmt} : PS X st (upS xNev) := ⟨fun _ _ _ _ _ _ ⟨_, _, _, h⟩ => h.elim⟩
theorem xs_pass {X : Cx} {pos : Pos} : PS X (.Pass pos) (upS xNext) := ps_wk ps_pass fun D σ H ⟨Γ, ε, R, k⟩ => k σ H R
def xBrk : XS := ⟨fun D ε => D.bk ε, fun _ _ h _ q => h _ q⟩
def xCnt : XS := ⟨fun D ε => D.ct ε, fun _ _ _ h q => h _ q⟩
theorem xs_break {X : Cx} {pos : Pos} : PS X (.Break pos) (upS xBrk) := ps_wk ps_break fun D σ H ⟨Γ, ε, R, k⟩ => k σ H R
theorem xs_cont {X : Cx} {pos : Pos} : PS X (.Continue pos) (upS xCnt) := ps_wk ps_continue fun D σ H ⟨Γ, ε, R, k⟩ => k σ H R
def xDrop (t : XE) : XS := ⟨fun D ε => t.run ε fun _ ε1 => D.nx ε1, fun h _ _ _ q => t.mono (fun _ _ w => h _ w) q⟩
theorem xs_expr {X : Cx} {e : Expr} {pos : Pos} {t : XE} (he : PE X e (up t)) (hs : swapsWith e none pos.line X.env = pure false := by rfl) : PS X (.Expr e pos) (upS (xDrop t)) := ps_wk (ps_expr he hs) fun D σ H ⟨Γ, ε, R, k⟩ =>
  up1 R k fun r x ε1 T1 H1 g R1 s1 d1 => g σ H1 R1.nil
def xRet (t : XE) : XS := ⟨fun D ε => t.run ε fun r ε1 => D.rt r ε1, fun _ h _ _ q => t.mono (fun _ _ w => h _ _ w) q⟩
theorem Rep.first {Γ : Ga} {ε : List AV} {T : Addr → Prop} {σ : L2.St} {H : Hp} (R : Rep Γ ε T σ H) {a : Addr} (h : H a = none) : Γ.H0 a = none := R.fresh h
theorem xs_ret {X : Cx} {e : Expr} {pos : Pos} {t : XE} (he : PE X e (up t)) : PS X (.Return (some e) pos) (upS (xRet t)) := ps_wk (ps_ret he) fun D σ H ⟨Γ, ε, R, k⟩ =>
  up1 R k fun r x ε1 T1 H1 g R1 s1 d1 => g x σ T1 H1 R1 (d1.early fun a h => R.fresh h)
def xRetN : XS := ⟨fun D ε => D.rt (.d .none) ε, fun _ h _ _ q => h _ _ q⟩
theorem xs_retN {X : Cx} {pos : Pos} : PS X (.Return none pos) (upS xRetN) := ps_wk ps_retN fun D σ H ⟨Γ, ε, R, k⟩ => k .non σ TN H R .non
def xIfS (c : XT) (t u : XS) : XS := ⟨fun D ε => c.run ε fun b ε1 => if b = true then t.run D ε1 else u.run D ε1, fun h1 h2 h3 h4 q => c.mono (fun b _ w => by
  split at w
  · rw [if_pos (by assumption)]
    exact t.mono h1 h2 h3 h4 w
  · rw [if_neg (by assumption)]
    exact u.mono h1 h2 h3 h4 w) q⟩
theorem xs_if {X : Cx} {c : Expr} {a b : List Stmt} {pos : Pos} {tc : XT} {t u : XS} (hc : PT X c (upT tc)) (ha : PSs X a (upS t)) (hb : PSs X b (upS u)) : PS X (.If c a b pos) (upS (xIfS tc t u)) := ps_wk (ps_if hc ha hb) fun D σ H ⟨Γ, ε, R, k⟩ =>
  upT1 R k fun b ε1 T1 H1 g R1 s1 => by
    split at g
    · rw [if_pos (by assumption)]
      exact ⟨Γ, ε1, R1.nil, g⟩
    · rw [if_neg (by assumption)]
      exact ⟨Γ, ε1, R1.nil, g⟩
/-! ### names set -/
def setR : Bool → RV → Option AV
  | false, .d x => some (.d x)
  | false, .f xs => some (.d (.list xs))
  | false, .o P => some (.o P)
  | true, .f xs => some (.l xs)
  | _, _ => none
section
variable {Γ : Ga} {ε ε0 : List AV} {T T0 : Addr → Prop} {σ : L2.St} {H H2 : Hp}
/-- a new list put into a slot for itself -/
theorem Rep.putL {i : Nat} {a : Addr} {vs : List V} {xs : List PyData} (R : Rep Γ ε T σ H) (ha : T a) (hv : H a = some (.lst vs)) (hl : vs.length ≤ 1000) (dn : DnA (Mx Γ ε T σ) H vs xs) : Rep Γ (ε.set i (.l xs)) (fun b => T b ∧ b ≠ a) (σ.set i (some (.ref a))) H ∧ ∀ b, Mx Γ (ε.set i (.l xs)) (fun b => T b ∧ b ≠ a) (σ.set i (some (.ref a))) b → Mx Γ ε T σ b := by
  obtain ⟨t1, t2, t3⟩ := R.tmp a ha
  have out : ∀ {j : Nat} {ys : List PyData}, (ε.set i (.l xs))[j]? = some (.l ys) → (i ≠ j ∧ ε[j]? = some (.l ys)) ∨ (i = j ∧ i < ε.length ∧ ys = xs) := fun {j ys} q => by
    by_cases z : i = j
    · subst z
      rw [List.getElem?_set, if_pos rfl] at q
      split at q
      · rename_i hi
        cases q
        exact .inr ⟨rfl, hi, rfl⟩
      · cases q
    · rw [List.getElem?_set_ne z] at q
      exact .inl ⟨z, q⟩
  have at_i : i < ε.length → (σ.set i (some (V.ref a)))[i]? = some (some (.ref a)) := fun hi => List.getElem?_set_self (by rw [← R.ln]; exact hi)
  have own : ∀ b, OwnS (ε.set i (.l xs)) (σ.set i (some (.ref a))) b → OwnS ε σ b ∨ b = a := by
    rintro b ⟨j, ys, q1, q2⟩
    rcases out q1 with ⟨z, q1⟩ | ⟨rfl, hi, rfl⟩
    · rw [List.getElem?_set_ne z] at q2
      exact .inl ⟨j, ys, q1, q2⟩
    · rw [at_i hi] at q2
      cases q2
      exact .inr rfl
  have mx : ∀ b, Mx Γ (ε.set i (.l xs)) (fun b => T b ∧ b ≠ a) (σ.set i (some (.ref a))) b → Mx Γ ε T σ b := by
    rintro b (z | z | z)
    · exact .inl z
    · rcases own b z with z | rfl
      · exact .inr (.inl z)
      · exact .inr (.inr ha)
    · exact .inr (.inr z.1)
  refine ⟨⟨by rw [List.length_set, List.length_set, R.ln], R.pm, R.hp, R.hp0, R.ext, R.ml, fun b hb => ?_, fun k j ys zs h1 h2 q => ?_, fun j e' q => ?_, Γ.fst _ _ _ _ (Fit2.less mx) R.fr, R.tz⟩, mx⟩
  · obtain ⟨u1, u2, u3⟩ := R.tmp b hb.1
    refine ⟨u1, u2, fun z => ?_⟩
    rcases own b z with z | z
    · exact u3 z
    · exact hb.2 z
  · rcases out h1 with ⟨z1, h1⟩ | ⟨rfl, hi, _⟩
    · rw [List.getElem?_set_ne z1] at q
      rcases out h2 with ⟨z2, h2⟩ | ⟨rfl, hi, _⟩
      · rw [List.getElem?_set_ne z2] at q
        exact R.dis k j ys zs h1 h2 q
      · rw [at_i hi] at q
        exact absurd ⟨k, ys, h1, q⟩ t3
    · rw [at_i hi] at q
      rcases out h2 with ⟨z2, h2⟩ | ⟨rfl, _, _⟩
      · rw [List.getElem?_set_ne z2] at q
        exact absurd ⟨j, zs, h2, q.symm⟩ t3
      · rfl
  · by_cases z : i = j
    · subst z
      rw [List.getElem?_set, if_pos rfl] at q
      split at q
      · rename_i hi
        cases q
        rw [at_i hi]
        exact ⟨a, vs, rfl, t1, hv, hl, dn.go (Fit2.less mx)⟩
      · cases q
    · rw [List.getElem?_set_ne z] at q
      rw [List.getElem?_set_ne z]
      exact (R.sl j e' q).go (Fit2.less mx) (fun _ h => h) (fun _ _ _ _ _ h => h)
/-- what is left of the temporary things when one result is stored -/
theorem Rep.store {i : Nat} {w : Bool} {r : RV} {v : V} {e : AV} (R : Rep Γ ε T σ H2) (d : Den Γ ε T σ H r v H2) (h : setR w r = some e) :
    ∃ T', (∀ b, T' b → T b) ∧ Rep Γ (ε.set i e) T' (σ.set i (some v)) H2 ∧ (∀ b, Mx Γ (ε.set i e) T' (σ.set i (some v)) b → Mx Γ ε T σ b) ∧ ∀ b, T b → T' b ∨ (∃ xs, r = .f xs ∧ v = .ref b) := by
  have drop : ∀ {a : Addr} {vs : List V} {xs : List PyData}, v = .ref a → H a = none → T a → H2 a = some (.lst vs) → vs.length ≤ 1000 → DnA (Mx Γ ε T σ) H2 vs xs → Rep Γ ε (fun b => T b ∧ b ≠ a) σ H2 ∧ Dn (Mx Γ ε (fun b => T b ∧ b ≠ a) σ) H2 v (.list xs) := fun {a vs xs} e h0 ha hv hl dn => by
    obtain ⟨t1, t2, t3⟩ := R.tmp a ha
    refine ⟨R.less fun _ h => h.1, ?_⟩
    subst e
    refine .lst ?_ hv hl (dn.go (Fit2.less fun _ => mx_less fun _ h => h.1))
    rintro (z | z | z)
    · exact not_M R t1 z
    · exact t3 z
    · exact z.2 rfl
  cases w with
  | false =>
    cases r with
    | d x =>
      cases h
      obtain ⟨R', mx⟩ := R.put (i := i) (e := .d x) (v := v) ⟨v, rfl, d⟩ (fun _ => nofun)
      exact ⟨T, fun _ h => h, R', mx, fun _ h => .inl h⟩
    | f xs =>
      cases h
      obtain ⟨a, vs, e, h0, ha, hv, hl, dn⟩ := d
      obtain ⟨R1, d1⟩ := drop e h0 ha hv hl dn
      obtain ⟨R', mx⟩ := R1.put (i := i) (e := .d (.list xs)) (v := v) ⟨v, rfl, d1⟩ (fun _ => nofun)
      refine ⟨_, fun _ h => h.1, R', fun b z => mx_less (fun _ h => h.1) (mx b z), fun b hb => ?_⟩
      by_cases z : b = a
      · subst z
        exact .inr ⟨xs, rfl, e⟩
      · exact .inl ⟨hb, z⟩
    | o P =>
      cases h
      obtain ⟨R', mx⟩ := R.put (i := i) (e := .o P) (v := v) ⟨v, rfl, d⟩ (fun _ => nofun)
      exact ⟨T, fun _ h => h, R', mx, fun _ h => .inl h⟩
    | b x => cases h
    | p => cases h
  | true =>
    cases r with
    | f xs =>
      cases h
      obtain ⟨a, vs, e, h0, ha, hv, hl, dn⟩ := d
      subst e
      obtain ⟨R', mx⟩ := R.putL (i := i) ha hv hl dn
      refine ⟨_, fun _ h => h.1, R', mx, fun b hb => ?_⟩
      by_cases z : b = a
      · subst z
        exact .inr ⟨xs, rfl, rfl⟩
      · exact .inl ⟨hb, z⟩
    | d x => cases h
    | o P => cases h
    | b x => cases h
    | p => cases h
end
def xSet (w : Bool) (i : Nat) (t : XE) : XS := ⟨fun D ε => t.run ε fun r ε1 => ∃ e, setR w r = some e ∧ D.nx (ε1.set i e), fun h _ _ _ q => t.mono (fun _ _ ⟨e, a, w⟩ => ⟨e, a, h _ w⟩) q⟩
theorem xs_asg {X : Cx} {st : Stmt} {w : Bool} {i : Nat} {t : XE} (h : PS X st (tAsg (up t) (gName i))) : PS X st (upS (xSet w i t)) := ps_wk h fun D σ H ⟨Γ, ε, R, k⟩ =>
  up1 R k fun r x ε1 T1 H1 ⟨e, he, g⟩ R1 s1 d1 => by
    obtain ⟨T', _, R', _⟩ := R1.store (i := i) (w := w) d1 he
    exact g _ H1 R'.nil
theorem xs_asgT {X : Cx} {st : Stmt} {w : Bool} {i : Nat} {it : XI} {g : XG} {tt : XT} {te : XE} {vs : List Nat} (h : PS X st (tAsg (tLc (upI it) (upG g) (upT tt) (up te) vs) (gName i))) (hv : ∀ i ∈ g.is, i ∈ vs) : PS X st (upS (xSet w i (xLc it g tt te vs))) :=
  xs_asg (ps_wk h fun D σ H q => xe_lcT hv q)
/-- a target of data -/
def xAsg (t : XE) (g : XG) : XS := ⟨fun D ε => t.run ε fun r ε1 => ∃ x, r.kp = some x ∧ g.run x ε1 D.nx, fun h _ _ _ q => t.mono (fun _ _ ⟨x, a, w⟩ => ⟨x, a, g.mono h w⟩) q⟩
theorem xs_tgt {X : Cx} {st : Stmt} {t : XE} {g : XG} (h : PS X st (tAsg (up t) (upG g))) : PS X st (upS (xAsg t g)) := ps_wk h fun D σ H ⟨Γ, ε, R, k⟩ =>
  up1 R k fun r x ε1 T1 H1 ⟨y, he, q⟩ R1 s1 d1 => ⟨Γ, ε1, TN, y, R1.nil, d1.kept R R1 s1 he, g.mono (fun e w σ' R' _ _ _ => w σ' H1 R') q⟩
/-- some names set to results, one after another -/
def setsR : List (Bool × Nat) → List RV → List AV → Option (List AV)
  | [], [], ε => some ε
  | (w, i) :: is, r :: rs, ε => match setR w r with
    | some e => setsR is rs (ε.set i e)
    | none => none
  | _, _, _ => none
def setsV : List (Bool × Nat) → List V → L2.St → L2.St
  | (_, i) :: is, v :: vs, σ => setsV is vs (σ.set i (some v))
  | _, _, σ => σ
def xSets (is : List (Bool × Nat)) (t : XA) : XS := ⟨fun D ε => t.run ε fun rs ε1 => ∃ ε2, setsR is rs ε1 = some ε2 ∧ D.nx ε2, fun h _ _ _ q => t.mono (fun _ _ ⟨e, a, w⟩ => ⟨e, a, h _ w⟩) q⟩
theorem sets_ok {Γ : Ga} {H H2 : Hp} : ∀ (is : List (Bool × Nat)) (rs : List RV) (vs : List V) (ε : List AV) (T : Addr → Prop) (σ : L2.St) (ε2 : List AV), Rep Γ ε T σ H2 → DenA Γ ε T σ H rs vs H2 → setsR is rs ε = some ε2 → ∃ T', Rep Γ ε2 T' (setsV is vs σ) H2
  | [], [], vs, ε, T, σ, ε2, R, d, e => by
    cases d
    cases e
    exact ⟨T, R⟩
  | (w, i) :: is, r :: rs, _, ε, T, σ, ε2, R, .cons (v := v) (vs := vs) d t ap, e => by
    unfold setsR at e
    split at e
    · rename_i e1 he
      obtain ⟨T', s1, R', mx, keep⟩ := R.store (i := i) (w := w) d he
      refine sets_ok (H := H) is rs vs _ T' _ ε2 R' ?_ e
      have f : Fit2 (Mx Γ ε T σ) (Mx Γ (ε.set i e1) T' (σ.set i (some v))) H2 H2 := Fit2.less mx
      have go : ∀ (rs : List RV) (vs : List V), (∀ xs a, r = .f xs → v = .ref a → ∀ (k : Nat) ys, rs[k]? = some (.f ys) → vs[k]? ≠ some (.ref a)) → DenA Γ ε T σ H rs vs H2 → DenA Γ (ε.set i e1) T' (σ.set i (some v)) H rs vs H2 := by
        intro rs
        induction rs with
        | nil => intro vs _ d; cases d; exact .nil
        | cons q rs ih =>
          intro vs ap d
          cases d with
          | @cons _ u _ us _ d t n =>
            refine .cons ?_ (ih us (fun xs a e1 e2 k ys h => ap xs a e1 e2 (k + 1) ys h) t) n
            cases q with
            | d x => exact Dn.go f d
            | f ys =>
              obtain ⟨a, ws, e1, h0, h1, h2, h3, h4⟩ := d
              refine ⟨a, ws, e1, h0, ?_, h2, h3, h4.go f⟩
              rcases keep a h1 with z | ⟨xs, z1, z2⟩
              · exact z
              · exact absurd (by rw [e1]; rfl) (ap xs a z1 z2 0 ys rfl)
            | b x =>
              rcases d with d | d | ⟨a, ws, xs, e1, e2, h1, h2, h3, h4⟩
              · exact .inl (d.go f)
              · exact .inr (.inl d)
              · exact .inr (.inr ⟨a, ws, xs, e1, e2, h1, h2, h3, h4.go f⟩)
            | p => exact d
            | o P => exact Stb.go f d
      exact go rs vs ap t
    · cases e
  | [], _ :: _, _, _, _, _, _, _, _, e => by cases e
  | _ :: _, [], _, _, _, _, _, _, _, e => by cases e
theorem xs_par {X : Cx} {st : Stmt} {i j : Nat} {w1 w2 : Bool} {t : XA} (h : PS X st (tPar i j (upA t))) : PS X st (upS (xSets [(w1, i), (w2, j)] t)) := ps_wk h fun D σ H ⟨Γ, ε, R, k⟩ =>
  upA1 R k fun rs vs ε1 T1 H1 ⟨ε2, he, g⟩ R1 s1 d1 => by
    obtain ⟨T', R'⟩ := sets_ok _ rs vs ε1 T1 σ ε2 R1 d1 he
    cases d1 with
    | nil => cases he
    | @cons r v rs vs _ d t n =>
      cases t with
      | nil =>
        unfold setsR at he
        split at he
        · cases he
        · cases he
      | @cons r' v' rs vs _ d' t n' =>
        cases t with
        | nil => exact ⟨v, v', rfl, g _ H1 R'.nil⟩
        | cons d'' t'' =>
          unfold setsR at he
          split at he
          · unfold setsR at he
            split at he
            · cases he
            · cases he
          · cases he
/-- the same by way of a tuple -/
theorem xs_pars {X : Cx} {st : Stmt} {K : PySem.W.Frag} {is : List (Bool × Nat)} {n : Nat} {t : XA} {g : TGs} (h : PS X st (tAsg (tTup (upA t)) (gTup K n g))) (hn : n = is.length) (hz : n ≤ 100)
    (hg : ∀ vs σ H Q, vs.length = is.length → Q (setsV is vs σ) H → g vs σ H Q) : PS X st (upS (xSets is t)) := ps_wk h fun D σ H ⟨Γ, ε, R, k⟩ =>
  upA1 R k fun rs vs ε1 T1 H1 ⟨ε2, he, q⟩ R1 s1 d1 => by
    have l1 : ∀ (is : List (Bool × Nat)) (rs : List RV) (ε : List AV), setsR is rs ε = some ε2 → rs.length = is.length := by
      intro is
      induction is with
      | nil => intro rs ε e; cases rs with
        | nil => rfl
        | cons _ _ => cases e
      | cons p is ih => intro rs ε e; cases rs with
        | nil => cases e
        | cons r rs =>
          unfold setsR at e
          split at e
          · rw [List.length_cons, List.length_cons, ih _ _ e]
          · cases e
    have l2 : ∀ {rs : List RV} {vs : List V}, DenA Γ ε1 T1 σ H rs vs H1 → vs.length = rs.length := by
      intro rs
      induction rs with
      | nil => intro vs d; cases d; rfl
      | cons r rs ih => intro vs d; cases d with
        | cons d t n => rw [List.length_cons, List.length_cons, ih t]
    have lv : vs.length = is.length := by rw [l2 d1, l1 _ _ _ he]
    refine ⟨sz1000 (by omega), fun p hp => ⟨p, vs, rfl, SqT.rd (.inl upd_same), by rw [lv, hn], hg vs σ _ _ lv ?_⟩⟩
    obtain ⟨T', R'⟩ := sets_ok _ rs vs ε1 T1 σ ε2 R1 d1 he
    exact q _ _ (R'.nil.same (same_new hp))
end Cs
set_option maxHeartbeats 4000000
/-! Loops, calls, defs over data. -/
namespace Cs
open PySem L2 PyProof.Rows
/-! ### for -/
def xFor (it : XI) (g : XG) (b : XS) : XS := ⟨fun D ε => it.run ε fun ds fl ε1 => fl = true ∧ ∃ W : Nat → List AV → Prop, W 0 ε1 ∧ (∀ e, W ds.length e → D.nx e) ∧ ∀ i d e, ds[i]? = some d → W i e → g.run d e fun e2 => b.run { D with nx := W (i + 1), ct := W (i + 1), bk := D.nx } e2,
  fun {D D' ε} h1 h2 h3 h4 q => it.mono (fun ds fl ε1 ⟨f, W, w0, wn, ws⟩ => ⟨f, W, w0, fun e w => h1 _ (wn e w), fun i d e hd w => g.mono (fun e2 q => b.mono (D := { D with nx := W (i + 1), ct := W (i + 1), bk := D.nx }) (D' := { D' with nx := W (i + 1), ct := W (i + 1), bk := D'.nx }) (fun _ h => h) h2 h1 (fun _ h => h) q) (ws i d e hd w)⟩) q⟩
theorem xs_for {X : Cx} {tg iter : Expr} {body : List Stmt} {pos : Pos} {it : XI} {g : XG} {b : XS} (hp : PassesOwn (model X.prog X.w) X.A X.env X.xe) (hc : X.calm = true) (hi : PI X tg iter (upI it)) (hg : PG X tg (upG g)) (hb : PSs X body (upS b))
    (hs : ∀ x, foldedSetIterable iter X.env x = pure x := by intro _; rfl) : PS X (.For tg iter body [] pos) (upS (xFor it g b)) := ps_wk (ps_for hp hc hi hg hb hs) fun D σ H ⟨Γ, ε, R, k⟩ => by
  refine ⟨Γ, ε, TN, R, it.mono (fun ds fl ε1 q J A T1 H1 R1 s1 ok ha => ?_) k⟩
  obtain ⟨rfl, W, w0, wn, ws⟩ := q
  -- what is walked stays as it is
  have go : ∀ (Γ' : Ga), Γ' = { Γ with F := fun N H => Γ.F N H ∧ A N H, fst := fun N N' H H' f h => ⟨Γ.fst _ _ _ _ f h.1, ok.st _ _ _ _ f nofun h.2⟩ } →
      ∃ W : Nat → Nat → L2.St → Hp → Prop, (∃ m, W 0 m σ H1) ∧ ∀ i m σ H, W i m σ H → (J.stop i H ∧ D.nx σ H) ∨ (J.go i H ∧ ∃ N : L2.St → Hp → Prop, (∀ σ' H', N σ' H' → ∃ m', m' < m ∧ W (i + 1) m' σ' H') ∧ ∀ x H', J.yld i H x H' → upG g x σ H' fun σ2 H2 => upS b { D with nx := N, ct := N, bk := D.nx } σ2 H2) := by
    intro Γ' hΓ
    have up_ : ∀ {ε : List AV} {T : Addr → Prop} {σ : L2.St} {H : Hp}, Rep Γ ε T σ H → A (Mx Γ ε T σ) H → Rep Γ' ε T σ H := fun {ε T σ H} R ha => by
      subst hΓ
      exact ⟨R.ln, R.pm, R.hp, R.hp0, R.ext, R.ml, R.tmp, R.dis, R.sl, ⟨R.fr, ha⟩, R.tz⟩
    have dn_ : ∀ {ε : List AV} {T : Addr → Prop} {σ : L2.St} {H : Hp}, Rep Γ' ε T σ H → Rep Γ ε T σ H ∧ A (Mx Γ' ε T σ) H := fun {ε T σ H} R => by
      subst hΓ
      exact ⟨⟨R.ln, R.pm, R.hp, R.hp0, R.ext, R.ml, R.tmp, R.dis, R.sl, R.fr.1, R.tz⟩, R.fr.2⟩
    have den_ : ∀ {ε : List AV} {T : Addr → Prop} {σ : L2.St} {H H' : Hp} {r : RV} {v : V}, Den Γ' ε T σ H r v H' → Den Γ ε T σ H r v H' := fun {ε T σ H H' r v} d => by
      subst hΓ
      exact d
    have h0 : Γ'.H0 = Γ.H0 := by rw [hΓ]
    have al : A (Mx Γ ε1 TN σ) H1 := ok.st _ _ _ _ (Fit2.less fun _ => mx_less fun _ h => h.elim) nofun ha
    refine ⟨fun i m σ H => m = ds.length - i ∧ i ≤ ds.length ∧ ∃ e, W i e ∧ Rep Γ' e TN σ H, ⟨ds.length, by simp, Nat.zero_le _, ε1, w0, up_ R1.nil al⟩, ?_⟩
    rintro i m σ2 H2 ⟨rfl, hi, e, w, R2⟩
    obtain ⟨R2', a2⟩ := dn_ R2
    by_cases lt : i < ds.length
    · have hdi := List.getElem?_eq_getElem lt
      obtain ⟨go, yl⟩ := ok.go _ H2 i _ R2.alloc a2 hdi
      refine .inr ⟨go, fun σ' H' => i + 1 ≤ ds.length ∧ ∃ e, W (i + 1) e ∧ Rep Γ' e TN σ' H', fun σ' H' p' => ⟨ds.length - (i + 1), by omega, rfl, p'⟩, fun x H3 y => ?_⟩
      obtain ⟨s23, dx⟩ := yl x H3 y
      refine ⟨Γ', e, TN, _, R2.same s23, dx, g.mono (fun e2 q σ3 R3 _ _ _ => ?_) (ws i _ e hdi w)⟩
      refine ⟨Γ', e2, R3, b.mono (D := { upD Γ D with nx := W (i + 1), ct := W (i + 1), bk := (upD Γ D).nx }) (fun e3 w3 σ' H' R' => ⟨by omega, e3, w3, R'⟩) (fun r e3 q v σ' T' H' R' d' => ?_) (fun e3 q σ' H' R' => q σ' H' (dn_ R').1) (fun e3 w3 σ' H' R' => ⟨by omega, e3, w3, R'⟩) q⟩
      rw [h0] at d'
      exact q v σ' T' H' (dn_ R').1 (den_ d')
    · have e2 : i = ds.length := by omega
      subst e2
      exact .inl ⟨ok.stop _ H2 a2, wn e w σ2 H2 R2'⟩
  exact go _ rfl
end Cs
set_option maxHeartbeats 4000000
/-! Lists changed, calls, defs over data. -/
namespace Cs
open PySem L2 PyProof.Rows
section
variable {Γ : Ga} {ε ε0 : List AV} {T T0 : Addr → Prop} {σ : L2.St} {H H2 : Hp}
/-- a list of one's own changed -/
theorem Rep.mutL {i : Nat} {xs ys : List PyData} {ws : List V} (R : Rep Γ ε T σ H) (h : ε[i]? = some (.l xs)) (hl : ws.length ≤ 1000) (dn : DnA (Mx Γ ε T σ) H ws ys) :
    ∃ a, σ[i]? = some (some (.ref a)) ∧ Rep Γ (ε.set i (.l ys)) T σ (upd H a (.lst ws)) := by
  obtain ⟨a, vs, e, h0, h1, h2, h3⟩ := R.sl i _ h
  have hi : i < ε.length := (List.getElem?_eq_some_iff.mp h).1
  have own : ∀ b, OwnS (ε.set i (.l ys)) σ b ↔ OwnS ε σ b := fun b => by
    constructor
    · rintro ⟨j, zs, e1, e2⟩
      by_cases z : i = j
      · subst z
        exact ⟨i, xs, h, e2⟩
      · rw [List.getElem?_set_ne z] at e1
        exact ⟨j, zs, e1, e2⟩
    · rintro ⟨j, zs, e1, e2⟩
      by_cases z : i = j
      · subst z
        exact ⟨i, ys, List.getElem?_set_self hi, e2⟩
      · exact ⟨j, zs, by rw [List.getElem?_set_ne z]; exact e1, e2⟩
  have mx : ∀ b, Mx Γ (ε.set i (.l ys)) T σ b → Mx Γ ε T σ b := by
    rintro b (z | z | z)
    · exact .inl z
    · exact .inr (.inl ((own b).mp z))
    · exact .inr (.inr z)
  have na : Mx Γ ε T σ a := .inr (.inl ⟨i, xs, h, e⟩)
  have f : Fit2 (Mx Γ ε T σ) (Mx Γ (ε.set i (.l ys)) T σ) H (upd H a (.lst ws)) := ⟨fun b z => .inl (mx b z), fun b o n q => by
    rw [upd_ne fun z : b = a => n (z ▸ na)]
    exact q⟩
  have nep : a ≠ Γ.p := fun z => by
    obtain ⟨o, q⟩ := R.hp0
    rw [← z, h0] at q
    cases q
  refine ⟨a, e, by rw [List.length_set]; exact R.ln, R.pm, ?_, R.hp0, fun b o n q => ?_, R.ml, fun b hb => ?_, fun j k zs us hj hk q => ?_, fun j e' hj => ?_, Γ.fst _ _ _ _ f R.fr, tabs_exb R.tz h1 fun b o nb q => by rw [upd_ne nb]; exact q⟩
  · obtain ⟨o, q⟩ := R.hp
    exact ⟨o, by rw [upd_ne nep.symm]; exact q⟩
  · rw [upd_ne (ne_of_none q h0)]
    exact R.ext b o n q
  · obtain ⟨t1, ⟨us, t2⟩, t3⟩ := R.tmp b hb
    refine ⟨t1, ?_, fun z => t3 ((own b).mp z)⟩
    rw [upd_ne fun z : b = a => t3 (z ▸ ⟨i, xs, h, e⟩)]
    exact ⟨us, t2⟩
  · have back : ∀ {j : Nat} {zs : List PyData}, (ε.set i (.l ys))[j]? = some (.l zs) → ∃ us, ε[j]? = some (.l us) := fun {j zs} hj => by
      by_cases z : i = j
      · subst z
        exact ⟨xs, h⟩
      · rw [List.getElem?_set_ne z] at hj
        exact ⟨zs, hj⟩
    obtain ⟨z1, b1⟩ := back hj
    obtain ⟨z2, b2⟩ := back hk
    exact R.dis j k z1 z2 b1 b2 q
  · by_cases z : i = j
    · subst z
      rw [List.getElem?_set_self hi] at hj
      cases hj
      exact ⟨a, ws, e, h0, upd_same, hl, dn.go f⟩
    · rw [List.getElem?_set_ne z] at hj
      refine (R.sl j e' hj).go f (fun n h => h.put nep) fun zs b e1 e2 o q => ?_
      subst e1
      rw [upd_ne fun w : b = a => z (R.dis i j xs zs h hj (by rw [e, e2, w]))]
      exact q
theorem Rep.ownAt {i : Nat} {xs : List PyData} (R : Rep Γ ε T σ H) (h : ε[i]? = some (.l xs)) : ∃ a vs, σ[i]? = some (some (.ref a)) ∧ H a = some (.lst vs) ∧ vs.length ≤ 1000 ∧ DnA (Mx Γ ε T σ) H vs xs := by
  obtain ⟨a, vs, e, _, h1, h2, h3⟩ := R.sl i _ h
  exact ⟨a, vs, e, h1, h2, h3⟩
end
def xApp (i : Nat) (t : XE) : XS := ⟨fun D ε => (∃ xs, ε[i]? = some (.l xs)) ∧ t.run ε fun r ε1 => ∃ x xs, r.kp = some x ∧ ε1[i]? = some (.l xs) ∧ xs.length < 1000 ∧ D.nx (ε1.set i (.l (xs ++ [x]))),
  fun h _ _ _ q => ⟨q.1, t.mono (fun _ _ ⟨x, xs, a, b, c, w⟩ => ⟨x, xs, a, b, c, h _ w⟩) q.2⟩⟩
theorem xs_app {X : Cx} {K : PySem.W.Frag} {st : Stmt} {i : Nat} {t : XE} (h : PS X st (tDrop (tBM K "list" rAppend (tVar i) (tCons (up t) tNil)))) : PS X st (upS (xApp i t)) := ps_wk h fun D σ H ⟨Γ, ε, R, ⟨xs0, h0⟩, k⟩ => by
  obtain ⟨a, vs, e, h1, _, _⟩ := R.ownAt h0
  refine ⟨_, e, .inl ⟨rfl, _, SqL.of h1⟩, up1 R k fun r x ε1 T1 H1 ⟨y, xs, ek, ex, hl, g⟩ R1 s1 d1 => ?_⟩
  have R2 := R1.nil
  obtain ⟨a', vs', e', h1', h2', h3'⟩ := R2.ownAt ex
  rw [e] at e'
  cases e'
  have dy := d1.kept R R1 s1 ek
  have ll := h3'.length
  obtain ⟨a3, e3, R3⟩ := R2.mutL ex (ws := vs' ++ [x]) (by rw [List.length_append, ll]; simp only [List.length_cons, List.length_nil]; omega) (h3'.append (.cons dy .nil))
  rw [e] at e3
  cases e3
  exact ⟨a, vs', x, rfl, rfl, h1', Nat.lt_of_lt_of_le (by omega : vs'.length < 1000) (by decide), g _ _ R3⟩
def xPopS (i j : Nat) (t : XE) : XS := ⟨fun D ε => i ≠ j ∧ (∃ xs, ε[j]? = some (.l xs)) ∧ t.run ε fun r ε1 => ∃ (k : Nat) (xs : List PyData) (y : PyData), r.see = some (.int (k : Nat)) ∧ ε1[j]? = some (.l xs) ∧ xs[k]? = some y ∧ D.nx ((ε1.set j (.l (xs.eraseIdx k))).set i (.d y)),
  fun h _ _ _ q => ⟨q.1, q.2.1, t.mono (fun _ _ ⟨k, xs, y, a, b, c, w⟩ => ⟨k, xs, y, a, b, c, h _ w⟩) q.2.2⟩⟩
def xPopA (i j : Nat) (t : XE) : XS := ⟨fun D ε => i ≠ j ∧ (∃ zs, ε[i]? = some (.l zs)) ∧ (∃ xs, ε[j]? = some (.l xs)) ∧ t.run ε fun r ε1 => ∃ (k : Nat) (xs zs : List PyData) (y : PyData), r.see = some (.int (k : Nat)) ∧ ε1[j]? = some (.l xs) ∧ ε1[i]? = some (.l zs) ∧ xs[k]? = some y ∧ zs.length < 1000 ∧ D.nx ((ε1.set j (.l (xs.eraseIdx k))).set i (.l (zs ++ [y]))),
  fun h _ _ _ q => ⟨q.1, q.2.1, q.2.2.1, t.mono (fun _ _ ⟨k, xs, zs, y, a, b, c, d, e, w⟩ => ⟨k, xs, zs, y, a, b, c, d, e, h _ w⟩) q.2.2.2⟩⟩
theorem ix_nat {n k : Nat} (h : k < n) : seqIndex? ((k : Nat) : Int) n = some k := by
  have h1 : ¬ ((k : Nat) : Int) < 0 := by omega
  have h2 : ((k : Nat) : Int) < (n : Nat) := by omega
  simp only [seqIndex?, if_neg h1, decide_eq_true h2, decide_eq_true (Int.natCast_nonneg k), Bool.and_self, if_true, Int.toNat_natCast]
section
variable {Γ : Ga} {ε : List AV} {T : Addr → Prop} {σ : L2.St} {H : Hp} {K : PySem.W.Frag}
/-- popped -/
theorem pop_ok {j : Nat} {t : XE} {G : RV → List AV → Prop} {Q : VK} (R : Rep Γ ε TN σ H) (h0 : ∃ xs, ε[j]? = some (.l xs)) (h : t.run ε G)
    (k : ∀ r ε1, G r ε1 → ∃ (k : Nat) (xs : List PyData) (y : PyData), r.see = some (.int (k : Nat)) ∧ ε1[j]? = some (.l xs) ∧ xs[k]? = some y ∧ ∀ v H', Rep Γ (ε1.set j (.l (xs.eraseIdx k))) TN σ H' → Dn (Mx Γ (ε1.set j (.l (xs.eraseIdx k))) TN σ) H' v y → Q v H') :
    tBM K "list" rPopAt (tVar j) (tCons (up t) tNil) σ H Q := by
  obtain ⟨xs0, h0⟩ := h0
  obtain ⟨a, vs, e, h1, _, _⟩ := R.ownAt h0
  refine ⟨_, e, .inl ⟨rfl, _, SqL.of h1⟩, up1 R h fun r x ε1 T1 H1 g R1 s1 d1 => ?_⟩
  obtain ⟨k, xs, y, es, ex, ey, q⟩ := k r ε1 g
  have R2 := R1.nil
  obtain ⟨a', vs', e', h1', h2', h3'⟩ := R2.ownAt ex
  rw [e] at e'
  cases e'
  obtain ⟨v, hv, dv⟩ := h3'.at_ ey
  have lk := (List.getElem?_eq_some_iff.mp hv).1
  obtain ⟨a3, e3, R3⟩ := R2.mutL ex (ws := vs'.eraseIdx k) (by rw [List.length_eraseIdx]; split <;> omega) (h3'.erase k)
  rw [e] at e3
  cases e3
  refine ⟨a, vs', (k : Nat), k, v, rfl, by rw [(d1.see es).int], h1', by omega, by omega, ix_nat lk, hv, q v _ R3 ?_⟩
  have own : ∀ b, OwnS (ε1.set j (.l (xs.eraseIdx k))) σ b → OwnS ε1 σ b := by
    rintro b ⟨i, zs, e1, e2⟩
    by_cases z : j = i
    · subst z
      exact ⟨j, xs, ex, e2⟩
    · rw [List.getElem?_set_ne z] at e1
      exact ⟨i, zs, e1, e2⟩
  refine dv.go ⟨fun b z => .inl ?_, fun b o n h => ?_⟩
  · rcases z with z | z | z
    · exact .inl z
    · exact .inr (.inl (own b z))
    · exact .inr (.inr z)
  · rw [upd_ne fun z : b = a => n (z ▸ .inr (.inl ⟨j, xs, ex, e⟩))]
    exact h
end
theorem xs_popS {X : Cx} {K : PySem.W.Frag} {st : Stmt} {i j : Nat} {t : XE} (h : PS X st (tAsg (tBM K "list" rPopAt (tVar j) (tCons (up t) tNil)) (gName i))) : PS X st (upS (xPopS i j t)) := ps_wk h fun D σ H ⟨Γ, ε, R, hij, h0, k⟩ =>
  pop_ok R h0 k fun r ε1 ⟨k, xs, y, a, b, c, w⟩ => ⟨k, xs, y, a, b, c, fun v H' R' d => w _ H' (R'.put (i := i) (e := .d y) (v := v) ⟨v, rfl, d⟩ (fun _ => nofun)).1⟩
theorem xs_popA {X : Cx} {K : PySem.W.Frag} {st : Stmt} {i j : Nat} {t : XE} (h : PS X st (tDrop (tBM K "list" rAppend (tVar i) (tCons (tBM K "list" rPopAt (tVar j) (tCons (up t) tNil)) tNil)))) : PS X st (upS (xPopA i j t)) := ps_wk h fun D σ H ⟨Γ, ε, R, hij, hi, hj, k⟩ => by
  obtain ⟨zs0, h0⟩ := hi
  obtain ⟨a, vs, e, h1, _, _⟩ := R.ownAt h0
  refine ⟨_, e, .inl ⟨rfl, _, SqL.of h1⟩, pop_ok R hj k fun r ε1 ⟨k, xs, zs, y, b1, b2, b3, b4, b5, w⟩ => ⟨k, xs, y, b1, b2, b4, fun v H' R' d => ?_⟩⟩
  have b3' : (ε1.set j (.l (xs.eraseIdx k)))[i]? = some (.l zs) := by
    rw [List.getElem?_set_ne hij.symm]
    exact b3
  obtain ⟨a', vs', e', h1', h2', h3'⟩ := R'.ownAt b3'
  rw [e] at e'
  cases e'
  have ll := h3'.length
  obtain ⟨a3, e3, R3⟩ := R'.mutL b3' (ws := vs' ++ [v]) (by rw [List.length_append, ll]; simp only [List.length_cons, List.length_nil]; omega) (h3'.append (.cons d .nil))
  rw [e] at e3
  cases e3
  exact ⟨a, vs', v, rfl, rfl, h1', Nat.lt_of_lt_of_le (by omega : vs'.length < 1000) (by decide), w _ _ R3⟩
/-! ### calls of defs -/
structure DR where
  run : Nat → List RV → (RV → Nat → Prop) → Prop
  mono : ∀ {n : Nat} {rs : List RV} {K K' : RV → Nat → Prop}, (∀ r m, K r m → K' r m) → run n rs K → run n rs K'
def ArgR (p : Addr) (M : Addr → Prop) (H : Hp) : RV → V → Prop
  | .d x, v => Dn M H v x
  | .p, v => v = .ref p
  | .o P, v => Stb M H P v
  | _, _ => False
inductive ArgA (p : Addr) (M : Addr → Prop) (H : Hp) : List RV → List V → Prop
  | nil : ArgA p M H [] []
  | cons {r : RV} {v : V} {rs : List RV} {vs : List V} (h : ArgR p M H r v) (t : ArgA p M H rs vs) : ArgA p M H (r :: rs) (v :: vs)
def ResR (M : Addr → Prop) (H : Hp) (r : RV) (v : V) (H' : Hp) : Prop := match r with
  | .d x => Dn M H' v x
  | .f xs => ∃ a vs, v = .ref a ∧ H a = none ∧ H' a = some (.lst vs) ∧ vs.length ≤ 1000 ∧ DnA (fun b => M b ∨ b = a) H' vs xs
  | .o P => Stb M H' P v
  | _ => False
def Aft (B : Bool) (p : Addr) (H H' : Hp) (n : Nat) : Prop := match B with
  | true => ExB p H H' ∧ PailAt H' p n
  | false => Same H H'
/-- what a def promises, over data: B says whether it draws -/
def SpD (B : Bool) (R : DR) : Sp := fun vs H Q _ => ∃ (p : Addr) (M : Addr → Prop) (n : Nat) (rs : List RV), M p ∧ (∃ o, H p = some (.lst o)) ∧ (∀ a, M a → a = p ∨ Ls H a) ∧ (B = true → PailAt H p n) ∧ ArgA p M H rs vs ∧
  R.run n rs fun r n' => ∀ v H', Aft B p H H' n' → ResR M H r v H' → Q v H'
/-- arguments as a def takes them -/
def kas : List RV → Option (List RV)
  | [] => some []
  | .d x :: rs => (kas rs).map (RV.d x :: ·)
  | .f xs :: rs => (kas rs).map (RV.d (.list xs) :: ·)
  | .p :: rs => (kas rs).map (RV.p :: ·)
  | .o P :: rs => (kas rs).map (RV.o P :: ·)
  | _ => none
def pnOf : List AV → Option Nat
  | [] => none
  | .p n :: _ => some n
  | .q n _ :: _ => some n
  | _ :: ε => pnOf ε
def setP (n : Nat) (ε : List AV) : List AV := ε.map fun e => match e with
  | .p _ => .p n
  | .q _ z => .q n z
  | e => e
def aftP (B : Bool) (n : Nat) (ε : List AV) : List AV := match B with
  | true => setP n ε
  | false => ε
def okRes : RV → Bool
  | .d _ | .f _ | .o _ => true
  | _ => false
def xCall (B : Bool) (R : DR) (a : XA) : XE := ⟨fun ε K => a.run ε fun rs ε1 => ∃ rs' n, kas rs = some rs' ∧ (B = true → pnOf ε1 = some n) ∧ R.run n rs' fun r n' => okRes r = true ∧ K r (aftP B n' ε1),
  fun h q => a.mono (fun _ _ ⟨rs, n, e1, e2, w⟩ => ⟨rs, n, e1, e2, R.mono (fun _ _ k => ⟨k.1, h _ _ k.2⟩) w⟩) q⟩
section
variable {Γ : Ga} {ε ε2 : List AV} {T T2 : Addr → Prop} {σ : L2.St} {H H2 : Hp}
theorem pn_at : ∀ {ε : List AV} {n : Nat}, pnOf ε = some n → ∃ i : Nat, ε[i]? = some (.p n) ∨ ∃ z, ε[i]? = some (.q n z)
  | .p m :: ε, n, h => ⟨0, by cases h; exact .inl rfl⟩
  | .q m z :: ε, n, h => ⟨0, by cases h; exact .inr ⟨z, rfl⟩⟩
  | .u :: ε, n, h => by obtain ⟨i, e⟩ := pn_at (ε := ε) h; exact ⟨i + 1, e⟩
  | .t _ :: ε, n, h => by obtain ⟨i, e⟩ := pn_at (ε := ε) h; exact ⟨i + 1, e⟩
  | .d _ :: ε, n, h => by obtain ⟨i, e⟩ := pn_at (ε := ε) h; exact ⟨i + 1, e⟩
  | .l _ :: ε, n, h => by obtain ⟨i, e⟩ := pn_at (ε := ε) h; exact ⟨i + 1, e⟩
  | .o _ :: ε, n, h => by obtain ⟨i, e⟩ := pn_at (ε := ε) h; exact ⟨i + 1, e⟩
theorem Rep.pail {n : Nat} (R : Rep Γ ε T σ H) (h : pnOf ε = some n) : PailAt H Γ.p n ∧ Γ.B = true := by
  obtain ⟨i, e | ⟨z, e⟩⟩ := pn_at h
  · exact (R.sl i _ e).2
  · obtain ⟨_, h1, h2, _⟩ := R.sl i _ e
    exact ⟨h1, h2⟩
def tbOf : List AV → Option (List (Addr × Str))
  | [] => none
  | .q _ z :: _ => some z
  | .t z :: _ => some z
  | _ :: ε => tbOf ε
theorem tb_at : ∀ {ε : List AV} {z : List (Addr × Str)}, tbOf ε = some z → ∃ i : Nat, (∃ n, ε[i]? = some (.q n z)) ∨ ε[i]? = some (.t z)
  | .p m :: ε, z, h => by obtain ⟨i, e⟩ := tb_at (ε := ε) h; exact ⟨i + 1, e⟩
  | .q m z' :: ε, z, h => ⟨0, .inl ⟨m, by cases h; rfl⟩⟩
  | .t z' :: ε, z, h => ⟨0, .inr (by cases h; rfl)⟩
  | .u :: ε, z, h => by obtain ⟨i, e⟩ := tb_at (ε := ε) h; exact ⟨i + 1, e⟩
  | .d _ :: ε, z, h => by obtain ⟨i, e⟩ := tb_at (ε := ε) h; exact ⟨i + 1, e⟩
  | .l _ :: ε, z, h => by obtain ⟨i, e⟩ := tb_at (ε := ε) h; exact ⟨i + 1, e⟩
  | .o _ :: ε, z, h => by obtain ⟨i, e⟩ := tb_at (ε := ε) h; exact ⟨i + 1, e⟩
theorem Rep.tbs {z : List (Addr × Str)} (R : Rep Γ ε T σ H) (h : tbOf ε = some z) : Γ.tb = z := by
  obtain ⟨i, ⟨n, e⟩ | e⟩ := tb_at h
  · exact (R.sl i _ e).2.2.2
  · exact R.sl i _ e
def isP : AV → Bool
  | .p _ | .q _ _ => true
  | _ => false
theorem setP_at {n : Nat} {i : Nat} {e : AV} (h : (setP n ε)[i]? = some e) : ((∃ m, ε[i]? = some (.p m) ∧ e = .p n) ∨ ∃ m z, ε[i]? = some (.q m z) ∧ e = .q n z) ∨ (ε[i]? = some e ∧ isP e = false) := by
  unfold setP at h
  obtain ⟨x, hx, e1⟩ := mapget h
  cases x with
  | p m => exact .inl (.inl ⟨m, hx, e1⟩)
  | q m z => exact .inl (.inr ⟨m, z, hx, e1⟩)
  | u => exact .inr ⟨by rw [hx, e1], by rw [e1]; rfl⟩
  | t y => exact .inr ⟨by rw [hx, e1], by rw [e1]; rfl⟩
  | d y => exact .inr ⟨by rw [hx, e1], by rw [e1]; rfl⟩
  | l y => exact .inr ⟨by rw [hx, e1], by rw [e1]; rfl⟩
  | o y => exact .inr ⟨by rw [hx, e1], by rw [e1]; rfl⟩
theorem setP_l {n : Nat} {i : Nat} {xs : List PyData} (h : (setP n ε)[i]? = some (.l xs)) : ε[i]? = some (.l xs) := by
  rcases setP_at h with (⟨_, _, e⟩ | ⟨_, _, _, e⟩) | ⟨e, _⟩
  · cases e
  · cases e
  · exact e
theorem Rep.drew {n : Nat} (R : Rep Γ ε T σ H) (hB : Γ.B = true) (e : ∀ b o, b ≠ Γ.p → ¬ Zp Γ b → H b = some o → H2 b = some o) (hp : PailAt H2 Γ.p n) (tz : LamX.Tabs Γ.tb H2) : Rep Γ (setP n ε) T σ H2 ∧ ∀ a, Mx Γ (setP n ε) T σ a ↔ Mx Γ ε T σ a := by
  have own : ∀ a, OwnS (setP n ε) σ a ↔ OwnS ε σ a := fun a => by
    constructor
    · rintro ⟨i, xs, e1, e2⟩
      exact ⟨i, xs, setP_l e1, e2⟩
    · rintro ⟨i, xs, e1, e2⟩
      refine ⟨i, xs, ?_, e2⟩
      unfold setP
      rw [List.getElem?_map, e1]
      rfl
  have mx : ∀ a, Mx Γ (setP n ε) T σ a ↔ Mx Γ ε T σ a := fun a => by
    unfold Mx
    rw [own]
  have f : Fit2 (Mx Γ ε T σ) (Mx Γ (setP n ε) T σ) H H2 := ⟨fun a z => .inl ((mx a).mp z), fun b o nb h => e b o (fun z => nb (z ▸ .inl R.pm)) (fun z => nb (.inl (zp_M z))) h⟩
  refine ⟨⟨by unfold setP; rw [List.length_map]; exact R.ln, R.pm, hp.lst, R.hp0, fun b o nb h => ?_, R.ml, fun a ha => ?_, fun i j xs ys h1 h2 q => ?_, fun i e' h => ?_, Γ.fst _ _ _ _ f R.fr, tz⟩, mx⟩
  · exact e b o (nb.1 hB) nb.2 (R.ext b o nb h)
  · obtain ⟨t1, ⟨vs, t2⟩, t3⟩ := R.tmp a ha
    exact ⟨t1, ⟨vs, e _ _ (tmp_p R ha) (zp_not R.tz t2 nofun) t2⟩, fun z => t3 ((own a).mp z)⟩
  · exact R.dis i j xs ys (setP_l h1) (setP_l h2) q
  · rcases setP_at h with (⟨m, z, rfl⟩ | ⟨m, z, hz, rfl⟩) | ⟨z, np⟩
    · obtain ⟨s1, _, s3⟩ := R.sl i _ z
      exact ⟨s1, hp, s3⟩
    · obtain ⟨s1, _, s3⟩ := R.sl i _ hz
      exact ⟨s1, hp, s3⟩
    · have s := R.sl i _ z
      cases e' with
      | p m => cases np
      | q m z => cases np
      | l xs =>
        obtain ⟨a, vs, s1, s2, s3, s4, s5⟩ := s
        refine ⟨a, vs, s1, s2, e _ _ (fun z => ?_) (zp_not R.tz s3 nofun) s3, s4, s5.go f⟩
        obtain ⟨o, q⟩ := R.hp0
        rw [← z, s2] at q
        cases q
      | u => trivial
      | t z => exact s
      | d x =>
        obtain ⟨v, s1, s2⟩ := s
        exact ⟨v, s1, s2.go f⟩
      | o P =>
        obtain ⟨v, s1, s2⟩ := s
        exact ⟨v, s1, s2.go f⟩
theorem kas_arg (R : Rep Γ ε T σ H) (R2 : Rep Γ ε2 T2 σ H2) (s : Stp Γ ε T ε2 T2 σ H H2) : ∀ {rs rs' : List RV} {vs : List V}, DenA Γ ε2 T2 σ H rs vs H2 → kas rs = some rs' → ArgA Γ.p (Mx Γ ε2 T σ) H2 rs' vs := by
  intro rs
  induction rs with
  | nil => intro rs' vs d e; cases d; cases e; exact .nil
  | cons r rs ih =>
    intro rs' vs d e
    cases d with
    | cons d t n =>
      have f : Fit2 (Mx Γ ε2 T2 σ) (Mx Γ ε2 T σ) H2 H2 := Fit2.less fun _ => mx_less s.t
      cases r with
      | d x =>
        obtain ⟨q, e1, rfl⟩ := Option.map_eq_some_iff.mp e
        exact .cons (d.kept R R2 s rfl) (ih t e1)
      | f xs =>
        obtain ⟨q, e1, rfl⟩ := Option.map_eq_some_iff.mp e
        exact .cons (d.kept R R2 s rfl) (ih t e1)
      | p =>
        obtain ⟨q, e1, rfl⟩ := Option.map_eq_some_iff.mp e
        exact .cons d (ih t e1)
      | o P =>
        obtain ⟨q, e1, rfl⟩ := Option.map_eq_some_iff.mp e
        exact .cons (Stb.go f d) (ih t e1)
      | b x => cases e
theorem Rep.lists (R : Rep Γ ε T σ H) : ∀ a, Mx Γ ε T σ a → a = Γ.p ∨ Ls H a := by
  rintro a (m | ⟨i, xs, e1, e2⟩ | t)
  · by_cases z : a = Γ.p
    · exact .inl z
    · rcases R.ml a m with z' | h
      · exact absurd z' z
      · by_cases zz : Zp Γ a
        · exact .inr (.inr (zp_at R.tz zz))
        · rcases h with ⟨xs, h⟩ | ⟨ps, h⟩
          · exact .inr (.inl ⟨xs, R.ext a _ ⟨fun _ => z, zz⟩ h⟩)
          · exact .inr (.inr ⟨ps, R.ext a _ ⟨fun _ => z, zz⟩ h⟩)
  · obtain ⟨b, vs, e3, _, h2, _⟩ := R.sl i _ e1
    rw [e3] at e2
    cases e2
    exact .inr (.inl ⟨_, h2⟩)
  · exact .inr (.inl (R.tmp a t).2.1)
/-- how the heap stands behind a call -/
def AfG (B : Bool) (Γ : Ga) (H H' : Hp) (n : Nat) : Prop := match B with
  | true => (∀ b o, b ≠ Γ.p → ¬ Zp Γ b → H b = some o → H' b = some o) ∧ PailAt H' Γ.p n ∧ LamX.Tabs Γ.tb H'
  | false => Same H H'
theorem AfG.of {B : Bool} {n : Nat} (R : Rep Γ ε T σ H) (h : Aft B Γ.p H H2 n) : AfG B Γ H H2 n := by
  cases B with
  | false => exact h
  | true => exact ⟨fun b o nb _ e => h.1 b o nb e, h.2, R.hp.elim fun o ho => tabs_exb R.tz ho h.1⟩
theorem call_aft {B : Bool} {Q : VK} {ε1 : List AV} {T1 : Addr → Prop} {H1 H' : Hp} {n n' : Nat} {K : RV → List AV → Prop} {r : RV} {v : V} (R0 : Rep Γ ε T σ H) (R1 : Rep Γ ε1 T1 σ H1) (s1 : Stp Γ ε T ε1 T1 σ H H1) (e2 : B = true → pnOf ε1 = some n)
    (ok : okRes r = true) (w : K r (aftP B n' ε1)) (af : AfG B Γ H1 H' n') (rr : ResR (Mx Γ ε1 T σ) H1 r v H') (q : ∀ r ε' v T' H', K r ε' → Rep Γ ε' T' σ H' → Stp Γ ε T ε' T' σ H H' → Den Γ ε' T' σ H r v H' → Q v H') : Q v H' := by
    have R2 := R1.less (T' := T) s1.t
    have s2 := s1.drop
    have key : ∃ ε3, ε3 = (aftP B n' ε1) ∧ Rep Γ ε3 T σ H' ∧ (∀ b o, b ≠ Γ.p → ¬ Zp Γ b → H1 b = some o → H' b = some o) ∧ (Γ.B = false → Same H1 H') ∧ ∀ b, Mx Γ ε3 T σ b ↔ Mx Γ ε1 T σ b := by
      cases B with
      | true =>
        have hB := (R1.pail (e2 rfl)).2
        obtain ⟨R3, mx⟩ := R2.drew (n := n') hB af.1 af.2.1 af.2.2
        exact ⟨_, rfl, R3, af.1, fun z => (by rw [hB] at z; cases z), mx⟩
      | false =>
        have af' : Same H1 H' := af
        exact ⟨_, rfl, R2.same af', fun b o _ _ h => af' _ _ h, fun _ => af', fun _ => Iff.rfl⟩
    obtain ⟨ε3, rfl, R3, ex, sm, mx⟩ := key
    have st : Stp Γ ε T (aftP B n' ε1) T σ H H' := ⟨fun b o nb h => by
      cases hB : Γ.B with
      | true => exact ex b o (nb.1 hB) nb.2 (s2.k b o nb h)
      | false => exact sm hB _ _ (s2.k b o nb h), R3.hp, R3.tz, fun _ h => h, fun b z => s2.m b ((mx b).mp z)⟩
    have f : Fit2 (Mx Γ ε1 T σ) (Mx Γ (aftP B n' ε1) T σ) H' H' := Fit2.less fun b z => (mx b).mp z
    cases r with
    | d x => exact q _ _ v T H' w R3 st (Dn.go f rr)
    | o P => exact q _ _ v T H' w R3 st (Stb.go f rr)
    | f xs =>
      obtain ⟨b, ws, e, h0, h1, h2, h3⟩ := rr
      have hb0 : H b = none := s1.none R0.hp h0
      -- the new list among the temporary ones
      have nb : ¬ Mx Γ (aftP B n' ε1) T σ b := fun z => R2.not_x h0 ((mx b).mp z)
      have R1' : Rep Γ ε1 T σ H1 := R2
      have f1 : Fit2 (Mx Γ ε1 T σ) (Mx Γ (aftP B n' ε1) (fun c => T c ∨ c = b) σ) H1 H' := ⟨fun c z => by
        rcases z with z | z | z | rfl
        · exact .inl ((mx c).mp (.inl z))
        · exact .inl ((mx c).mp (.inr (.inl z)))
        · exact .inl ((mx c).mp (.inr (.inr z)))
        · exact .inr h0, fun c o n h => ex c o (fun z => n (z ▸ .inl R1.pm)) (fun z => n (.inl (zp_M z))) h⟩
      have h0' : Γ.H0 b = none := R1.fresh h0
      have slots : ∀ (i : Nat) (e : AV), (aftP B n' ε1)[i]? = some e → Slot Γ (Mx Γ (aftP B n' ε1) (fun c => T c ∨ c = b) σ) H' e σ[i]? := fun i e he => by
        have sl := R3.sl i e he
        have old : ∀ {u : AV}, ε1[i]? = some u → Slot Γ (Mx Γ ε1 T σ) H1 u σ[i]? := fun h => R1'.sl i _ h
        have at1 : isP e = true ∨ ε1[i]? = some e := by
          cases B with
          | false => exact .inr he
          | true =>
            rcases setP_at he with (⟨m, z, rfl⟩ | ⟨m, z, _, rfl⟩) | ⟨z, _⟩
            · exact .inl rfl
            · exact .inl rfl
            · exact .inr z
        cases e with
        | u => trivial
        | p m => exact sl
        | q m z => exact sl
        | t z => exact sl
        | d x =>
          rcases at1 with z | z
          · cases z
          · obtain ⟨v, w1, w2⟩ := old z
            exact ⟨v, w1, w2.go f1⟩
        | l ys =>
          rcases at1 with z | z
          · cases z
          · obtain ⟨a2, vs2, w1, w2, w3, w4, w5⟩ := old z
            refine ⟨a2, vs2, w1, w2, ex _ _ (fun z => ?_) (zp_not R1.tz w3 nofun) w3, w4, w5.go f1⟩
            obtain ⟨o, qq⟩ := R1.hp0
            rw [← z, w2] at qq
            cases qq
        | o P =>
          rcases at1 with z | z
          · cases z
          · obtain ⟨v, w1, w2⟩ := old z
            exact ⟨v, w1, w2.go f1⟩
      have R4 : Rep Γ (aftP B n' ε1) (fun c => T c ∨ c = b) σ H' := by
        refine ⟨R3.ln, R3.pm, R3.hp, R3.hp0, R3.ext, R3.ml, fun c hc => ?_, R3.dis, slots, Γ.fst _ _ _ _ f1 R1'.fr, R3.tz⟩
        rcases hc with hc | rfl
        · exact R3.tmp c hc
        · exact ⟨h0', ⟨ws, h1⟩, fun z => nb (.inr (.inl z))⟩
      refine q _ _ v (fun c => T c ∨ c = b) H' w R4 ⟨st.k, st.hp, st.tz, fun c h => .inl h, fun c z => ?_⟩ ⟨b, ws, e, hb0, .inr rfl, h1, h2, h3.go ⟨fun c z => ?_, fun c o _ h => h⟩⟩
      · rcases z with z | z | z | rfl
        · exact st.m c (.inl z)
        · exact st.m c (.inr (.inl z))
        · exact st.m c (.inr (.inr z))
        · exact .inr hb0
      · rcases z with z | z | z | rfl
        · exact .inl (.inl ((mx c).mp (.inl z)))
        · exact .inl (.inl ((mx c).mp (.inr (.inl z))))
        · exact .inl (.inl ((mx c).mp (.inr (.inr z))))
        · exact .inl (.inr rfl)
    | b x => cases ok
    | p => cases ok
theorem call_core {B : Bool} {R : DR} {E : XK} {Q : VK} {ε1 : List AV} {T1 : Addr → Prop} {H1 : Hp} {vs vs2 : List V} {rs rs' rs2 : List RV} {n : Nat} {K : RV → List AV → Prop} (R0 : Rep Γ ε T σ H) (R1 : Rep Γ ε1 T1 σ H1) (s1 : Stp Γ ε T ε1 T1 σ H H1) (d1 : DenA Γ ε1 T1 σ H rs vs H1) (e1 : kas rs = some rs') (pr : ∀ {p : Addr} {M : Addr → Prop} {H : Hp}, ArgA p M H rs' vs → ArgA p M H rs2 vs2) (e2 : B = true → pnOf ε1 = some n)
    (g : R.run n rs2 fun r n' => okRes r = true ∧ K r (aftP B n' ε1)) (q : ∀ r ε' v T' H', K r ε' → Rep Γ ε' T' σ H' → Stp Γ ε T ε' T' σ H H' → Den Γ ε' T' σ H r v H' → Q v H') : SpD B R vs2 H1 Q E := by
  have R2 := R1.less (T' := T) s1.t
  exact ⟨Γ.p, Mx Γ ε1 T σ, n, rs2, .inl R1.pm, R1.hp, R2.lists, fun hb => (R1.pail (e2 hb)).1, pr (kas_arg R0 R1 s1 d1 e1), R.mono (fun r n' ⟨ok, w⟩ v H' af rr => call_aft R0 R1 s1 e2 ok w (.of R1 af) rr q) g⟩
theorem call_up {B : Bool} {R : DR} {a : XA} {E : XK} {Q : VK} {sp : Sp} (ad : ∀ vs H Q, SpD B R vs H Q E → sp vs H Q E) (h : up (xCall B R a) σ H Q) : upA a σ H fun vs H1 => sp vs H1 Q E := by
  obtain ⟨Γ, ε, T, R0, k⟩ := h
  exact upA1 R0 k fun rs vs ε1 T1 H1 ⟨rs', n, e1, e2, g⟩ R1 s1 d1 => ad vs H1 Q (call_core (K := fun r ε' => ∀ v T' H', Rep Γ ε' T' σ H' → Stp Γ ε T ε' T' σ H H' → Den Γ ε' T' σ H r v H' → Q v H') R0 R1 s1 d1 e1 (fun h => h) e2 g fun r ε' v T' H' w R' s' d' => w v T' H' R' s' d')
end
theorem x_call {X : Cx} {Ex : Expr} {B : Bool} {R : DR} {a : XA} {E : XK} {sp : Sp} (h : PE X Ex (tCall sp [] E (upA a))) (ad : ∀ vs H Q, SpD B R vs H Q E → sp vs H Q E) : PE X Ex (up (xCall B R a)) :=
  pe_wk h fun σ H Q q => call_up (fun vs H1 Q1 w => by rw [List.append_nil]; exact ad vs H1 Q1 w) q
/-! ### a def -/
def toAV (n : Nat) : RV → AV
  | .d x => .d x
  | .p => .p n
  | .o P => .o P
  | _ => .u
def noP : List RV → Bool
  | [] => true
  | .p :: _ => false
  | _ :: rs => noP rs
def okEnd (B : Bool) (K : RV → Nat → Prop) : XEnds where
  nx := fun ε => ∃ n, (B = true → pnOf ε = some n) ∧ K (.d .none) n
  rt := fun r ε => okRes r = true ∧ ∃ n, (B = true → pnOf ε = some n) ∧ K r n
theorem arg_at {p : Addr} {M : Addr → Prop} {H : Hp} : ∀ {rs : List RV} {vs : List V} {i : Nat} {r : RV}, ArgA p M H rs vs → rs[i]? = some r → ∃ v, vs[i]? = some v ∧ ArgR p M H r v
  | _, _, _, _, .nil, e => by simp at e
  | _, _, 0, _, .cons h _, e => by
    obtain rfl := Option.some.inj e
    exact ⟨_, rfl, h⟩
  | _, _, i + 1, _, .cons _ t, e => arg_at (i := i) t e
theorem arg_len {p : Addr} {M : Addr → Prop} {H : Hp} : ∀ {rs : List RV} {vs : List V}, ArgA p M H rs vs → vs.length = rs.length
  | _, _, .nil => rfl
  | _, _, .cons _ t => by rw [List.length_cons, List.length_cons, arg_len t]
theorem noP_at : ∀ {rs : List RV} {i : Nat}, noP rs = true → rs[i]? ≠ some .p
  | [], i, _ => by simp
  | .p :: _, _, h => by cases h
  | .d _ :: rs, i, h => by cases i with
    | zero => simp
    | succ i => exact noP_at (rs := rs) (i := i) h
  | .f _ :: rs, i, h => by cases i with
    | zero => simp
    | succ i => exact noP_at (rs := rs) (i := i) h
  | .b _ :: rs, i, h => by cases i with
    | zero => simp
    | succ i => exact noP_at (rs := rs) (i := i) h
  | .o _ :: rs, i, h => by cases i with
    | zero => simp
    | succ i => exact noP_at (rs := rs) (i := i) h
/-- the body of a def, entered -/
theorem enter {B : Bool} {R : DR} {t : XS} {N : List Str} {vs : List V} {H : Hp} {Q : VK} {E : XK} (h : SpD B R vs H Q E) (hn : vs.length ≤ N.length) (hp : ∀ n rs K, R.run n rs K → (B || noP rs) = true)
    (k : ∀ n rs K, R.run n rs K → t.run (okEnd B K) (rs.map (toAV n) ++ List.replicate (N.length - rs.length) .u)) : upS t { nx := fun _ H' => Q .non H', rt := Q } (start N vs) H := by
  obtain ⟨p, M, n, rs, pm, ph, ml, hP, ag, hr⟩ := h
  have hB := hp n rs _ hr
  have lv := arg_len ag
  let Γ : Ga := ⟨B, p, M, H, fun _ _ => True, fun _ _ _ _ _ _ => trivial, [], nofun, nofun⟩
  have noL : ∀ (i : Nat) (xs : List PyData), (rs.map (toAV n) ++ List.replicate (N.length - rs.length) AV.u)[i]? ≠ some (.l xs) := fun i xs e => by
    by_cases z : i < (rs.map (toAV n)).length
    · rw [List.getElem?_append_left z] at e
      obtain ⟨r, _, e⟩ := mapget e
      cases r <;> cases e
    · rw [List.getElem?_append_right (by omega), List.getElem?_replicate] at e
      split at e <;> cases e
  have mx : ∀ a, Mx Γ (rs.map (toAV n) ++ List.replicate (N.length - rs.length) AV.u) TN (start N vs) a ↔ M a := fun a => by
    constructor
    · rintro (z | ⟨i, xs, e, _⟩ | z)
      · exact z
      · exact absurd e (noL i xs)
      · exact z.elim
    · exact fun z => .inl z
  have f : Fit2 M (Mx Γ (rs.map (toAV n) ++ List.replicate (N.length - rs.length) AV.u) TN (start N vs)) H H := Fit2.less fun a z => (mx a).mp z
  have rep : Rep Γ (rs.map (toAV n) ++ List.replicate (N.length - rs.length) AV.u) TN (start N vs) H := by
    refine ⟨?_, pm, ph, ph, fun _ _ _ h => h, ml, fun a h => h.elim, fun i j xs ys h1 _ _ => absurd h1 (noL i xs), fun i e h => ?_, trivial, nofun⟩
    · unfold L2.start
      simp only [List.length_append, List.length_map, List.length_replicate, lv]
    · by_cases z : i < (rs.map (toAV n)).length
      · rw [List.getElem?_append_left z] at h
        obtain ⟨r, hr2, rfl⟩ := mapget h
        obtain ⟨v, hv, ar⟩ := arg_at ag hr2
        have sv : (start N vs)[i]? = some (some v) := by
          unfold L2.start
          rw [List.getElem?_append_left (by rw [List.length_map]; exact (List.getElem?_eq_some_iff.mp hv).1), List.getElem?_map, hv]
          rfl
        rw [sv]
        cases r with
        | d x => exact ⟨v, rfl, Dn.go f ar⟩
        | p =>
          have ar' : v = .ref p := ar
          have hB' : B = true := by
            cases B with
            | true => rfl
            | false =>
              rw [Bool.false_or] at hB
              exact absurd hr2 (noP_at hB)
          exact ⟨by rw [ar'], hP hB', hB'⟩
        | o P => exact ⟨v, rfl, Stb.go f ar⟩
        | f xs => trivial
        | b x => trivial
      · rw [List.getElem?_append_right (by omega), List.getElem?_replicate] at h
        split at h
        · cases h
          trivial
        · cases h
  have nz : ∀ b, ¬ Zp Γ b := fun b ⟨_, z, _⟩ => nomatch z
  refine ⟨Γ, _, rep, t.mono (fun e q σ' H' R' => ?_) (fun r e q v σ' T' H' R' d => ?_) (fun _ (h : False) => h.elim) (fun _ (h : False) => h.elim) (k n rs _ hr)⟩
  · obtain ⟨m, hm, q⟩ := q
    refine q .non H' ?_ .non
    cases B with
    | false => exact fun b o h => R'.ext b o ⟨nofun, nz b⟩ h
    | true => exact ⟨fun b o nb h => R'.ext b o ⟨fun _ => nb, nz b⟩ h, (R'.pail (hm rfl)).1⟩
  · obtain ⟨okr, m, hm, q⟩ := q
    have af : Aft B p H H' m := by
      cases B with
      | false => exact fun b o h => R'.ext b o ⟨nofun, nz b⟩ h
      | true => exact ⟨fun b o nb h => R'.ext b o ⟨fun _ => nb, nz b⟩ h, (R'.pail (hm rfl)).1⟩
    have g : Fit2 (Mx Γ e T' σ') M H' H' := Fit2.less fun a z => .inl z
    refine q v H' af ?_
    cases r with
    | d x => exact Dn.go g d
    | o P => exact Stb.go g d
    | f xs =>
      obtain ⟨a, ws, e1, h0, ht, h1, h2, h3⟩ := d
      exact ⟨a, ws, e1, h0, h1, h2, h3.go (Fit2.less fun b z => by
        rcases z with z | rfl
        · exact .inl z
        · exact .inr (.inr ht))⟩
    | b x => cases okr
    | p => cases okr
/-! ### isinstance -/
def isiD : String → PyData → Option Bool
  | "int", d => some (isInt d || isBl d)
  | "bool", d => some (isBl d)
  | "str", d => some (isStr d)
  | "tuple", d => some (isTup d)
  | _, _ => none
def xIsi (T : String) (t : XE) : XE := ⟨fun ε K => t.run ε fun r ε1 => ∃ d b, r.see = some d ∧ isiD T d = some b ∧ K (.d (.bool b)) ε1, fun h q => t.mono (fun _ _ ⟨d, b, e1, e2, w⟩ => ⟨d, b, e1, e2, h _ _ w⟩) q⟩
theorem See.ty {N : Addr → Prop} {H : Hp} {v : V} {d : PyData} {K : PySem.W.Frag} {p : Addr} (hp : N p) (h : See N H v d) : TyX K H v (.type (tyD d)) := by
  rcases h with h | ⟨y, rfl, rfl, _⟩ | ⟨a, vs, xs, rfl, rfl, h1, _⟩
  · exact (h.rp hp).ty
  · exact .base (.str y)
  · exact .base (.lst h1)
theorem xe_isi {X : Cx} {Ex : Expr} {T : String} {t : XE} {K : PySem.W.Frag} (h : PE X Ex (tCB (rIsi K) (tCons (up t) (tCons (tC (.ty T)) tNil)))) : PE X Ex (up (xIsi T t)) :=
  pe_wk h fun σ H Q ⟨Γ, ε, T0, R, k⟩ => up1 R k fun r x ε1 T1 H1 ⟨d, b, e1, e2, g⟩ R1 s1 d1 => by
    have ty := (d1.see e1).ty (K := K) (p := Γ.p) (.inl R1.pm)
    have fin : ∀ {b' : Bool}, b = b' → PySem.W.kitOne K (.type (tyD d)) (.type T) = some b' → rIsi K [x, .ty T] H1 Q := fun {b'} e kk => ⟨x, .ty T, _, _, b', rfl, .ty T, ty, kk, by rw [← e]; exact g _ T1 H1 R1 s1 (.bl b)⟩
    unfold isiD at e2
    split at e2
    · cases e2; exact fin rfl kit_int
    · cases e2; exact fin rfl kit_bool
    · cases e2; exact fin rfl kit_str
    · cases e2; exact fin rfl kit_tup
    · cases e2
/-! ### anything else, by its own reading -/
def xRaw (W : List AV → (RV → List AV → Prop) → Prop) : XE := ⟨fun ε K => ∃ K0 : RV → List AV → Prop, W ε K0 ∧ ∀ r e, K0 r e → K r e, fun h ⟨K0, w, q⟩ => ⟨K0, w, fun r e z => h r e (q r e z)⟩⟩
theorem xe_raw {X : Cx} {Ex : Expr} {t : TE} {W : List AV → (RV → List AV → Prop) → Prop} (h : PE X Ex t)
    (w : ∀ (Γ : Ga) (ε : List AV) (T : Addr → Prop) (σ : L2.St) (H : Hp) (Q : VK) (K0 : RV → List AV → Prop), W ε K0 → Rep Γ ε T σ H → (∀ r ε' v T' H', K0 r ε' → Rep Γ ε' T' σ H' → Stp Γ ε T ε' T' σ H H' → Den Γ ε' T' σ H r v H' → Q v H') → t σ H Q) : PE X Ex (up (xRaw W)) :=
  pe_wk h fun σ H Q ⟨Γ, ε, T, R, K0, q, k⟩ => w Γ ε T σ H Q K0 q R fun r ε' v T' H' z R' s' d' => k r ε' z v T' H' R' s' d'
end Cs
set_option maxHeartbeats 4000000
/-! Chains; comprehensions in their common forms; what is drawn. -/
namespace Cs
open PySem L2 PyProof.Rows
/-! ### a < b < c -/
def xChain (f f' : F2) (a b c : XE) : XE := ⟨fun ε K => a.run ε fun r ε1 => b.run ε1 fun s ε2 => ∃ d e q, r.see = some d ∧ s.see = some e ∧ f d e = some q ∧ q.1 ∧ ∃ k, q.2 = .d (.bool k) ∧
    if k = true then c.run ε2 fun u ε3 => ∃ g w, u.see = some g ∧ f' e g = some w ∧ w.1 ∧ K w.2 ε3 else K (.d (.bool false)) ε2,
  fun h q => a.mono (fun _ _ q => b.mono (fun _ _ ⟨d, e, q, a1, a2, a3, a4, k, a5, w⟩ => ⟨d, e, q, a1, a2, a3, a4, k, a5, by
    split at w
    · rw [if_pos (by assumption)]
      exact c.mono (fun _ _ ⟨g, u, b1, b2, b3, b4⟩ => ⟨g, u, b1, b2, b3, h _ _ b4⟩) w
    · rw [if_neg (by assumption)]
      exact h _ _ w⟩) q) q⟩
theorem chain_up {g g' : R2} {f f' : F2} {a b c : XE} {σ : L2.St} {H : Hp} {Q : VK} (hl : OpL g f) (hl' : OpL g' f') (h : up (xChain f f' a b c) σ H Q) : tChain g g' (up a) (up b) (up c) σ H Q := by
  obtain ⟨Γ, ε, T, R, k⟩ := h
  refine up2 R k fun r s x y ε2 T2 H2 ⟨d, e, q, e1, e2, e3, e4, k, e5, w⟩ R2 s2 d1 d2 => hl (d1.see e1) (d2.see e2) e3 e4 ?_
  have key : ∃ k', V.bl k = .bl k' ∧ if k' = true then up c σ H2 fun u H3 => g' y u H3 Q else Q (.bl false) H2 := by
    refine ⟨k, rfl, ?_⟩
    split at w
    · rw [if_pos (by assumption)]
      refine up1 R2 w fun u z ε3 T3 H3 ⟨gg, ww, b1, b2, b3, b4⟩ R3 s3 d3 => ?_
      have sA := s2.trans R.hp s3
      exact hl' ((d2.step R2 s3).see e2) (d3.see b1) b2 b3 (outs R R3 sA fun r er v T' H' R' s' d' => by subst er; exact b4 v T' H' R' s' d')
    · rw [if_neg (by assumption)]
      exact w _ T2 H2 R2 s2 (.bl _)
  rw [e5]
  refine ⟨fun v cc er dn => ?_, fun _ _ _ er => (nomatch er), fun _ _ _ er => (nomatch er), fun _ er => (nomatch er)⟩
  cases er
  cases dn
  exact key
theorem x_chain {X : Cx} {E : Expr} {g g' : R2} {f f' : F2} {a b c : XE} (h : PE X E (tChain g g' (up a) (up b) (up c))) (hl : OpL g f) (hl' : OpL g' f') : PE X E (up (xChain f f' a b c)) := pe_wk h fun _ _ _ q => chain_up hl hl' q
theorem xt_chain {X : Cx} {E : Expr} {g g' : R2} {f f' : F2} {a b c : XE} (h : PT X E (tTest (tChain g g' (up a) (up b) (up c)))) (hl : OpL g f) (hl' : OpL g' f') : PT X E (upT (xTest (xChain f f' a b c))) := xt_of (tTest_wk h fun _ _ _ q => chain_up hl hl' q)
/-! ### three names at once -/
theorem xs_par3 {X : Cx} {st : Stmt} {i j l : Nat} {w1 w2 w3 : Bool} {t : XA} (h : PS X st (tPar3 i j l (upA t))) : PS X st (upS (xSets [(w1, i), (w2, j), (w3, l)] t)) := ps_wk h fun D σ H ⟨Γ, ε, R, k⟩ =>
  upA1 R k fun rs vs ε1 T1 H1 ⟨ε2, he, g⟩ R1 s1 d1 => by
    obtain ⟨T', R'⟩ := sets_ok _ rs vs ε1 T1 σ ε2 R1 d1 he
    have len : ∃ a b c, vs = [a, b, c] := by
      cases d1 with
      | nil => cases he
      | @cons r v rs vs _ d t n =>
        unfold setsR at he
        split at he
        · cases t with
          | nil => cases he
          | @cons r' v' rs vs _ d' t n' =>
            unfold setsR at he
            split at he
            · cases t with
              | nil => cases he
              | @cons r2 v2 rs vs _ d2 t n2 =>
                unfold setsR at he
                split at he
                · cases t with
                  | nil => exact ⟨_, _, _, rfl⟩
                  | cons d3 t3 => cases he
                · cases he
            · cases he
        · cases he
    obtain ⟨a, b, c, rfl⟩ := len
    exact ⟨a, b, c, rfl, g _ H1 R'.nil⟩
/-! ### comprehensions -/
section
variable {it : XI} {g : XG} {tt : XT} {te : XE} {vs : List Nat} {ε : List AV} {K : RV → List AV → Prop}
theorem lcTurn_mono {d : PyData} {ε : List AV} {Y Y' : PyData → List AV → Prop} {Z Z' : List AV → Prop} (hy : ∀ x e, Y x e → Y' x e) (hz : ∀ e, Z e → Z' e) (h : lcTurn g tt te vs d ε Y Z) : lcTurn g tt te vs d ε Y' Z' :=
  g.mono (fun _ q => tt.mono (fun b _ q => by
    split at q
    · rw [if_pos (by assumption)]
      exact te.mono (fun r e' hq => by
        obtain ⟨x, e, y⟩ := hq
        exact ⟨x, e, hy _ _ y⟩) q
    · rw [if_neg (by assumption)]
      exact hz _ q) q) h
/-- each gives one, by a function of it -/
theorem lc_map (f : PyData → PyData) (h : it.run ε fun ds _ ε1 => ds.length ≤ 1000 ∧ (∀ d ∈ ds, lcTurn g tt te vs d (wipeA ε1 vs) (fun x e => x = f d ∧ e = wipeA ε1 vs) fun _ => False) ∧ K (.f (ds.map f)) (wipeA ε1 vs)) : (xLc it g tt te vs).run ε K := by
  rw [xLc_run]
  refine it.mono (fun ds fl ε1 q => ?_) h
  obtain ⟨hl, hs, k⟩ := q
  refine ⟨hl, fun i acc e => acc = (ds.take i).map f ∧ e = wipeA ε1 vs, ⟨ε1, ⟨rfl, rfl⟩, rfl⟩, fun acc e w => ?_, fun i d acc e hd w => ?_⟩
  · rw [w.1, w.2, List.take_of_length_le (Nat.le_refl _)]
    exact k
  · rw [w.2, w.1]
    refine lcTurn_mono (fun x e' q => ⟨?_, q.2⟩) (fun _ q => q.elim) (hs d (List.mem_of_getElem? hd))
    rw [take_snoc hd, List.map_append, q.1]
    rfl
/-- the same by the place -/
theorem lc_es (es : List PyData) (h : it.run ε fun ds _ ε1 => es.length = ds.length ∧ ds.length ≤ 1000 ∧ (∀ (i : Nat) (d x : PyData), ds[i]? = some d → es[i]? = some x → lcTurn g tt te vs d (wipeA ε1 vs) (fun y e => y = x ∧ e = wipeA ε1 vs) fun _ => False) ∧ K (.f es) (wipeA ε1 vs)) : (xLc it g tt te vs).run ε K := by
  rw [xLc_run]
  refine it.mono (fun ds fl ε1 q => ?_) h
  obtain ⟨he, hl, hs, k⟩ := q
  refine ⟨hl, fun i acc e => acc = es.take i ∧ e = wipeA ε1 vs, ⟨ε1, ⟨rfl, rfl⟩, rfl⟩, fun acc e w => ?_, fun i d acc e hd w => ?_⟩
  · rw [w.1, w.2, List.take_of_length_le (by omega)]
    exact k
  · rw [w.2, w.1]
    have hi := (List.getElem?_eq_some_iff.mp hd).1
    have hx : es[i]? = some es[i] := List.getElem?_eq_getElem (by omega)
    refine lcTurn_mono (fun x e' q => ⟨?_, q.2⟩) (fun _ q => q.elim) (hs i d _ hd hx)
    rw [take_snoc hx, q.1]
/-- what passes a test is kept -/
theorem lc_fil (f : PyData → Option PyData) (h : it.run ε fun ds _ ε1 => ds.length ≤ 1000 ∧ (∀ d ∈ ds, lcTurn g tt te vs d (wipeA ε1 vs) (fun x e => f d = some x ∧ e = wipeA ε1 vs) fun e => f d = none ∧ e = wipeA ε1 vs) ∧ K (.f (ds.filterMap f)) (wipeA ε1 vs)) : (xLc it g tt te vs).run ε K := by
  rw [xLc_run]
  refine it.mono (fun ds fl ε1 q => ?_) h
  obtain ⟨hl, hs, k⟩ := q
  refine ⟨hl, fun i acc e => acc = (ds.take i).filterMap f ∧ e = wipeA ε1 vs, ⟨ε1, ⟨rfl, rfl⟩, rfl⟩, fun acc e w => ?_, fun i d acc e hd w => ?_⟩
  · rw [w.1, w.2, List.take_of_length_le (Nat.le_refl _)]
    exact k
  · rw [w.2, w.1]
    refine lcTurn_mono (fun x e' q => ⟨?_, q.2⟩) (fun e' q => ⟨?_, q.2⟩) (hs d (List.mem_of_getElem? hd))
    · rw [fil_yes hd q.1]
    · rw [fil_no hd q.1]
/-- each is drawn -/
theorem lc_drw (εf : Nat → List AV) (n c : Nat) (ok : Nat → PyData → PyData → Prop) (h : it.run ε fun ds _ ε1 => wipeA (εf n) vs = wipeA ε1 vs ∧ ds.length ≤ 1000 ∧ (∀ (i : Nat) (d : PyData), ds[i]? = some d → lcTurn g tt te vs d (wipeA (εf (n + c * i)) vs) (fun x e => ok i d x ∧ e = wipeA (εf (n + c * i + c)) vs) fun _ => False) ∧
    ∀ es : List PyData, es.length = ds.length → (∀ (i : Nat) (d x : PyData), ds[i]? = some d → es[i]? = some x → ok i d x) → K (.f es) (wipeA (εf (n + c * ds.length)) vs)) : (xLc it g tt te vs).run ε K := by
  rw [xLc_run]
  refine it.mono (fun ds fl ε1 q => ?_) h
  obtain ⟨h0, hl, hs, k⟩ := q
  refine ⟨hl, fun i acc e => acc.length = i ∧ (∀ (j : Nat) (d x : PyData), ds[j]? = some d → acc[j]? = some x → ok j d x) ∧ e = wipeA (εf (n + c * i)) vs, ⟨ε1, ⟨rfl, fun j d x _ h => by simp at h, by rw [Nat.mul_zero, Nat.add_zero, h0]⟩, rfl⟩, fun acc e w => ?_, fun i d acc e hd w => ?_⟩
  · rw [w.2.2]
    exact k acc w.1 w.2.1
  · rw [w.2.2]
    refine lcTurn_mono (fun x e' q => ⟨by rw [List.length_append, w.1]; rfl, fun j d' x' hd' hx' => ?_, by rw [q.2, Nat.mul_succ, Nat.add_assoc]⟩) (fun _ q => q.elim) (hs i d hd)
    by_cases hj : j < acc.length
    · rw [List.getElem?_append_left hj] at hx'
      exact w.2.1 j d' x' hd' hx'
    · rw [List.getElem?_append_right (by omega)] at hx'
      have hj2 : j = i := by
        have z := (List.getElem?_eq_some_iff.mp hx').1
        rw [List.length_singleton] at z
        have := w.1
        omega
      subst hj2
      rw [w.1, Nat.sub_self] at hx'
      cases hx'
      rw [hd] at hd'
      cases hd'
      exact q.1
/-- a loop -/
theorem for_W {b : XS} {D : XEnds} (W : Nat → List AV → Prop) (h : it.run ε fun ds fl ε1 => fl = true ∧ W 0 ε1 ∧ (∀ e, W ds.length e → D.nx e) ∧ ∀ (i : Nat) (d : PyData) (e : List AV), ds[i]? = some d → W i e → g.run d e fun e2 => b.run { D with nx := W (i + 1), ct := W (i + 1), bk := D.nx } e2) : (xFor it g b).run D ε := by
  refine it.mono (fun ds fl ε1 q => ?_) h
  obtain ⟨h1, h2, h3, h4⟩ := q
  exact ⟨h1, W, h2, h3, h4⟩
end
end Cs
namespace Cs
open PySem L2 PyProof.Rows
theorem atI_ok {α : Type} {ds : List α} {r : Int} (h0 : 0 ≤ r) (h1 : r < ds.length) : ∃ d, ds[r.toNat]? = some d ∧ L2.atI ds r = some d := by
  have h : r.toNat < ds.length := by omega
  refine ⟨ds[r.toNat], List.getElem?_eq_getElem h, ?_⟩
  have := atI_nat (List.getElem?_eq_getElem h)
  rw [show ((r.toNat : Nat) : Int) = r by omega] at this
  exact this
theorem fIx_l {ds : List PyData} {r : Int} {d : PyData} (h : L2.atI ds r = some d) : fIx (.list ds) (.int r) = some (True, .d d) := by
  show (L2.atI ds r).map _ = _
  rw [h]
  rfl
theorem fIx_t {ds : List PyData} {r : Int} {d : PyData} (h : L2.atI ds r = some d) : fIx (.tuple ds) (.int r) = some (True, .d d) := by
  show (L2.atI ds r).map _ = _
  rw [h]
  rfl
theorem byIf {b : Prop} [Decidable b] {P Q : Prop} (h1 : b → P) (h2 : ¬ b → Q) : if b then P else Q := by
  split
  · exact h1 (by assumption)
  · exact h2 (by assumption)
/-- by its number -/
def onI (g : Int → PyData) : PyData → PyData
  | .int i => g i
  | d => d
theorem onI_map {g : Int → PyData} {xs : List Int} : (xs.map PyData.int).map (onI g) = xs.map g := by rw [List.map_map]; rfl
end Cs
set_option maxHeartbeats 4000000
/-! Methods, properties, calls by keywords over data; tuples known whole. -/
namespace Cs
open PySem L2 PyProof.Rows
/-- an instance of C, without an attribute of that name of its own -/
def InsM (C : Addr) (m : Str) (P : V → Hp → Prop) : Prop := ∀ v H, P v H → ∃ a dx fs, v = .ref a ∧ H a = some (.ins C dx fs) ∧ fs.lookup m = none
def xMeth (C : Addr) (m : Str) (B : Bool) (R : DR) (o : XE) (a : XA) : XE := ⟨fun ε K => o.run ε fun r ε1 => ∃ P, r = .o P ∧ InsM C m P ∧ a.run ε1 fun rs ε2 => ∃ rs' n, kas rs = some rs' ∧ (B = true → pnOf ε2 = some n) ∧ R.run n (.o P :: rs') fun r n' => okRes r = true ∧ K r (aftP B n' ε2),
  fun h q => o.mono (fun _ _ ⟨P, e, i, q⟩ => ⟨P, e, i, a.mono (fun _ _ ⟨rs, n, e1, e2, w⟩ => ⟨rs, n, e1, e2, R.mono (fun _ _ k => ⟨k.1, h _ _ k.2⟩) w⟩) q⟩) q⟩
theorem x_meth {X : Cx} {Ex : Expr} {C : Addr} {m : Str} {B : Bool} {R : DR} {o : XE} {a : XA} {E : XK} {sp : Sp} (h : PE X Ex (tMeth C m sp [] E (up o) (upA a))) (ad : ∀ vs H Q, SpD B R vs H Q E → sp vs H Q E) : PE X Ex (up (xMeth C m B R o a)) :=
  pe_wk h fun σ H Q ⟨Γ, ε, T, R0, k⟩ => up1 R0 k fun r x ε1 T1 H1 ⟨P, er, im, g⟩ R1 s1 d1 => by
    subst er
    have hP : P x H1 := d1 H1 fun _ _ _ h => h
    obtain ⟨b, dx, fs, rfl, hb, hl⟩ := im x H1 hP
    refine ⟨b, dx, fs, rfl, hb, hl, upA1 R1 g fun rs vs ε2 T2 H2 ⟨rs', n, e1, e2, w⟩ R2 s2 d2 => ?_⟩
    rw [List.append_nil]
    have dd : DenA Γ ε2 T2 σ H (.o P :: rs) (.ref b :: vs) H2 := .cons (d1.step R1 s2) (d2.early fun a => s1.none R0.hp) (fun xs a e => nomatch e)
    have e1' : kas (.o P :: rs) = some (.o P :: rs') := by
      show (kas rs).map _ = _
      rw [e1]
      rfl
    exact ad _ H2 Q (call_core (K := fun r ε' => ∀ v T' H', Rep Γ ε' T' σ H' → Stp Γ ε T ε' T' σ H H' → Den Γ ε' T' σ H r v H' → Q v H') R0 R2 (s1.trans R0.hp s2) dd e1' (fun h => h) e2 w fun r ε' v T' H' w R' s' d' => w v T' H' R' s' d')
def xProp (C : Addr) (R : DR) (o : XE) : XE := ⟨fun ε K => o.run ε fun r ε1 => ∃ P, r = .o P ∧ (∀ v H, P v H → ∃ a dx fs, v = .ref a ∧ H a = some (.ins C dx fs)) ∧ R.run 0 [.o P] fun r n' => okRes r = true ∧ K r ε1,
  fun h q => o.mono (fun _ _ ⟨P, e, i, w⟩ => ⟨P, e, i, R.mono (fun _ _ k => ⟨k.1, h _ _ k.2⟩) w⟩) q⟩
theorem x_prop {X : Cx} {Ex : Expr} {C : Addr} {R : DR} {o : XE} {E : XK} {sp : Sp} (h : PE X Ex (tProp C sp [] E (up o))) (ad : ∀ vs H Q, SpD false R vs H Q E → sp vs H Q E) : PE X Ex (up (xProp C R o)) :=
  pe_wk h fun σ H Q ⟨Γ, ε, T, R0, k⟩ => up1 R0 k fun r x ε1 T1 H1 ⟨P, er, im, w⟩ R1 s1 d1 => by
    subst er
    have hP : P x H1 := d1 H1 fun _ _ _ h => h
    obtain ⟨b, dx, fs, rfl, hb⟩ := im x H1 hP
    refine ⟨b, dx, fs, rfl, hb, ?_⟩
    have dd : DenA Γ ε1 T1 σ H [.o P] [.ref b] H1 := .cons d1 .nil (fun xs a e => nomatch e)
    exact ad _ H1 Q (call_core (B := false) (K := fun r ε' => ∀ v T' H', Rep Γ ε' T' σ H' → Stp Γ ε T ε' T' σ H H' → Den Γ ε' T' σ H r v H' → Q v H') R0 R1 s1 dd rfl (fun h => h) nofun w fun r ε' v T' H' w R' s' d' => w v T' H' R' s' d')
/-! ### calls by keywords alone -/
theorem xk_nil {X : Cx} : PK X [] (upA xNil) := ⟨fun pos pins s σ H Q I ⟨Γ, ε, T, R, k⟩ => pk_nil.run pos pins s σ H Q I (k [] T H R (.refl R) .nil)⟩
theorem xk_cons {X : Cx} {nm : Option Str} {e : Expr} {kpos : Pos} {kws : List Keyword} {a : XE} {b : XA} (ha : PE X e (up a)) (hb : PK X kws (upA b)) : PK X (⟨nm, e, kpos⟩ :: kws) (upA (xCons a b)) := ⟨fun pos pins s σ H Q I ⟨Γ, ε, T, R, k⟩ => (pk_cons ha hb).run pos pins s σ H Q I
  (up1 R k fun r x ε1 T1 H1 g R1 s1 d1 => upA1 R1 g fun rs xs ε2 T2 H2 g2 R2 s2 d2 => g2 _ T2 H2 R2 (s1.trans R.hp s2) (.cons (d1.step R1 s2) (d2.early fun a => s1.none R.hp) fun ys a er ev k zs h1 h2 => by
    have h0 := d2.fr k zs a h1 h2
    subst er
    obtain ⟨b, ws, e, _, _, h3, _⟩ := d1
    rw [ev] at e
    cases e
    rw [h0] at h3
    cases h3))⟩
theorem argA_app {p : Addr} {M : Addr → Prop} {H : Hp} : ∀ {rs qs : List RV} {vs ws : List V}, ArgA p M H rs vs → ArgA p M H qs ws → ArgA p M H (rs ++ qs) (vs ++ ws)
  | _, _, _, _, .nil, s => s
  | _, _, _, _, .cons h t, s => .cons h (argA_app t s)
theorem argA_rev {p : Addr} {M : Addr → Prop} {H : Hp} : ∀ {rs : List RV} {vs : List V}, ArgA p M H rs vs → ArgA p M H rs.reverse vs.reverse
  | _, _, .nil => .nil
  | _, _, .cons h t => by
    rw [List.reverse_cons, List.reverse_cons]
    exact argA_app (argA_rev t) (.cons h .nil)
/-- rv: whether they stand the other way round -/
def xCallK (rv B : Bool) (R : DR) (a : XA) : XE := ⟨fun ε K => a.run ε fun rs ε1 => ∃ rs' n, kas rs = some rs' ∧ (B = true → pnOf ε1 = some n) ∧ R.run n (if rv then rs'.reverse else rs') fun r n' => okRes r = true ∧ K r (aftP B n' ε1),
  fun h q => a.mono (fun _ _ ⟨rs, n, e1, e2, w⟩ => ⟨rs, n, e1, e2, R.mono (fun _ _ k => ⟨k.1, h _ _ k.2⟩) w⟩) q⟩
theorem x_callK {X : Cx} {Ex : Expr} {rv B : Bool} {R : DR} {a : XA} {E : XK} {sp : Sp} {m : Nat} (h : PE X Ex (tCallN 0 m sp (fun vs zs => vs ++ if rv then zs.reverse else zs) E tNil (upA a))) (hm : ∀ n rs K, R.run n rs K → rs.length = m) (ad : ∀ vs H Q, SpD B R vs H Q E → sp vs H Q E) : PE X Ex (up (xCallK rv B R a)) :=
  pe_wk h fun σ H Q ⟨Γ, ε, T, R0, k⟩ => upA1 R0 k fun rs vs ε1 T1 H1 ⟨rs', n, e1, e2, w⟩ R1 s1 d1 => by
    have key : ∀ {p : Addr} {M : Addr → Prop} {H : Hp}, ArgA p M H rs' vs → ArgA p M H (if rv then rs'.reverse else rs') (if rv then vs.reverse else vs) := fun {p M H} hq => by
      cases rv with
      | true => exact argA_rev hq
      | false => exact hq
    have l1 := arg_len (kas_arg R0 R1 s1 d1 e1)
    have l2 := hm _ _ _ w
    refine ⟨rfl, ?_, ad _ H1 Q (call_core (K := fun r ε' => ∀ v T' H', Rep Γ ε' T' σ H' → Stp Γ ε T ε' T' σ H H' → Den Γ ε' T' σ H r v H' → Q v H') R0 R1 s1 d1 e1 key e2 w fun r ε' v T' H' w R' s' d' => w v T' H' R' s' d')⟩
    rw [l1, ← l2]
    cases rv with
    | true => exact List.length_reverse.symm
    | false => rfl
/-! ### tuples known whole -/
def NF : Addr → Prop := fun _ => False
def WhP (ds : List PyData) : V → Hp → Prop := fun v H => ∃ l vs, v = .ref l ∧ Fz H l vs ∧ vs.length ≤ 1000 ∧ DnA NF H vs ds
theorem Stb.now {N : Addr → Prop} {H : Hp} {P : V → Hp → Prop} {v : V} (h : Stb N H P v) : P v H := h H fun _ _ _ h => h
mutual
/-- neither list nor dict stands in it -/
def imm : PyData → Bool
  | .list _ => false
  | .dict _ => false
  | .tuple ds => imms ds
  | _ => true
def imms : List PyData → Bool
  | [] => true
  | d :: ds => imm d && imms ds
end
theorem imms_map {α : Type} {f : α → PyData} : ∀ {xs : List α}, (∀ x ∈ xs, imm (f x) = true) → imms (xs.map f) = true
  | [], _ => rfl
  | x :: xs, h => by
    show (imm (f x) && imms (xs.map f)) = true
    rw [h x List.mem_cons_self, imms_map fun y hy => h y (List.mem_cons_of_mem _ hy)]
    rfl
mutual
theorem Dn.imm {N N' : Addr → Prop} {H : Hp} (hn : ∀ a xs, Rd H a (.tup xs) → ¬ N' a) : ∀ {v : V} {d : PyData}, Dn N H v d → Cs.imm d = true → Dn N' H v d
  | _, _, .non, _ => .non
  | _, _, .bl b, _ => .bl b
  | _, _, .int i, _ => .int i
  | _, _, .str x h, _ => .str x h
  | _, _, .lst _ _ _ _, e => by cases e
  | _, _, .tup n h z r, e => .tup (hn _ _ h) h z (DnA.imm hn r e)
  | _, _, .dct _ _, e => by cases e
theorem DnA.imm {N N' : Addr → Prop} {H : Hp} (hn : ∀ a xs, Rd H a (.tup xs) → ¬ N' a) : ∀ {vs : List V} {ds : List PyData}, DnA N H vs ds → Cs.imms ds = true → DnA N' H vs ds
  | _, _, .nil, _ => .nil
  | _, _, .cons h t, e => by
    have e' : (_ && _) = true := e
    rw [Bool.and_eq_true] at e'
    exact .cons (Dn.imm hn h e'.1) (DnA.imm hn t e'.2)
end
mutual
theorem Dn.rpt {N : Addr → Prop} {H : Hp} {p : Addr} (hp : ∀ xs, ¬ Rd H p (.tup xs)) : ∀ {v : V} {d : PyData}, Dn N H v d → Cs.imm d = true → RpT p H v d
  | _, _, .non, _ => .non
  | _, _, .bl b, _ => .bl b
  | _, _, .int i, _ => .int i
  | _, _, .str x h, _ => .str x h
  | _, _, .lst _ _ _ _, e => by cases e
  | _, _, .tup n h z r, e => .tup (fun q => hp _ (q ▸ h)) h z (DnA.rpt hp r e)
  | _, _, .dct _ _, e => by cases e
theorem DnA.rpt {N : Addr → Prop} {H : Hp} {p : Addr} (hp : ∀ xs, ¬ Rd H p (.tup xs)) : ∀ {vs : List V} {ds : List PyData}, DnA N H vs ds → Cs.imms ds = true → RpTA p H vs ds
  | _, _, .nil, _ => .nil
  | _, _, .cons h t, e => by
    have e' : (_ && _) = true := e
    rw [Bool.and_eq_true] at e'
    exact .cons (Dn.rpt hp h e'.1) (DnA.rpt hp t e'.2)
end
theorem not_tup {H : Hp} {p : Addr} (h : ∃ o, H p = some (.lst o)) : ∀ xs, ¬ Rd H p (.tup xs) := fun xs r => by
  obtain ⟨o, e⟩ := h
  rcases r with r | ⟨u, r⟩ <;> (rw [e] at r; cases r)
/-- addresses of lists, and p: no tuple is among them -/
theorem no_tup {M : Addr → Prop} {H : Hp} {p : Addr} (ml : ∀ a, M a → a = p ∨ Ls H a) (hp : ∀ xs, ¬ Rd H p (.tup xs)) : ∀ a xs, Rd H a (.tup xs) → ¬ M a := fun a xs h m => by
  rcases ml a m with rfl | ⟨ys, e⟩ | ⟨ys, e⟩
  · exact hp xs h
  · rcases h with h | ⟨o, h⟩ <;> (rw [e] at h; cases h)
  · rcases h with h | ⟨o, h⟩ <;> (rw [e] at h; cases h)
theorem Ls.exb {H H' : Hp} {a p : Addr} (h : Ls H a) (n : a ≠ p) (s : ∀ b o, b ≠ p → H b = some o → H' b = some o) : Ls H' a := by
  rcases h with ⟨x, e⟩ | ⟨x, e⟩
  · exact .inl ⟨x, s _ _ n e⟩
  · exact .inr ⟨x, s _ _ n e⟩
theorem Ls.keep {H H' : Hp} {a : Addr} (h : Ls H a) (s : ∀ b o, H b = some o → H' b = some o) : Ls H' a := by
  rcases h with ⟨x, e⟩ | ⟨x, e⟩
  · exact .inl ⟨x, s _ _ e⟩
  · exact .inr ⟨x, s _ _ e⟩
end Cs
namespace Cs
open PySem L2 PyProof.Rows
/-! ### numbers of places -/
def natD (ks : List Nat) : List PyData := ks.map fun k => PyData.int (k : Nat)
theorem rg_nat {n : Nat} : rgD 0 ((n : Nat) : Int).toNat = natD (List.range n) := by
  unfold rgD natD
  rw [Int.toNat_natCast]
  refine List.map_congr_left fun i _ => ?_
  rw [Int.zero_add]
theorem rg_lit {n : Nat} : rgD 0 n = natD (List.range n) := by
  unfold rgD natD
  refine List.map_congr_left fun i _ => ?_
  rw [Int.zero_add]
def filN (c : Nat → Bool) : PyData → Option PyData
  | .int i => if c i.toNat = true then some (.int i) else none
  | _ => none
theorem filN_nat {c : Nat → Bool} : ∀ {ks : List Nat}, (natD ks).filterMap (filN c) = natD (ks.filter c)
  | [] => rfl
  | k :: ks => by
    have e : filN c (PyData.int (k : Nat)) = if c k = true then some (PyData.int (k : Nat)) else none := by
      show (if c ((k : Nat) : Int).toNat = true then _ else _) = _
      rw [Int.toNat_natCast]
    show (PyData.int (k : Nat) :: natD ks).filterMap (filN c) = _
    rw [List.filterMap_cons, filN_nat (ks := ks), List.filter_cons, e]
    cases c k <;> rfl
theorem natD_len {ks : List Nat} : (natD ks).length = ks.length := List.length_map _
theorem natD_mem {ks : List Nat} {d : PyData} (h : d ∈ natD ks) : ∃ k, k ∈ ks ∧ d = .int (k : Nat) := by
  obtain ⟨k, hk, rfl⟩ := List.mem_map.mp h
  exact ⟨k, hk, rfl⟩
theorem natD_app {ks ls : List Nat} : natD ks ++ natD ls = natD (ks ++ ls) := by
  unfold natD
  rw [List.map_append]
theorem natD_flat {ks : List Nat} : (natD ks).all flatD = true := by
  unfold natD
  rw [List.all_map, List.all_eq_true]
  intro _ _
  rfl
theorem natD_any {ks : List Nat} {k : Nat} : ((natD ks).any fun y => y.eqv (.int (k : Nat))) = ks.contains k := by
  unfold natD
  induction ks with
  | nil => rfl
  | cons x ks ih =>
    rw [List.map_cons, List.any_cons, ih, List.contains_cons]
    congr 1
    show (((x : Nat) : Int) == ((k : Nat) : Int)) = (k == x)
    rw [Bool.eq_iff_iff, beq_iff_eq, beq_iff_eq]
    omega
theorem natD_ints {ks : List Nat} : intsD (natD ks) = some (ks.map fun k => ((k : Nat) : Int)) := by
  have := intsD_map (ks.map fun k => ((k : Nat) : Int))
  rw [List.map_map] at this
  exact this
theorem fMax_t {xs : List Int} (h : xs ≠ []) : fMax [.tuple (xs.map PyData.int)] = some (xs ≠ [], .d (.int (maxI xs))) := by
  show (intsD (xs.map PyData.int)).map _ = _
  rw [intsD_map]
  rfl
theorem fMax_l {xs : List Int} : fMax [.list (xs.map PyData.int)] = some (xs ≠ [], .d (.int (maxI xs))) := by
  show (intsD (xs.map PyData.int)).map _ = _
  rw [intsD_map]
  rfl
theorem fMin_l {xs : List Int} : fMin [.list (xs.map PyData.int)] = some (xs ≠ [], .d (.int (minI xs))) := by
  show (intsD (xs.map PyData.int)).map _ = _
  rw [intsD_map]
  rfl
/-- what is sorted of places that are all told by a test -/
theorem srt_nat {ks : List Nat} {n : Nat} {c : Nat → Bool} (nd : ks.Nodup) (h : ∀ k, k ∈ ks ↔ k < n ∧ c k = true) : srt (ks.map fun k => ((k : Nat) : Int)) = ((List.range n).filter c).map fun k => ((k : Nat) : Int) := by
  symm
  refine srt_un ?_ ?_
  · refine List.Perm.map _ ?_
    refine (List.perm_ext_iff_of_nodup (List.nodup_range.filter _) nd).mpr fun k => ?_
    rw [List.mem_filter, List.mem_range, h k]
  · rw [List.pairwise_map]
    refine List.Pairwise.imp (R := (· < ·)) (fun h => by omega) ?_
    exact List.pairwise_lt_range.filter _
end Cs
namespace Cs
open PySem L2 PyProof.Rows
theorem fin_n (ks : List Nat) (k : Nat) : ∃ P : Prop, fIn true (.int (k : Nat)) (.list (natD ks)) = some (P, .d (.bool (!ks.contains k))) ∧ P := by
  rw [← natD_any]
  exact ⟨_, rfl, rfl, (fun y e => nomatch e), natD_flat⟩
theorem fin_y (ks : List Nat) (k : Nat) : ∃ P : Prop, fIn false (.int (k : Nat)) (.list (natD ks)) = some (P, .d (.bool (ks.contains k))) ∧ P := by
  rw [← natD_any]
  exact ⟨_, rfl, rfl, (fun y e => nomatch e), natD_flat⟩
theorem filN_at {c : Nat → Bool} {k : Nat} : filN c (.int (k : Nat)) = if c k = true then some (.int (k : Nat)) else none := by
  show (if c ((k : Nat) : Int).toNat = true then _ else _) = _
  rw [Int.toNat_natCast]
/-- strings -/
def strD (xs : List Str) : List PyData := xs.map PyData.str
theorem strD_flat {xs : List Str} : (strD xs).all flatD = true := by
  unfold strD
  rw [List.all_map, List.all_eq_true]
  intro _ _
  rfl
theorem strD_any {xs : List Str} {x : Str} : ((strD xs).any fun y => y.eqv (.str x)) = xs.contains x := by
  unfold strD
  induction xs with
  | nil => rfl
  | cons y xs ih =>
    rw [List.map_cons, List.any_cons, ih, List.contains_cons]
    congr 1
    show (y == x) = (x == y)
    rw [Bool.eq_iff_iff, beq_iff_eq, beq_iff_eq]
    exact eq_comm
theorem fins_n {xs : List Str} {x : Str} (hx : x.length ≤ 1000) : ∃ P : Prop, fIn true (.str x) (.tuple (strD xs)) = some (P, .d (.bool (!xs.contains x))) ∧ P := by
  rw [← strD_any]
  exact ⟨_, rfl, rfl, (fun y e => by cases e; exact hx), strD_flat⟩
theorem fins_y {xs : List Str} {x : Str} (hx : x.length ≤ 1000) : ∃ P : Prop, fIn false (.str x) (.tuple (strD xs)) = some (P, .d (.bool (xs.contains x))) ∧ P := by
  rw [← strD_any]
  exact ⟨_, rfl, rfl, (fun y e => by cases e; exact hx), strD_flat⟩
end Cs
namespace Cs
open PySem L2 PyProof.Rows
theorem lay_all : ∀ {ds : List PyData}, (∀ d ∈ ds, d.canLay0 = true) → PyData.canLayAll0 ds = true
  | [], _ => rfl
  | d :: ds, h => by
    show (d.canLay0 && PyData.canLayAll0 ds) = true
    rw [h d List.mem_cons_self, lay_all fun e he => h e (List.mem_cons_of_mem _ he)]
    rfl
theorem dep_all {b : Nat} : ∀ {ds : List PyData}, (∀ d ∈ ds, d.depth ≤ b) → PyData.depthAll ds ≤ b
  | [], _ => Nat.zero_le _
  | d :: ds, h => by
    have h1 := h d List.mem_cons_self
    have h2 := dep_all fun e he => h e (List.mem_cons_of_mem _ he)
    show max d.depth (PyData.depthAll ds) ≤ b
    omega
/-- data that may be laid, of a depth -/
def ShD (b : Nat) (d : PyData) : Prop := d.canLay0 = true ∧ d.depth ≤ b
theorem ShD.list {b : Nat} {ds : List PyData} (h : ∀ d ∈ ds, ShD b d) : ShD (b + 1) (.list ds) := ⟨lay_all fun d hd => (h d hd).1, by
  rw [PyData.depth]
  have := dep_all fun d hd => (h d hd).2
  omega⟩
theorem ShD.tup {b : Nat} {ds : List PyData} (h : ∀ d ∈ ds, ShD b d) : ShD (b + 1) (.tuple ds) := ⟨lay_all fun d hd => (h d hd).1, by
  rw [PyData.depth]
  have := dep_all fun d hd => (h d hd).2
  omega⟩
theorem ShD.int {b : Nat} {i : Int} : ShD b (.int i) := ⟨rfl, Nat.zero_le _⟩
theorem ShD.bool {b : Nat} {i : Bool} : ShD b (.bool i) := ⟨rfl, Nat.zero_le _⟩
theorem ShD.none {b : Nat} : ShD b .none := ⟨rfl, Nat.zero_le _⟩
theorem ShD.up {b c : Nat} {d : PyData} (h : ShD b d) (k : b ≤ c) : ShD c d := ⟨h.1, Nat.le_trans h.2 k⟩
theorem ShD.sh {b : Nat} {d : PyData} (h : ShD b d) (k : b ≤ 64) : SeqAt.shaped d = true := by
  show (d.canLay0 && decide (d.depth ≤ 64)) = true
  rw [h.1, decide_eq_true (Nat.le_trans h.2 k)]
  rfl
theorem eqv_nil {ds : List PyData} : (PyData.list ds).eqv (.list []) = ds.isEmpty := by cases ds <;> rfl
theorem fEq_nil {ds : List PyData} {b : Nat} (h : ∀ d ∈ ds, ShD b d) (hb : b < 64) : ∃ P : Prop, fEq (.list ds) (.list []) = some (P, .d (.bool ds.isEmpty)) ∧ P := by
  rw [← eqv_nil]
  exact ⟨_, rfl, (ShD.list h).sh (by omega), rfl⟩
theorem fNe_nil {ds : List PyData} {b : Nat} (h : ∀ d ∈ ds, ShD b d) (hb : b < 64) : ∃ P : Prop, fNe (.list ds) (.list []) = some (P, .d (.bool !ds.isEmpty)) ∧ P := by
  rw [← eqv_nil]
  exact ⟨_, rfl, (ShD.list h).sh (by omega), rfl⟩
mutual
theorem eqv_refl : ∀ {d : PyData}, d.canLay0 = true → d.eqv d = true
  | .none, _ => rfl
  | .bool b, _ => by show (b == b) = true; exact beq_self_eq_true b
  | .int i, _ => by show (i == i) = true; exact beq_self_eq_true i
  | .str x, _ => by show (x == x) = true; exact beq_self_eq_true x
  | .list xs, h => eqv_refls h
  | .tuple xs, h => eqv_refls h
  | .dict _, h => by cases h
theorem eqv_refls : ∀ {ds : List PyData}, PyData.canLayAll0 ds = true → PyData.eqvAll ds ds = true
  | [], _ => rfl
  | d :: ds, h => by
    have h' : (d.canLay0 && PyData.canLayAll0 ds) = true := h
    rw [Bool.and_eq_true] at h'
    show (d.eqv d && PyData.eqvAll ds ds) = true
    rw [eqv_refl h'.1, eqv_refls h'.2]
    rfl
end
/-- the same twice, of what is no text and no number -/
theorem fNe_same {d : PyData} {b : Nat} (h : ShD b d) (hb : b ≤ 64) (hd : ∃ ds, d = .list ds ∨ d = .tuple ds) : ∃ P : Prop, fNe d d = some (P, .d (.bool false)) ∧ P := by
  have e := eqv_refl h.1
  obtain ⟨ds, rfl | rfl⟩ := hd
  · refine ⟨SeqAt.shaped (.list ds) = true ∧ SeqAt.shaped (.list ds) = true, ?_, h.sh hb, h.sh hb⟩
    show some (_, RV.d (.bool (!PyData.eqv _ _))) = _
    rw [e]
    rfl
  · refine ⟨SeqAt.shaped (.tuple ds) = true ∧ SeqAt.shaped (.tuple ds) = true, ?_, h.sh hb, h.sh hb⟩
    show some (_, RV.d (.bool (!PyData.eqv _ _))) = _
    rw [e]
    rfl
end Cs
set_option maxHeartbeats 4000000
/-! Filters by what stands behind data. -/
namespace Cs
open PySem L2 PyProof.Rows
open Classical in
noncomputable def pkF {α : Type} (e : α → PyData) (c : α → Bool) (d : PyData) : Option PyData := if ∃ x, d = e x ∧ c x = true then some d else none
theorem pkF_at {α : Type} {e : α → PyData} {c : α → Bool} (inj : ∀ x y, e x = e y → x = y) (x : α) : pkF e c (e x) = if c x = true then some (e x) else none := by
  unfold pkF
  by_cases h : c x = true
  · rw [if_pos ⟨x, rfl, h⟩, if_pos h]
  · rw [if_neg h, if_neg]
    rintro ⟨y, hy, k⟩
    rw [inj _ _ hy] at h
    exact h k
theorem pkF_map {α : Type} {e : α → PyData} {c : α → Bool} (inj : ∀ x y, e x = e y → x = y) : ∀ {xs : List α}, (xs.map e).filterMap (pkF e c) = (xs.filter c).map e
  | [] => rfl
  | x :: xs => by
    rw [List.map_cons, List.filterMap_cons, pkF_at inj, pkF_map inj, List.filter_cons]
    cases c x <;> rfl
theorem str_inj : ∀ x y : Str, PyData.str x = .str y → x = y := fun _ _ h => by cases h; rfl
/-- whether nothing is left -/
theorem fil_emp {α : Type} {e : α → PyData} {c : α → Bool} : ∀ {xs : List α}, ((xs.filter c).map e).isEmpty = xs.all fun x => !c x
  | [] => rfl
  | x :: xs => by
    rw [List.filter_cons, List.all_cons]
    cases h : c x
    · exact fil_emp
    · rfl
theorem ShD.str {b : Nat} {x : Str} (h : isName (.str x) = true) : ShD b (.str x) := ⟨strOk_name h, Nat.zero_le _⟩
/-- a name that holds a tuple known whole, looked at as data -/
def xW (i : Nat) : XE := ⟨fun ε K => ∃ ds, ε[i]? = some (.o (WhP ds)) ∧ imms ds = true ∧ K (.d (.tuple ds)) ε, fun h ⟨ds, e, m, k⟩ => ⟨ds, e, m, h _ _ k⟩⟩
theorem xe_w {X : Cx} {e : Expr} {i : Nat} (h : PE X e (tVar i)) : PE X e (up (xW i)) := pe_wk h fun σ H Q ⟨Γ, ε, T, R, ds, hx, m, k⟩ => by
  obtain ⟨v, hv, d⟩ := slot_at R hx
  obtain ⟨l, vs, rfl, fz, hl, da⟩ := Stb.now d
  have nt := no_tup R.lists (not_tup R.hp)
  exact ⟨_, hv, k _ T H R (.refl R) (Dn.tup (nt l vs fz.rd) fz.rd hl (DnA.imm nt da m))⟩
end Cs
set_option maxHeartbeats 4000000
/-! Lists of objects and data: made, walked by a comprehension. -/
namespace Cs
open PySem L2 PyProof.Rows
abbrev Pr : Type := V → Hp → Prop
/-- data that stands by itself -/
def DaP (d : PyData) : Pr := fun v H => Dn NF H v d
/-- neither a list nor a table of code -/
def NLs (o : HO) : Prop := (∀ xs, o ≠ .lst xs) ∧ ∀ ps, o ≠ .tbl ps
/-- what no change of lists touches -/
def Sld (P : Pr) : Prop := ∀ x H H', P x H → (∀ b o, NLs o → H b = some o → H' b = some o) → P x H'
theorem dn_sld {H H' : Hp} {v : V} {d : PyData} (i : imm d = true) (h : Dn NF H v d) (k : ∀ b o, NLs o → H b = some o → H' b = some o) : Dn NF H' v d := by
  have nt : ∀ a xs, Rd H a (.tup xs) → ¬ Ls H a := fun a xs h z => by
    rcases z with ⟨ys, e⟩ | ⟨ys, e⟩ <;> rcases h with h | ⟨o, h⟩ <;> (rw [e] at h; cases h)
  have h1 : Dn (Ls H) H v d := h.imm nt i
  exact (h1.go (N' := Ls H) ⟨fun _ h => .inl h, fun b o n q => k b o ⟨fun xs e => n (.inl ⟨xs, by rw [q, e]⟩), fun xs e => n (.inr ⟨xs, by rw [q, e]⟩)⟩ q⟩).imm (fun _ _ _ z => z) i
theorem dap_sld {d : PyData} (i : imm d = true) : Sld (DaP d) := fun x H H' h k => dn_sld i h k
theorem sld_stb {N : Addr → Prop} {H : Hp} {P : Pr} {x : V} (s : Sld P) (ha : ∀ a, N a → Ls H a) (h : P x H) : Stb N H P x := fun H' k => s x H H' h fun b o n q => k b o (fun z => by
  rcases ha b z with ⟨xs, e⟩ | ⟨xs, e⟩
  · rw [q] at e
    cases e
    exact n.1 xs rfl
  · rw [q] at e
    cases e
    exact n.2 xs rfl) q
def LsP (Ps : List Pr) : Pr := fun v H => ∃ a vs, v = .ref a ∧ H a = some (.lst vs) ∧ vs.length = Ps.length ∧ ∀ (i : Nat) (P : Pr) (x : V), Ps[i]? = some P → vs[i]? = some x → P x H
def oas : List RV → Option (List Pr)
  | [] => some []
  | .o P :: rs => (oas rs).map (P :: ·)
  | .d d :: rs => if imm d = true then (oas rs).map (DaP d :: ·) else none
  | _ => none
theorem dap_stb {M : Addr → Prop} {H : Hp} {v : V} {d : PyData} (nt : ∀ a xs, Rd H a (.tup xs) → ¬ M a) (h : Dn M H v d) (i : imm d = true) : Stb M H (DaP d) v := fun H' k => (h.go (N' := M) ⟨fun _ h => .inl h, k⟩).imm (fun _ _ _ z => z) i
section
variable {Γ : Ga} {ε ε2 : List AV} {T T2 : Addr → Prop} {σ : L2.St} {H H2 : Hp} {X : Cx}
theorem Rep.alls (R : Rep Γ ε T σ H) : ∀ a, Mx Γ ε T σ a → Ls H a := fun a m => by
  rcases R.lists a m with rfl | h
  · exact .inl R.hp
  · exact h
theorem oas_stb (nt : ∀ a xs, Rd H2 a (.tup xs) → ¬ Mx Γ ε2 T2 σ a) : ∀ {rs : List RV} {vs : List V} {Ps : List Pr}, DenA Γ ε2 T2 σ H rs vs H2 → oas rs = some Ps → vs.length = Ps.length ∧ ∀ (i : Nat) (P : Pr) (x : V), Ps[i]? = some P → vs[i]? = some x → Stb (Mx Γ ε2 T2 σ) H2 P x
  | [], _, _, d, e => by
    cases d
    cases e
    exact ⟨rfl, fun i P x h => by simp at h⟩
  | r :: rs, _, _, .cons (v := v) (vs := vs) d t _, e => by
    have key : ∃ P Ps, Stb (Mx Γ ε2 T2 σ) H2 P v ∧ oas rs = some Ps ∧ oas (r :: rs) = some (P :: Ps) := by
      cases r with
      | o P =>
        obtain ⟨Ps, e1, e2⟩ := Option.map_eq_some_iff.mp e
        exact ⟨P, Ps, d, e1, by rw [e, e2]⟩
      | d x =>
        have e0 : (if imm x = true then (oas rs).map (DaP x :: ·) else none) = some _ := e
        split at e0
        · rename_i ix
          obtain ⟨Ps, e1, e2⟩ := Option.map_eq_some_iff.mp e0
          exact ⟨DaP x, Ps, dap_stb nt d ix, e1, by rw [e, e2]⟩
        · cases e0
      | f xs => cases e
      | b x => cases e
      | p => cases e
    obtain ⟨P, Ps, s, e1, e2⟩ := key
    rw [e2] at e
    cases e
    obtain ⟨l, k⟩ := oas_stb nt t e1
    refine ⟨by rw [List.length_cons, List.length_cons, l], fun i Q x h1 h2 => ?_⟩
    cases i with
    | zero =>
      cases h1
      cases h2
      exact s
    | succ i => exact k i Q x h1 h2
def xLstO (a : XA) : XE := ⟨fun ε K => a.run ε fun rs ε' => ∃ Ps, oas rs = some Ps ∧ Ps.length ≤ 1000 ∧ K (.o (LsP Ps)) ε', fun h q => a.mono (fun _ _ ⟨ds, e, l, k⟩ => ⟨ds, e, l, h _ _ k⟩) q⟩
theorem xe_lstO {es : List Expr} {k : Pos} {a : XA} (ha : PA X es (upA a)) : PE X (.List es k) (up (xLstO a)) :=
  pe_wk (pe_lst ha) fun σ H Q ⟨Γ, ε, T, R, h⟩ => upA1 R h fun rs xs ε2 T2 H2 ⟨Ps, e, hl, g⟩ R2 s2 d2 => by
    obtain ⟨l, st⟩ := oas_stb (no_tup R2.lists (not_tup R2.hp)) d2 e
    refine ⟨sz1000 (by rw [l]; exact hl), fun t ht => ?_⟩
    have sm := same_new (o := .lst xs) ht
    have nt := R2.not_x ht
    refine g (.ref t) T2 _ (R2.same sm) (s2.same sm) fun H' k' => ⟨t, xs, rfl, k' _ _ nt upd_same, l, fun i P x h1 h2 => st i P x h1 h2 H' fun b o n q => k' b o n (sm _ _ q)⟩
end
/-! ### one of such, in a slot -/
def El (N : Addr → Prop) (H : Hp) (r : RV) (v : V) : Prop := match r with
  | .d d => Dn N H v d
  | .o P => Stb N H P v
  | _ => False
theorem El.go {N N' : Addr → Prop} {H H' : Hp} (e : Fit2 N N' H H') {r : RV} {v : V} (h : El N H r v) : El N' H' r v := by
  cases r with
  | d x => exact Dn.go e h
  | o P => exact Stb.go e h
  | f x => exact h
  | b x => exact h
  | p => exact h
def elA : RV → AV
  | .d x => .d x
  | .o P => .o P
  | _ => .u
structure XIo where
  run : List AV → (List RV → Bool → List AV → Prop) → Prop
  mono : ∀ {ε : List AV} {K K' : List RV → Bool → List AV → Prop}, (∀ r b e, K r b e → K' r b e) → run ε K → run ε K'
structure ItOkO (p : Addr) (J : It) (A : (Addr → Prop) → Hp → Prop) (ds : List RV) (fl : Bool) : Prop where
  st : ∀ N N' H H', Fit2 N N' H H' → (fl = false → ∀ b o, b ≠ p → (∀ ps, o ≠ .tbl ps) → H b = some o → H' b = some o) → A N H → A N' H'
  stop : ∀ N H, A N H → J.stop ds.length H
  go : ∀ N H i d, (∀ a, N a → Ls H a) → A N H → ds[i]? = some d → J.go i H ∧ ∀ x H', J.yld i H x H' → Same H H' ∧ El N H' d x
def upIo (t : XIo) : TI := fun σ H R => ∃ Γ ε T, Rep Γ ε T σ H ∧ t.run ε fun ds fl ε' => ∀ J A T' H', Rep Γ ε' T' σ H' → Stp Γ ε T ε' T' σ H H' → ItOkO Γ.p J A ds fl → A (Mx Γ ε' T' σ) H' → R J H'
def upGo (i : Nat) : TG := fun v σ H Q => ∃ Γ ε T r, Rep Γ ε T σ H ∧ El (Mx Γ ε T σ) H r v ∧ GK Γ ε T σ H [i] Q (ε.set i (elA r))
theorem xg_o {X : Cx} {tg : Expr} {i : Nat} (h : PG X tg (gName i)) : PG X tg (upGo i) := pg_wk h fun v σ H Q ⟨Γ, ε, T, r, R, dn, k⟩ => by
  have key : Slot Γ (Mx Γ ε T σ) H (elA r) (some (some v)) := by
    cases r with
    | d x => exact ⟨v, rfl, dn⟩
    | o P => exact ⟨v, rfl, dn⟩
    | f x => exact dn.elim
    | b x => exact dn.elim
    | p => exact dn.elim
  obtain ⟨R', mx⟩ := R.put (i := i) (e := elA r) (v := v) key (fun _ => by cases r <;> nofun)
  exact k _ R' mx List.length_set fun j hj => by rw [List.getElem?_set_ne fun z : i = j => hj (z ▸ List.mem_cons_self)]
def turnO (gi : Nat) (tt : XT) (te : XE) (vs : List Nat) (r : RV) (ε : List AV) (Y : PyData → List AV → Prop) (Nn : List AV → Prop) : Prop :=
  tt.run (ε.set gi (elA r)) fun b ε3 => if b = true then te.run ε3 fun r ε4 => ∃ x, r.kp = some x ∧ Y x (wipeA ε4 vs) else Nn (wipeA ε3 vs)
@[irreducible] def xLcO (it : XIo) (gi : Nat) (tt : XT) (te : XE) (vs : List Nat) : XE := ⟨fun ε K => it.run ε fun ds fl ε1 => ds.length ≤ 1000 ∧ ∃ W : Nat → List PyData → List AV → Prop, (∃ e, W 0 [] (wipeA e vs) ∧ wipeA e vs = wipeA ε1 vs) ∧
    (∀ acc e, W ds.length acc (wipeA e vs) → K (.f acc) (wipeA e vs)) ∧
    ∀ i d acc e, ds[i]? = some d → W i acc (wipeA e vs) → turnO gi tt te vs d (wipeA e vs) (fun x e' => W (i + 1) (acc ++ [x]) e') fun e' => W (i + 1) acc e',
  fun h q => it.mono (fun ds fl ε1 ⟨l, W, w0, wn, ws⟩ => ⟨l, W, w0, fun acc e w => h _ _ (wn acc e w), ws⟩) q⟩
theorem xLcO_run {it : XIo} {gi : Nat} {tt : XT} {te : XE} {vs : List Nat} {ε : List AV} {K : RV → List AV → Prop} : (xLcO it gi tt te vs).run ε K = it.run ε fun ds fl ε1 => ds.length ≤ 1000 ∧ ∃ W : Nat → List PyData → List AV → Prop, (∃ e, W 0 [] (wipeA e vs) ∧ wipeA e vs = wipeA ε1 vs) ∧
    (∀ acc e, W ds.length acc (wipeA e vs) → K (.f acc) (wipeA e vs)) ∧
    ∀ i d acc e, ds[i]? = some d → W i acc (wipeA e vs) → turnO gi tt te vs d (wipeA e vs) (fun x e' => W (i + 1) (acc ++ [x]) e') fun e' => W (i + 1) acc e' := by
  unfold xLcO
  rfl
theorem xe_lcOT {it : XIo} {gi : Nat} {tt : XT} {te : XE} {vs : List Nat} {σ : L2.St} {H : Hp} {Q : VK} (hv : gi ∈ vs) (h : up (xLcO it gi tt te vs) σ H Q) : tLc (upIo it) (upGo gi) (upT tt) (up te) vs σ H Q := by
  obtain ⟨Γ, ε, T, R, k⟩ := h
  rw [xLcO_run] at k
  refine ⟨Γ, ε, T, R, it.mono (fun ds fl ε1 q J A T1 H1 R1 s1 ok ha D hD => ?_) k⟩
  obtain ⟨hl, W, ⟨e0, w0, z0⟩, wn, ws⟩ := q
  have nD : ¬ Mx Γ ε1 T1 σ D := R1.not_x hD
  have RT : Rep Γ ε1 (fun a => T1 a ∨ a = D) σ (upd H1 D (.lst [])) := R1.temp hD
  have sN := same_new (o := .lst ([] : List V)) hD
  generalize hT1 : (fun a => T1 a ∨ a = D) = T2 at RT
  have hT : T2 D := by rw [← hT1]; exact .inr rfl
  have sub : ∀ a, T1 a → T2 a := fun a h => by rw [← hT1]; exact .inl h
  have m0 : ∀ a, Mx Γ (wipeA ε1 vs) T2 σ a → Mx Γ ε1 T1 σ a ∨ H1 a = none := fun a z => by
    have := (R1.forget (vs := vs) (τ := σ) rfl fun _ _ => rfl).2 a
    rcases z with z | z | z
    · exact .inl (.inl z)
    · exact .inl (this (.inr (.inl z)))
    · rw [← hT1] at z
      rcases z with z | rfl
      · exact .inl (.inr (.inr z))
      · exact .inr hD
  refine ⟨fun i m H => m = ds.length - i ∧ i ≤ ds.length ∧ ∃ acc e ys, W i acc (wipeA e vs) ∧ acc.length ≤ i ∧ Rep Γ (wipeA e vs) T2 σ H ∧ Stp Γ ε1 T1 (wipeA e vs) T2 σ H1 H ∧ H D = some (.lst ys) ∧ DnA (Mx Γ (wipeA e vs) T2 σ) H ys acc,
    ⟨ds.length, by simp, Nat.zero_le _, [], e0, [], w0, Nat.le_refl _, ?_, ?_, upd_same, .nil⟩, ?_⟩
  · rw [z0]
    exact (RT.forget (vs := vs) (τ := σ) rfl fun _ _ => rfl).1
  · rw [z0]
    exact ⟨fun b o _ h => sN _ _ h, (R1.same sN).hp, (R1.same sN).tz, sub, m0⟩
  · rintro i m H2 ⟨rfl, hi, acc, e, ys, w, la, R2, s2, hd, dn⟩
    have ha2 : A (Mx Γ (wipeA e vs) T2 σ) H2 := ok.st _ _ _ _ (s2.fit R1.pm) (fun _ b o nb nt h => s2.k b o ⟨fun _ => nb, zp_not R1.tz h nt⟩ h) ha
    by_cases lt : i < ds.length
    · have hdi := List.getElem?_eq_getElem lt
      obtain ⟨go, yl⟩ := ok.go _ H2 i _ R2.alls ha2 hdi
      refine .inr ⟨go, fun H' => i + 1 ≤ ds.length ∧ ∃ acc e ys, W (i + 1) acc (wipeA e vs) ∧ acc.length ≤ i + 1 ∧ Rep Γ (wipeA e vs) T2 σ H' ∧ Stp Γ ε1 T1 (wipeA e vs) T2 σ H1 H' ∧ H' D = some (.lst ys) ∧ DnA (Mx Γ (wipeA e vs) T2 σ) H' ys acc, fun H' p' => ⟨ds.length - (i + 1), by omega, rfl, p'.1, p'.2⟩, fun x H3 y => ?_⟩
      obtain ⟨s23, dx⟩ := yl x H3 y
      have R3 := R2.same s23
      have s3 := s2.same s23
      have hl3 : (wipe σ vs).length = σ.length := wipe_length σ vs
      have fo := R3.forget (vs := vs) (τ := wipe σ vs) hl3 fun i hi => wipe_out hi
      have ww : wipeA (wipeA e vs) vs = wipeA e vs := by
        refine List.ext_getElem? fun j => ?_
        by_cases z : j ∈ vs
        · cases q : (wipeA e vs)[j]? with
          | none =>
            rw [List.getElem?_eq_none_iff] at q ⊢
            rw [wipeA_len]
            exact q
          | some u =>
            cases q2 : (wipeA (wipeA e vs) vs)[j]? with
            | none =>
              rw [List.getElem?_eq_none_iff, wipeA_len] at q2
              have := (List.getElem?_eq_some_iff.mp q).1
              omega
            | some u2 => rw [wipeA_in z q, wipeA_in z q2]
        · rw [wipeA_out z]
      rw [ww] at fo
      obtain ⟨R4, m4⟩ := fo
      have hd3 := s23 _ _ hd
      have dn3 := dn.go (Fit2.same (N := Mx Γ (wipeA e vs) T2 σ) s23)
      refine ⟨Γ, wipeA e vs, T2, _, R4, dx.go (Fit2.less m4), fun σ2 R5 m5 l5 h5 => ?_⟩
      have q := ws i _ acc e hdi w
      unfold turnO at q
      generalize (wipeA e vs).set gi (elA _) = ε2 at q R5 m5
      have back : ∀ j, j ∉ vs → σ2[j]? = σ[j]? := fun j hj => by rw [h5 j fun z => hj ((List.mem_singleton.mp z ▸ hv)), wipe_out hj]
      have len5 : σ.length = σ2.length := by rw [l5, hl3]
      -- the end of a turn
      have fin : ∀ {ε4 : List AV} {H4 : Hp}, Rep Γ ε4 T2 σ2 H4 → Stp Γ ε2 T2 ε4 T2 σ2 H3 H4 → ∀ {acc' : List PyData} {ys' : List V}, W (i + 1) acc' (wipeA ε4 vs) → acc'.length ≤ i + 1 → DnA (Mx Γ ε4 T2 σ2) H4 ys' acc' →
          i + 1 ≤ ds.length ∧ ∃ acc e ys, W (i + 1) acc (wipeA e vs) ∧ acc.length ≤ i + 1 ∧ Rep Γ (wipeA e vs) T2 σ (upd H4 D (.lst ys')) ∧ Stp Γ ε1 T1 (wipeA e vs) T2 σ H1 (upd H4 D (.lst ys')) ∧ upd H4 D (.lst ys') D = some (.lst ys) ∧ DnA (Mx Γ (wipeA e vs) T2 σ) (upd H4 D (.lst ys')) ys acc := fun {ε4 H4} R6 s6 {acc' ys'} w' l' d' => by
        have hd4 := s6.k _ _ ⟨fun _ => tmp_p R5 hT, zp_not R5.tz hd3 nofun⟩ hd3
        have R7 := R6.mutT (zs := ys') hT hd4
        obtain ⟨R8, m8⟩ := R7.forget (vs := vs) (τ := σ) len5 fun j hj => (back j hj).symm
        have f7 : Fit2 (Mx Γ ε4 T2 σ2) (Mx Γ (wipeA ε4 vs) T2 σ) H4 (upd H4 D (.lst ys')) := ⟨fun a z => .inl (m8 a z), fun b o n h => by
          rw [upd_ne fun z : b = D => n (z ▸ .inr (.inr hT))]
          exact h⟩
        refine ⟨by omega, acc', ε4, ys', w', l', R8, ⟨fun b o n h => ?_, R8.hp, R8.tz, sub, fun a z => ?_⟩, upd_same, d'.go f7⟩
        · rw [upd_ne (ne_of_none h hD)]
          exact s6.k b o n (s23 _ _ (s2.k b o n h))
        · rcases s6.m a (m8 a z) with z | z
          · exact s2.m a (m4 a (m5 a z))
          · right
            exact (s2.same s23).none R1.hp z
      refine ⟨?_, Γ, ε2, T2, R5, tt.mono (fun b ε3 q3 T3 H4 R6 s6 => ?_) q⟩
      · refine List.ext_getElem? fun j => ?_
        by_cases z : j ∈ vs
        · have wn : ∀ {τ : L2.St} {vs : List Nat}, j ∈ vs → j < τ.length → (wipe τ vs)[j]? = some none := by
            intro τ vs hj hl
            induction vs with
            | nil => cases hj
            | cons v vs ih =>
              show ((wipe τ vs).set v none)[j]? = some none
              by_cases z : v = j
              · subst z
                exact List.getElem?_set_self (by rw [wipe_length]; exact hl)
              · rw [List.getElem?_set_ne z]
                rcases List.mem_cons.mp hj with h | h
                · exact absurd h.symm z
                · exact ih h
          by_cases lj : j < σ.length
          · rw [wn z (by rw [← len5]; exact lj), wn z lj]
          · rw [List.getElem?_eq_none_iff.mpr (by rw [wipe_length, ← len5]; omega), List.getElem?_eq_none_iff.mpr (by rw [wipe_length]; omega)]
        · rw [wipe_out z, wipe_out z, back j z]
      · split at q3
        · rw [if_pos (by assumption)]
          refine up1 R6 q3 fun r y ε4 T4 H5 ⟨x', ex, w'⟩ R7 s7 d7 => ?_
          have sA := s6.trans R5.hp s7
          have dy := (d7.early (H := H3) fun a => s6.none R5.hp).kept R5 R7 sA ex
          have R8 := R7.less (T' := T2) sA.t
          have s8 := sA.drop
          have hd5 := s8.k _ _ ⟨fun _ => tmp_p R5 hT, zp_not R5.tz hd3 nofun⟩ hd3
          have dn5 : DnA (Mx Γ ε4 T2 σ2) H5 ys acc := (dn3.go (Fit2.less fun a z => m4 a (m5 a z))).go (s8.fit R5.pm)
          refine ⟨ys, hd5, ?_, fin R8 s8 w' (by rw [List.length_append]; simp only [List.length_cons, List.length_nil]; omega) (dn5.append (.cons dy .nil))⟩
          rw [dn.length]
          exact Nat.lt_of_lt_of_le (by omega : acc.length < 1000) (by decide)
        · rw [if_neg (by assumption)]
          have R8 := R6.less (T' := T2) s6.t
          have s8 := s6.drop
          have hd5 := s8.k _ _ ⟨fun _ => tmp_p R5 hT, zp_not R5.tz hd3 nofun⟩ hd3
          have dn5 : DnA (Mx Γ ε3 T2 σ2) H4 ys acc := (dn3.go (Fit2.less fun a z => m4 a (m5 a z))).go (s8.fit R5.pm)
          have := fin R8 s8 q3 (by omega) dn5
          have same : upd H4 D (.lst ys) = H4 := by
            funext b
            unfold upd
            split
            · rename_i z; rw [z, hd5]
            · rfl
          rw [same] at this
          exact this
    · have e2 : i = ds.length := by omega
      subst e2
      refine .inl ⟨ok.stop _ H2 ha2, ?_⟩
      exact wn acc e w (.ref D) T2 H2 R2 (s1.trans R.hp s2) ⟨D, ys, rfl, s1.none R.hp hD, hT, hd, by rw [dn.length]; omega, dn⟩
section
variable {X : Cx} {elt tg iter : Expr} {ifs : List Expr} {scope : Scope} {own : List (Str × Nat)} {pos : Pos} {it : XIo} {gi : Nat} {tt : XT} {te : XE}
theorem xe_lcO (hc : X.calm = true) (hN : X.N.Nodup) (hi : PI X tg iter (upIo it)) (ok : BlkOk X.N X.env.scope scope own)
    (hg : ∀ (s : Shared) (H : Hp) (C : Addr) (cl : List (Str × Addr)) (fp : List Addr), PG (X.blk s H scope (compEnvC scope cl C X.env) fp) tg (upGo gi)) (ht : ∀ (s : Shared) (H : Hp) (C : Addr) (cl : List (Str × Addr)) (fp : List Addr), PTs (X.blk s H scope (compEnvC scope cl C X.env) fp) ifs (upT tt))
    (he : ∀ (s : Shared) (H : Hp) (C : Addr) (cl : List (Str × Addr)) (fp : List Addr), PE (X.blk s H scope (compEnvC scope cl C X.env) fp) elt (up te)) (hv : gi ∈ own.map (·.2)) (hs : ∀ x, foldedSetIterable iter X.env x = pure x := by intro _; rfl) :
    PE X (.ListComp elt [⟨tg, iter, ifs, 0⟩] scope pos) (up (xLcO it gi tt te (own.map (·.2)))) := pe_wk (pe_lc hc hN hi ok hg ht he hs) fun _ _ _ h => xe_lcOT hv h
end
/-! ### over a list of objects that a name holds -/
def xiO (a : XE) : XIo := ⟨fun ε K => a.run ε fun r ε1 => ∃ Ps, r = .o (LsP Ps) ∧ (∀ P ∈ Ps, Sld P) ∧ K (Ps.map RV.o) true ε1, fun h q => a.mono (fun _ _ ⟨ds, e, s, k⟩ => ⟨ds, e, s, h _ _ _ k⟩) q⟩
def AO (v : V) (Ps : List Pr) : (Addr → Prop) → Hp → Prop := fun N H => Stb N H (LsP Ps) v
theorem xi_o {X : Cx} {tg e : Expr} {a : XE} (h : PE X e (up a)) : PI X tg e (upIo (xiO a)) := ⟨fun pins s σ H R I q => (pi_list h).run pins s σ H R I (by
  obtain ⟨Γ, ε, T, R0, k⟩ := q
  refine up1 R0 k fun r x ε1 T1 H1 ⟨Ps, e1, sl, g⟩ R1 s1 d1 => ?_
  subst e1
  have d1 : Stb (Mx Γ ε1 T1 σ) H1 (LsP Ps) x := d1
  obtain ⟨l, vs, rfl, h1, h2, h3⟩ := d1.now
  refine ⟨l, rfl, ⟨vs, SqL.of h1⟩, g _ (AO (.ref l) Ps) T1 H1 R1 s1 ⟨fun N N' H H' f _ h => Stb.go f h, fun N H h => ?_, fun N H i d ha h hd => ?_⟩ d1⟩
  · obtain ⟨l', vs', e, k1, k2, k3⟩ := Stb.now h
    cases e
    exact ⟨vs', SqL.of k1, by rw [List.length_map, k2]; exact Nat.le_refl _⟩
  · obtain ⟨l', vs', e, k1, k2, k3⟩ := Stb.now h
    cases e
    obtain ⟨P, hP, rfl⟩ := mapget hd
    have lt := (List.getElem?_eq_some_iff.mp hP).1
    have hv : vs'[i]? = some vs'[i] := List.getElem?_eq_getElem (by omega)
    refine ⟨⟨vs', _, SqL.of k1, hv⟩, fun x H' ⟨e, y⟩ => ?_⟩
    subst e
    have := y vs' (SqL.of k1)
    rw [hv] at this
    cases this
    exact ⟨Same.refl _, sld_stb (sl P (List.mem_of_getElem? hP)) ha (k3 i P _ hP hv)⟩)⟩
/-- what becomes of each, by the place -/
theorem lc_esO {it : XIo} {gi : Nat} {tt : XT} {te : XE} {vs : List Nat} {ε : List AV} {K : RV → List AV → Prop} (es : List PyData) (h : it.run ε fun ds _ ε1 => es.length = ds.length ∧ ds.length ≤ 1000 ∧ (∀ (i : Nat) (d : RV) (x : PyData), ds[i]? = some d → es[i]? = some x → turnO gi tt te vs d (wipeA ε1 vs) (fun y e => y = x ∧ e = wipeA ε1 vs) fun _ => False) ∧ K (.f es) (wipeA ε1 vs)) : (xLcO it gi tt te vs).run ε K := by
  rw [xLcO_run]
  refine it.mono (fun ds fl ε1 q => ?_) h
  obtain ⟨he, hl, hs, k⟩ := q
  refine ⟨hl, fun i acc e => acc = es.take i ∧ e = wipeA ε1 vs, ⟨ε1, ⟨rfl, rfl⟩, rfl⟩, fun acc e w => ?_, fun i d acc e hd w => ?_⟩
  · rw [w.1, w.2, List.take_of_length_le (by omega)]
    exact k
  · rw [w.2, w.1]
    have hi := (List.getElem?_eq_some_iff.mp hd).1
    have hx : es[i]? = some es[i] := List.getElem?_eq_getElem (by omega)
    have q := hs i d _ hd hx
    unfold turnO at q ⊢
    refine tt.mono (fun b ε3 q => ?_) q
    split at q
    · rw [if_pos (by assumption)]
      refine te.mono (fun r ε4 ⟨y, e1, e2, e3⟩ => ⟨y, e1, ?_, e3⟩) q
      rw [take_snoc hx, e2]
    · exact q.elim
/-! ### names forgotten at the end of a turn -/
def xWp (vs : List Nat) (b : XS) : XS := ⟨fun D ε => b.run { D with nx := fun e => D.nx (wipeA e vs), ct := fun e => D.ct (wipeA e vs) } ε,
  fun {D D' ε} h1 h2 h3 h4 q => b.mono (D := { D with nx := fun e => D.nx (wipeA e vs), ct := fun e => D.ct (wipeA e vs) }) (D' := { D' with nx := fun e => D'.nx (wipeA e vs), ct := fun e => D'.ct (wipeA e vs) }) (fun _ h => h1 _ h) h2 h3 (fun _ h => h4 _ h) q⟩
theorem pss_wp {X : Cx} {body : List Stmt} {b : XS} (vs : List Nat) (h : PSs X body (upS b)) : PSs X body (upS (xWp vs b)) := pss_wk h fun D σ H ⟨Γ, ε, R, k⟩ =>
  ⟨Γ, ε, R, b.mono (D := { upD Γ D with nx := fun e => (upD Γ D).nx (wipeA e vs), ct := fun e => (upD Γ D).ct (wipeA e vs) }) (D' := upD Γ D)
    (fun e q σ' H' R' => q σ' H' (R'.forget (vs := vs) (τ := σ') rfl fun _ _ => rfl).1) (fun _ _ h => h) (fun _ h => h) (fun e q σ' H' R' => q σ' H' (R'.forget (vs := vs) (τ := σ') rfl fun _ _ => rfl).1) k⟩
end Cs
set_option maxHeartbeats 4000000
/-! Defs that show lists and tuples: their promise is for callers that show nothing just now. -/
namespace Cs
open PySem L2 PyProof.Rows
structure FnG (P : Program) (w : World) (K : PySem.W.Frag) (mg : Str → Option Value) (base : Heap) (k : Nat) (f : Addr) (fd : FuncData) (ps : List Str) (sp : Sp) : Prop where
  len : ∀ vs H Q E, sp vs H Q E → vs.length = ps.length
  run : ∀ (A : Around) (outer : List Env) (s : Shared) (H : Hp) (args : Args) (us : List Value) (vs : List V) (Q : VK) (E : XK),
    A.guards = some [] → Room k A → Env0 P w K mg base A outer s H → BindsTo s fd args (ps.zip us) → Vals vs us → sp vs H Q E → codeAny (model P w) A (.call (.ref f) args) (CR CX0 outer P w H s Q E) s
theorem fn_ofG {P : Program} {w : World} {K : PySem.W.Frag} {mg : Str → Option Value} {base : Heap} {k : Nat} {f : Addr} {name qual : Str} {params : Arguments} {body : List Stmt} {scope : Scope}
    {dV kV doc pm cdv ct oc : Value} {an od : Option Addr} {osl : Array (Option Value)} {N ps : List Str} {sp : Sp}
    (lk : K.lookup f = some ⟨oc, od, .func (PySem.W.fnOf name qual params body scope dV kV doc pm an cdv ct), osl⟩) (hcd : PySem.W.codeIn K cdv qual = true) (S : FnScope N ps scope)
    (len : ∀ vs H Q E, sp vs H Q E → vs.length = ps.length)
    (hbody : ∀ (A : Around) (outer : List Env) (s : Shared) (H : Hp) (vs : List V) (Q : VK) (E : XK), A.guards = some [] → Room k (A.deeper (envOfC qual scope s.heap.objs.size f cdv)) → sp vs H Q E →
      ∃ t, PSs (cxOf CX0 P w K mg base N qual scope f cdv A outer s H E) body t ∧ t { nx := fun _ H' => Q .non H', rt := Q } (L2.start N vs) H) :
    FnG P w K mg base (k + 1) f (PySem.W.fnOf name qual params body scope dV kV doc pm an cdv ct) ps sp := by
  refine ⟨len, fun A outer s H args us vs Q E hg hr e0 hb r hsp => ?_⟩
  have hl := len vs H Q E hsp
  have KX := PySem.W.Frag.In.keeps e0.mod.kin fun b o e => (e0.bs b o e).1
  have lim := Heap.NoLimit.keeps e0.mod.nolimit fun b o e => (e0.bs b o e).1
  refine codeAny_call_function hr.depth (KX f _ lk) rfl S.co S.gen rfl (PySem.W.codeRec_of KX hcd) ?_
  refine hb (model P w) A.in1 _ _ ?_
  refine wpAny_newFunctionEnv_cells S.kind (fun y hy => ?_) fun env he s1 x => ?_
  · obtain ⟨n, v⟩ := y
    rcases S.par n (List.of_mem_zip hy).1 with q | q
    · exact .inl q
    · exact .inr ⟨q, PySem.W.cellsFrom_some scope.names (s.heap.objs.size + 1) [] (.inl q)⟩
  · subst he
    refine ⟨lim.keeps x.toInCall.keep, codeAny_func ?_⟩
    obtain ⟨t, ht, hq⟩ := hbody A outer s H vs Q E hg (hr.deeper _) hsp
    have I := inv_start (CX := CX0) (w := w) (E := E) S hr.hd e0 hl r x
    refine wpAny_mono (ht.run [] s1 (L2.start N vs) H _ I hq) (fun fl s' hs => ?_) (fun e s' hs => hs)
    cases fl with
    | next =>
      obtain ⟨σ', H', J, q⟩ := hs
      exact ⟨V.non, H', J.os, J.bare, J.base, J.hok, rfl, q⟩
    | brk =>
      obtain ⟨_, _, _, q⟩ := hs
      exact q.elim
    | cont =>
      obtain ⟨_, _, _, q⟩ := hs
      exact q.elim
    | ret u =>
      obtain ⟨v, σ', H', J, rv, q⟩ := hs
      exact ⟨v, H', J.os, J.bare, J.base, J.hok, rv, q⟩
section
variable {X : Cx}
theorem pe_callG {k j : Nat} {f : Addr} {fd : FuncData} {ps : List Str} {sp : Sp} {x : Str} {q pos : Pos} {e : Expr} {es : List Expr} {t : TA}
    (F : FnG X.prog X.w X.K X.mg X.base k f fd ps sp) (hG : X.A.guards = some []) (hr : Room j X.A) (hk : k ≤ j) (hg : Gl X x) (hm : X.mg x = some (.ref f)) (kp : PySem.W.keepIn X.K (.ref f) = true) (hb : Binds X.K fd ps [])
    (ha : PA X (e :: es) t) (hdb : (x == ("__debug__" : Str)) = false := by rfl) (he : starEach (e :: es) X.env = (false, eval e X.env) :: starEach es X.env := by rfl)
    (hpl : ((backTo pos (starEach es X.env)).any fun x => x.1) = false := by rfl) : PE X (.Call (.Name x q) (e :: es) [] pos) (fun σ H Q => t σ H fun vs H1 => sp vs H1 Q fun _ _ _ => False) := by
  refine ⟨fun pins s σ H Q I h => wpAny_Call_Name_kw (ld_glob I hg hm (PySem.W.callWith_K I.ok.mod.kin kp (thn (ha.run pos pins s σ H _ I h) ?_) he hpl) hdb)⟩
  rintro us s1 ⟨vs, H1, I1, r, q1⟩
  refine ⟨I1.kIn, ?_⟩
  have hl : us.length = ps.length := by
    rw [← r.length]
    exact F.len vs H1 Q _ q1
  have b := hb s1 us I1.kIn (by rw [List.append_nil]; exact hl)
  rw [List.append_nil] at b
  refine wpAny_call (codeAny_mono (F.run X.A X.stack s1 H1 ⟨us, []⟩ us vs Q _ hG (hr.mono hk) I1.env0 b r q1) fun rr s' hq => ?_)
  cases rr with
  | error e => exact hq.elim
  | ok fl =>
    cases fl with
    | next => exact hq.elim
    | brk => exact hq.elim
    | cont => exact hq.elim
    | ret u => exact I1.after hq
end
/-- a def by its name, for callers that show nothing just now -/
structure CalG (P : Program) (w : World) (K : PySem.W.Frag) (mg : Str → Option Value) (base : Heap) (k : Nat) (x : Str) (sp : Sp) : Prop where
  ex : ∃ (f : Addr) (fd : FuncData) (ps : List Str), FnG P w K mg base k f fd ps sp ∧ mg x = some (.ref f) ∧ PySem.W.keepIn K (.ref f) = true ∧ Binds K fd ps []
theorem pe_cG {X : Cx} {k j : Nat} {sp : Sp} {x : Str} {q pos : Pos} {e : Expr} {es : List Expr} {t : TA} (c : CalG X.prog X.w X.K X.mg X.base k x sp) (hG : X.A.guards = some []) (hr : Room j X.A) (hk : k ≤ j) (hg : Gl X x) (ha : PA X (e :: es) t)
    (hdb : (x == ("__debug__" : Str)) = false := by rfl) (he : starEach (e :: es) X.env = (false, eval e X.env) :: starEach es X.env := by rfl) (hpl : ((backTo pos (starEach es X.env)).any fun x => x.1) = false := by rfl) :
    PE X (.Call (.Name x q) (e :: es) [] pos) (fun σ H Q => t σ H fun vs H1 => sp vs H1 Q fun _ _ _ => False) := by
  obtain ⟨f, fd, ps, F, g, kp, b⟩ := c.ex
  exact pe_callG F hG hr hk hg g kp b ha hdb he hpl
/-! ### the law's call -/
section
variable {P : Program} {w : World} {K : PySem.W.Frag} {mg mb : Str → Option Value} {k : Nat} {fa a : Addr} {cs : List (Addr × Addr)} {fd : FuncData} {x : Str} {sp : Sp} {s : Shared} {vs : List Value} {ns : List Int}
/-- what is tracked at the start: the script (locked, if it is not in K) and the tables -/
def H0 (s : Shared) (K : PySem.W.Frag) (a : Addr) (vs : List Value) (ns : List Int) (cs : List (Addr × Addr)) : Hp := fun b =>
  if (b = a ∧ K.lookup a = none) then some (.frz { cls := .type "list", data := .seq vs.toArray } (.lst (ns.map V.int))) else if b ∈ cs.map (·.2) then some (.tbl #[]) else none
theorem law_callG (KX : K.In s.heap) (hns : s.heap.Ns mainGlobals mg) (hb : s.heap.Ns builtinsNs mb) (hbb : ∀ x : Str, x ≠ "__name__" → mb x = bootBuiltins x) (hlim : s.heap.NoLimit) (hg : s.gens = #[])
    (hT : ∀ p ∈ cs, s.heap.get? p.2 = some { cls := .none, data := .fields #[] }) (nT : ∀ p ∈ cs, K.lookup p.2 = none) (C : ∀ p ∈ cs, PySem.W.CodeHd s.heap p.1 p.2)
    (hbm : ∃ (bm : Addr) (ob : Obj), mg "__builtins__" = some (.ref bm) ∧ bm ≠ builtinsNs ∧ s.heap.get? bm = some ob ∧ ob.cls = .type "module" ∧ ob.dict = some builtinsNs ∧ ob.data = .plain)
    (ha : s.heap.get? a = some { cls := .type "list", data := .seq vs.toArray }) (hi : IntsAre vs ns) (hl : ns.length ≤ sizeLine) (hr : Room k callerA)
    (F : ∀ base : Heap, K.In base → base.Ns mainGlobals mg → (∀ p ∈ cs, LamX.TabB base mg p.1 p.2) → FnG P w K mg base k fa fd [x] sp) (hbind : ∀ (s : Shared) (u : Value), BindsTo s fd ⟨[u], []⟩ [(x, u)])
    (hsp : ∀ H : Hp, (∀ p ∈ cs, H p.2 = some (.tbl #[])) → SqL K H a (ns.map V.int) → sp [.ref a] H (fun v _ => v = .bl true) fun _ _ _ => False) :
    codeAny (model P w) callerA (.call (.ref fa) ⟨[.ref a], []⟩) (fun r s' => r = .ok (.ret (.bool true)) ∧ OldK s.heap s'.heap ∧ s'.os = s.os ∧ AllBare s'.gens) s := by
  have rv := vals_ints hi
  have lenV := hi.length
  have tab : ∀ b, b ∈ cs.map (·.2) → s.heap.get? b = some { cls := .none, data := .fields #[] } := fun b hb => by
    obtain ⟨p, hp, rfl⟩ := List.mem_map.mp hb
    exact hT p hp
  have at_ : a ∉ cs.map (·.2) := fun z => nomatch (ha.symm.trans (tab a z))
  generalize hH : H0 s K a vs ns cs = H
  have HT : ∀ b, b ∈ cs.map (·.2) → H b = some (.tbl #[]) := fun b hb => by
    rw [← hH]
    exact (if_neg (fun z : b = a ∧ K.lookup a = none => at_ (z.1 ▸ hb))).trans (if_pos hb)
  have HA : K.lookup a = none → H a = some (.frz { cls := .type "list", data := .seq vs.toArray } (.lst (ns.map V.int))) := fun z => by
    rw [← hH]
    exact if_pos ⟨rfl, z⟩
  have HN : ∀ b, b ∉ cs.map (·.2) → ¬ (b = a ∧ K.lookup a = none) → H b = none := fun b h1 h2 => by
    rw [← hH]
    exact (if_neg h2).trans (if_neg h1)
  have three : ∀ b, b ∈ cs.map (·.2) ∨ (b = a ∧ K.lookup a = none) ∨ H b = none := fun b => by
    by_cases h1 : b ∈ cs.map (·.2)
    · exact .inl h1
    · by_cases h2 : b = a ∧ K.lookup a = none
      · exact .inr (.inl h2)
      · exact .inr (.inr (HN b h1 h2))
  have okH : HOk P w H s.heap := fun b o e => by
    rcases three b with z | ⟨rfl, z⟩ | z
    · rw [HT b z] at e
      obtain rfl := Option.some.inj e
      exact tab b z
    · rw [HA z] at e
      obtain rfl := Option.some.inj e
      exact ⟨ha, by rw [List.length_map]; exact hl, vs, _, rv, ha⟩
    · rw [z] at e
      exact nomatch e
  have seq : SqL K H a (ns.map V.int) := by
    cases hk : K.lookup a with
    | none => exact .inl (.inr ⟨_, HA hk⟩)
    | some o =>
      obtain rfl := Option.some.inj ((KX a o hk).symm.trans ha)
      exact .inr ⟨_, vs.toArray, _, hk, rfl, rfl, rfl, by rw [List.size_toArray, lenV]; exact hl, by simpa using rv⟩
  -- an object that is no list and no empty table is not tracked
  have out : ∀ {b : Addr} {o : Obj}, s.heap.get? b = some o → (∀ l n, o.data ≠ .seq l n) → o.data ≠ .fields #[] → H b = none := fun {b o} e h1 h2 => by
    rcases three b with z | ⟨rfl, z⟩ | z
    · exact absurd (congrArg Obj.data (Option.some.inj (e.symm.trans (tab b z)))) h2
    · exact absurd (congrArg Obj.data (Option.some.inj (e.symm.trans ha))) (h1 _ _)
    · exact z
  have dic : ∀ {b : Addr} {o : Obj} {es : Array DictEntry} {n : Nat}, s.heap.get? b = some o → o.data = .dict es n → H b = none := fun {b o es n} e d => out e (fun l m z => nomatch (d.symm.trans z)) (fun z => nomatch (d.symm.trans z))
  have nsB : ∀ {b : Addr} {m : Str → Option Value}, s.heap.Ns b m → (hidT s.heap H).Ns b m := fun {b m} h => by
    obtain ⟨o, es, n, e, d, r⟩ := h
    exact ⟨o, es, n, hidT_get e (dic e d), d, r⟩
  have kB : K.In (hidT s.heap H) := fun b o e => hidT_get (KX b o e) (by
    rcases three b with z | ⟨rfl, z⟩ | z
    · obtain ⟨p, hp, rfl⟩ := List.mem_map.mp z
      exact nomatch ((nT p hp).symm.trans e)
    · exact nomatch (z.symm.trans e)
    · exact z)
  have TBs : ∀ p ∈ cs, LamX.TabB (hidT s.heap H) mg p.1 p.2 := fun p hp => by
    have tp := hT p hp
    refine ⟨?_, ?_, fun z => ?_⟩
    · obtain ⟨o, us, file, tf, flags, tg, inF, text, tt, e1, r1, r2, r3, r⟩ := C p hp
      refine ⟨o, us, file, tf, flags, tg, inF, text, tt, hidT_get e1 (out e1 (fun l n z => nomatch (r2.symm.trans z)) (fun z => ?_)), r1, r2, r3, r⟩
      rw [r2] at z
      cases z
      simp at r3
    · obtain ⟨bm, ob, b1, b2, b3, b4, b5, b6⟩ := hbm
      refine ⟨bm, ob, b1, b2, fun z => ?_, fun z => ?_, hidT_get b3 (out b3 (fun l n z => nomatch (b6.symm.trans z)) (fun z => nomatch (b6.symm.trans z))), b4, b5, b6⟩
      · obtain ⟨o, es, n, e, d, _⟩ := hns
        rw [← z, b3] at e
        obtain rfl := Option.some.inj e
        exact nomatch (b6.symm.trans d)
      · rw [z, tp] at b3
        obtain rfl := Option.some.inj b3
        exact nomatch b6
    · obtain ⟨o, es, n, e, d, _⟩ := hns
      rw [z, tp] at e
      obtain rfl := Option.some.inj e
      exact nomatch d
  have M : L2.Mod K mg (hidT s.heap H) := ⟨kB, nsB hns, ⟨mb, nsB hb, hbb⟩, by
    obtain ⟨mc, h1, h2⟩ := hlim
    exact ⟨mc, nsB h1, h2⟩⟩
  have e0 : Env0 P w K mg (hidT s.heap H) callerA [] s H := ⟨rfl, M, fun b o e => of_hidT e, Nat.le_of_eq (hidT_size _ _), trivial, (fun b hb => (List.not_mem_nil hb).elim), okH, .of_eq hg⟩
  refine codeAny_mono ((F _ kB (nsB hns) TBs).run callerA [] s H ⟨[.ref a], []⟩ [.ref a] [.ref a] _ _ rfl hr e0 (hbind s (.ref a)) (.cons rfl .nil) (hsp H (fun p hp => HT p.2 (List.mem_map.mpr ⟨p, hp, rfl⟩)) seq)) fun r s' h => ?_
  cases r with
  | error e => exact False.elim h
  | ok fl =>
    cases fl with
    | next => exact False.elim h
    | brk => exact False.elim h
    | cont => exact False.elim h
    | ret u =>
      obtain ⟨v, H', os, bare, un, ok', r', q⟩ := h
      obtain rfl : v = .bl true := q
      obtain rfl : u = .bool true := r'
      have none_ : ∀ {b : Addr}, b ∉ ([] : List Addr) := fun z => nomatch z
      have old : ∀ b o, b ∉ cs.map (·.2) → s.heap.get? b = some o → s'.heap.get? b = some o := fun b o nb e => by
        rcases three b with z | ⟨rfl, z⟩ | z
        · exact absurd z nb
        · obtain ⟨e2, _⟩ := ok' _ _ (un.frzs _ _ _ (HA z))
          rw [ha] at e
          exact e ▸ e2
        · exact un.keep b o e z none_ none_
      have grown : ∀ p ∈ cs, ∃ more : Array Value, s'.heap.get? p.2 = some { cls := .none, data := .fields more } := fun p hp => by
        obtain ⟨more, z⟩ := un.tbls p.2 #[] (HT p.2 (List.mem_map.mpr ⟨p, hp, rfl⟩))
        exact ⟨_, ok' p.2 _ z⟩
      refine ⟨rfl, ⟨fun b o e => ?_, fun b o e => ?_⟩, os, bare⟩
      · by_cases hb : b ∈ cs.map (·.2)
        · obtain ⟨p, hp, rfl⟩ := List.mem_map.mp hb
          obtain ⟨more, hm⟩ := grown p hp
          obtain rfl := Option.some.inj (e.symm.trans (hT p hp))
          exact .inr (.inl ⟨((C p hp).tab (hT p hp)).isCodeTable, rfl, #[], more, rfl, by rw [Array.empty_append]; exact hm⟩)
        · exact .inl (old b o hb e)
      · by_cases hb : b ∈ cs.map (·.2)
        · obtain ⟨p, hp, rfl⟩ := List.mem_map.mp hb
          obtain ⟨more, hm⟩ := grown p hp
          exact ⟨_, hm⟩
        · exact ⟨o, old b o hb e⟩
end
/-- what is known of the law's promise at the head's heap h -/
def LawAtG (l : PySem.W.OpenLaw) (w : World) (K : PySem.W.Frag) (k n : Nat) (x : Str) (mg : Str → Option Value) (h : Heap) : Prop :=
  ∃ (fa : Addr) (fd : FuncData) (cs : List (Addr × Addr)) (sp : Sp), mg "law" = some (.ref fa) ∧ (∀ p ∈ cs, h.get? p.2 = some { cls := .none, data := .fields #[] }) ∧ (∀ p ∈ cs, K.lookup p.2 = none) ∧ (∀ p ∈ cs, PySem.W.CodeHd h p.1 p.2) ∧
    (∀ (s : Shared) (u : Value), BindsTo s fd ⟨[u], []⟩ [(x, u)]) ∧
    (∀ (H : Hp) (a : Addr) (ns : List Int), ns.length ≤ n → (∀ z ∈ ns, Builtin.Int.intBits z ≤ 1048576) → (∀ p ∈ cs, H p.2 = some (.tbl #[])) → SqL K H a (ns.map V.int) → sp [.ref a] H (fun v _ => v = .bl true) fun _ _ _ => False) ∧
    ∀ base : Heap, K.In base → base.Ns mainGlobals mg → (∀ p ∈ cs, LamX.TabB base mg p.1 p.2) → FnG l.prog w K mg base k fa fd [x] sp
theorem walk_ofG {l : PySem.W.OpenLaw} {n k : Nat} {q : Program} {loose : List Str} {XP : (Str → Option Value) → Heap → Prop} {YP : World → Heap → Prop} {d : DefRec} {x : Str} (hn : l.most = some n) (hn2 : n ≤ sizeLine) (hdf : d.params.defaults = []) (hname : d.name = "law") (hr : Room k callerA)
    (F : ∀ (w : World) (mg : Str → Option Value) (h : Heap), YP w h → h.Ns mainGlobals mg → (∃ fa, mg "law" = some (.ref fa)) → ∃ K : PySem.W.Frag, K.In h ∧ LawAtG l w K k n x mg h) : PySem.W.WalkO q loose XP YP l.row.toRowW d [] (fun f vs => PySem.call f vs) := by
  refine Att.attach_callB hn hdf fun w s₀ s₁ mg mb fa o pm cd doc a vs ns G Y ho hd hcd hmg hobj hints hlen hbits hg => ?_
  rw [hname] at hmg
  obtain ⟨K, KX, fa2, fd, cs, sp, hf, hT, nT, C, hb, hsp, hF⟩ := F w mg _ Y G.T.g ⟨fa, hmg⟩
  obtain rfl : fa2 = fa := Value.ref.inj (Option.some.inj (hf.symm.trans hmg))
  exact law_callG KX G.T.g G.T.b G.T.builtins G.T.nolimit hg hT nT C G.T.bmain hobj hints (Nat.le_trans hlen hn2) hr hF hb fun H hH hS => hsp H a ns hlen hbits hH hS
end Cs
set_option maxHeartbeats 4000000
/-! Lambdas over data: what changes is the one table of code; defs that make lambdas. -/
namespace Cs
open PySem PySem.Spec PyProof.Rows L2 LamX
/-- all but the object at P stays -/
def ExP (P : Addr) (H H' : Hp) : Prop := ∀ b o, b ≠ P → H b = some o → H' b = some o
section
variable {X : Cx} {pins : List (Addr × Obj)} {σ : L2.St} {H : Hp} {s : Shared}
theorem made3 {T : List (Addr × Str)} {c P : Addr} {params : Arguments} {body : Expr} {scope : Scope} {pos : Pos} {E : Value → Shared → Prop} {Q : Value → Shared → Prop} (I : Inv X pins σ H s) (TB : TabB X.base X.mg c P) (hcode : X.env.code = .ref c)
    (hm : (P, X.env.qual ++ "<lambda>") ∈ T) (hu : ∀ p ∈ T, p.1 = P → p.2 = X.env.qual ++ "<lambda>") (hT : Tabs T H) (hdef : defaultsOf params X.env = ([], [])) (hfree : ∀ y ∈ scope.names, y.2 = .free → ∃ c, X.env.cells.lookup y.1 = some c)
    (h : ∀ (f c' : Addr) (pm ctv : Value) (H1 : Hp) (s' : Shared), Inv X pins σ H1 s' → ExP P H H1 → Tabs T H1 →
      s'.heap.get? f = some (PySem.W.kla_obj "<lambda>" (X.env.qual ++ "<lambda>") params body scope (cloFrom X.env.cells scope.names []) pm c' ctv) → H1 f = none → f ∉ frs X.stack → H1 c' = some (CodeO c' (X.env.qual ++ "<lambda>")) → Q (.ref f) s') :
    wpAny (model X.prog X.w) X.A (eval (.Lambda params body scope pos) X.env) Q E s := by
  obtain ⟨ps, atP, tr, nm⟩ := hT _ hm
  have old : ∀ f, s.heap.objs.size ≤ f → f ∉ frs X.stack := fun f le z => by
    rcases List.mem_cons.mp (I.stkSub _ z) with e | e
    · have lt := I.lt
      rw [← e] at lt
      exact absurd (Nat.lt_of_lt_of_le lt le) (Nat.lt_irrefl _)
    · exact I.nofs le e
  have real := I.hok P _ atP
  have bm := TB.bm.keeps I.bk
  have cd := TB.code.keeps I.bk
  have gl := I.mod.glob.keeps I.bk
  refine PySem.W.kla_eval hdef ?_
  cases found : codeAmong pos ps.toList with
  | some cv =>
    obtain ⟨c', rfl, known⟩ := nm pos cv found
    refine PySem.W.kla_makeFunctionHit (closure_ok hfree) I.ok.glob gl hcode cd real tr found bm fun ctv h' tk up le => ?_
    exact h _ c' _ ctv H _ (I.kept fun b o e => Heap.get?_push_of_some _ (up b o e)) (fun _ _ _ e => e) hT (Heap.get?_push_size _ rfl) (I.hok.fresh le) (old _ le) known
  | none =>
    refine PySem.W.kla_makeFunction (closure_ok hfree) I.ok.glob gl hcode cd real tr found TB.gP bm fun c' ctv h' tk up ge lt rc tab => ?_
    obtain ⟨c2, oc, vs, t, q, get, dat, v1⟩ := rc
    cases q
    have no := I.hok.fresh ge
    have le : s.heap.objs.size ≤ h'.objs.size := by omega
    have nPc : P ≠ c' := ne_of_none atP no
    have nfc : h'.objs.size ≠ c' := by omega
    have nfP : h'.objs.size ≠ P := fun z => by
      have lt := Heap.lt_size real
      rw [← z] at lt
      exact absurd (Nat.lt_of_lt_of_le lt le) (Nat.lt_irrefl _)
    have J := inv_table (q := X.env.qual ++ "<lambda>") (t' := tk) (more := #[rawInt pos.line, rawInt pos.col, .ref c']) (h' := h'.push (PySem.W.kla_obj "<lambda>" (X.env.qual ++ "<lambda>") params body scope (cloFrom X.env.cells scope.names []) ((X.mg "__name__").getD .none) c' ctv)) I atP
      (fun b o n e => Heap.get?_push_of_some _ (up b o n e)) (Heap.get?_push_of_some _ tab) ge ⟨oc, vs, t, Heap.get?_push_of_some _ get, dat, v1⟩
    generalize hH : upd (upd H P (.tbl (ps ++ #[rawInt pos.line, rawInt pos.col, .ref c']))) c' (CodeO c' (X.env.qual ++ "<lambda>")) = H1 at J
    have ex : ExP P H H1 := fun b o n e => by
      rw [← hH, upd_ne (ne_of_none e no), upd_ne n]
      exact e
    have at1 : H1 P = some (.tbl (ps ++ #[rawInt pos.line, rawInt pos.col, .ref c'])) := by rw [← hH, upd_ne nPc, upd_same]
    have atc : H1 c' = some (CodeO c' (X.env.qual ++ "<lambda>")) := by rw [← hH, upd_same]
    have cod : ∀ {c0 : Addr} {q : Str}, H c0 = some (CodeO c0 q) → H1 c0 = some (CodeO c0 q) := fun {c0 q} e => ex c0 _ (fun z => by
      rw [z, atP] at e
      exact codeO_ne ps (Option.some.inj e).symm) e
    refine h h'.objs.size c' _ ctv H1 _ J ex (fun p hp => ?_) (Heap.get?_push_size _ rfl) ?_ (old _ le) atc
    · by_cases z : p.1 = P
      · rw [hu p hp z, z]
        refine ⟨_, at1, by rw [Array.toList_append]; exact PySem.TriplesOk_snoc _ _ _ _ tr, fun p' cv e => ?_⟩
        rw [Array.toList_append] at e
        rcases among_app _ tr e with e | e
        · obtain ⟨c0, e1, e2⟩ := nm p' cv e
          exact ⟨c0, e1, cod e2⟩
        · exact ⟨c', e, atc⟩
      · obtain ⟨qs, q1, q2, q3⟩ := hT p hp
        refine ⟨qs, ex _ _ z q1, q2, fun p' cv e => ?_⟩
        obtain ⟨c0, e1, e2⟩ := q3 p' cv e
        exact ⟨c0, e1, cod e2⟩
    · rw [← hH, upd_ne nfc, upd_ne nfP]
      exact I.hok.fresh le
end
def tLam3 (T : List (Addr × Str)) (P : Addr) (TT : (XK → Hp → VK → Prop) → Hp → VK → Prop) (t : XK → TE) : TE := fun σ H Q => Tabs T H ∧ ∀ H1, ExP P H H1 → Tabs T H1 → TT (fun E H' Q' => t E σ H' Q') H1 Q
section
variable {X : Cx}
/-- x(lambda: body) -/
theorem pe_lam3 {T : List (Addr × Str)} {TT : (XK → Hp → VK → Prop) → Hp → VK → Prop} {x a : Str} {g c P : Addr} {k : Nat} {pg : Arguments} {bg : List Stmt} {sg : Scope} {dV kV doc pm cdv ct oc : Value} {an od : Option Addr} {osl : Array (Option Value)} {Ng : List Str}
    {params : Arguments} {body : Expr} {scope : Scope} {t : XK → TE} {p lpos pos : Pos} (hg : Gl X x) (hm : X.mg x = some (.ref g)) (hk : PySem.W.keepIn X.K (.ref g) = true)
    (lk : X.K.lookup g = some ⟨oc, od, .func (PySem.W.fnOf x x pg bg sg dV kV doc pm an cdv ct), osl⟩) (hcg : PySem.W.codeIn X.K cdv x = true) (hb : L2.Binds X.K (PySem.W.fnOf x x pg bg sg dV kV doc pm an cdv ct) [a] []) (Sg : FnScope Ng [a] sg) (hNg : Ng[0]? = some a) (hva : Vis sg a)
    (hG : GivesTo X Ng x sg g cdv bg a (X.env.qual ++ "<lambda>") TT)
    (TB : TabB X.base X.mg c P) (hcode : X.env.code = .ref c) (hmT : (P, X.env.qual ++ "<lambda>") ∈ T) (hu : ∀ p ∈ T, p.1 = P → p.2 = X.env.qual ++ "<lambda>") (hr : Room (k + 2) X.A) (L : LamS X.env.scope scope) (hdef : defaultsOf params X.env = ([], []))
    (hbind : ∀ (q : Str) (cl : List (Str × Addr)) (pm cv ctv : Value), bindArgs (PySem.W.kla_fn "<lambda>" q params body scope cl pm cv ctv) ⟨[], []⟩ = pure [])
    (hbody : ∀ (A : Around) (outer : List Env) (s : Shared) (H : Hp) (E : XK) (f c' : Addr), Room k (A.deeper (lamEnv X scope s.heap.objs.size f c')) → PE (lamCx X A outer s H E scope f c') body (t E))
    (hdb : (x == ("__debug__" : Str)) = false := by decide) (hd : (a == ("__debug__" : Str)) = false := by decide) (hcd : (a == ("__classdict__" : Str)) = false := by decide) :
    PE X (.Call (.Name x p) [.Lambda params body scope lpos] [] pos) (tLam3 T P TT t) := by
  refine ⟨fun pins s σ H Q I ⟨tb, go⟩ => ?_⟩
  refine wpAny_Call_Name_kw (ld_glob I hg hm (PySem.W.callWith_K (h₀ := X.base) I.ok.mod.kin hk ?_ (by rfl) (by rfl)) hdb)
  show wpAny _ _ (spliced ((false, eval (.Lambda params body scope lpos) X.env) :: backTo pos (starEach [] X.env))) _ _ s
  refine Calls.spliced_cons (made3 I TB hcode hmT hu tb hdef (L.has I.ok) fun f c' _ _ H1 s1 J ex tb1 get no nf at1 => Calls.spliced_nil ⟨J.kIn, ?_⟩)
  refine wpAny_call (codeAny_mono (run_ofS (CX := C8.CX0) (E := C8.E0) (Q := Q) (N := Ng) (ps := [a]) (us := [.ref f]) (vs := [.ref f]) lk hcg Sg hr J.env0 (hb s1 [.ref f] J.kIn rfl) (.cons rfl .nil) rfl fun hr1 => ?_) fun r s2 q => ?_)
  · obtain ⟨t1, w1, w2⟩ := hG f c' s1 H1 Q _ (fun W pn xe E p1 p2 tk hW => pe_act (i := 0) J L get no nf (hbind _ _ _ _ _) tk hW hr1 (fun A outer s H hr2 => hbody A outer s H E f c' hr2) hNg hva hd hcd) at1 (go H1 ex tb1)
    exact ⟨t1, w1.nox, w2⟩
  · cases r with
    | error e => exact (show False from q).elim
    | ok fl =>
      cases fl with
      | ret u => exact J.after q
      | next => exact False.elim q
      | brk => exact False.elim q
      | cont => exact False.elim q
end
/-! ### the table of code grows, over data -/
section
variable {Γ : Ga} {ε ε2 : List AV} {T T2 : Addr → Prop} {σ : L2.St} {H H2 : Hp}
theorem Rep.lam {P : Addr} (R : Rep Γ ε T σ H) (z : Zp Γ P) (e : ExP P H H2) (tz : Tabs Γ.tb H2) : Rep Γ ε T σ H2 ∧ Stp Γ ε T ε T σ H H2 := by
  obtain ⟨ps, hps⟩ := zp_at R.tz z
  obtain ⟨qs, hqs⟩ := zp_0 z
  have inM : Mx Γ ε T σ P := .inl (zp_M z)
  have f : Fit2 (Mx Γ ε T σ) (Mx Γ ε T σ) H H2 := ⟨fun _ h => .inl h, fun b o n h => e b o (fun w => n (w ▸ inM)) h⟩
  have lst : ∀ {b : Addr} {xs : List V}, H b = some (.lst xs) → H2 b = some (.lst xs) := fun {b xs} h => e b _ (fun w => by rw [w, hps] at h; cases h) h
  have hp2 : ∃ o, H2 Γ.p = some (.lst o) := R.hp.elim fun o h => ⟨o, lst h⟩
  refine ⟨⟨R.ln, R.pm, hp2, R.hp0, fun b o n h => e b o (fun w => n.2 (w ▸ z)) (R.ext b o n h), R.ml, fun a h => ?_, R.dis, fun i u h => (R.sl i u h).go f (fun n hp => ?_) (fun xs a e1 e2 o h2 => ?_), Γ.fst _ _ _ _ f R.fr, tz⟩, fun b o n h => e b o (fun w => n.2 (w ▸ z)) h, hp2, tz, fun _ h => h, fun _ h => .inl h⟩
  · obtain ⟨h1, ⟨vs, h2⟩, h3⟩ := R.tmp a h
    exact ⟨h1, ⟨vs, lst h2⟩, h3⟩
  · obtain ⟨x, y, c, h1, h2, h3⟩ := hp
    exact ⟨x, y, c, h1, h2, lst h3⟩
  · subst e1
    obtain ⟨a', vs, q1, q2, q3, _⟩ := R.sl i _ h
    rw [e2] at q1
    cases q1
    rw [q3] at h2
    cases h2
    exact lst q3
end
/-- how the heap stands behind a def that makes lambdas -/
def AftL (tb : List (Addr × Str)) (p : Addr) (H H' : Hp) (n : Nat) : Prop := (∀ b o, b ≠ p → (¬ ∃ q ∈ tb, q.1 = b) → H b = some o → H' b = some o) ∧ PailAt H' p n ∧ Tabs tb H'
/-- what a def promises that draws and makes lambdas -/
def SpL (tb : List (Addr × Str)) (R : DR) : Sp := fun vs H Q _ => ∃ (p : Addr) (M : Addr → Prop) (n : Nat) (rs : List RV), M p ∧ (∃ o, H p = some (.lst o)) ∧ (∀ a, M a → a = p ∨ Ls H a) ∧ PailAt H p n ∧ Tabs tb H ∧ (∀ q ∈ tb, M q.1) ∧ ArgA p M H rs vs ∧
  R.run n rs fun r n' => ∀ v H', AftL tb p H H' n' → ResR M H r v H' → Q v H'
def xCallL (tb : List (Addr × Str)) (R : DR) (a : XA) : XE := ⟨fun ε K => a.run ε fun rs ε1 => ∃ rs' n, kas rs = some rs' ∧ pnOf ε1 = some n ∧ tbOf ε1 = some tb ∧ R.run n rs' fun r n' => okRes r = true ∧ K r (aftP true n' ε1),
  fun h q => a.mono (fun _ _ ⟨rs, n, e1, e2, e3, w⟩ => ⟨rs, n, e1, e2, e3, R.mono (fun _ _ k => ⟨k.1, h _ _ k.2⟩) w⟩) q⟩
section
variable {σ : L2.St} {H : Hp}
theorem callL_up {tb : List (Addr × Str)} {R : DR} {a : XA} {E : XK} {Q : VK} {sp : Sp} (ad : ∀ vs H Q, SpL tb R vs H Q E → sp vs H Q E) (h : up (xCallL tb R a) σ H Q) : upA a σ H fun vs H1 => sp vs H1 Q E := by
  obtain ⟨Γ, ε, T, R0, k⟩ := h
  refine upA1 R0 k fun rs vs ε1 T1 H1 ⟨rs', n, e1, e2, e3, g⟩ R1 s1 d1 => ad vs H1 Q ?_
  have tb1 := R1.tbs e3
  subst tb1
  have R2 := R1.less (T' := T) s1.t
  exact ⟨Γ.p, Mx Γ ε1 T σ, n, rs', .inl R1.pm, R1.hp, R2.lists, (R1.pail e2).1, R1.tz, fun q hq => .inl (Γ.tm q hq), kas_arg R0 R1 s1 d1 e1,
    R.mono (fun r n' ⟨ok, w⟩ v H' af rr => call_aft (B := true) (K := fun r ε' => ∀ v T' H', Rep Γ ε' T' σ H' → Stp Γ ε T ε' T' σ H H' → Den Γ ε' T' σ H r v H' → Q v H') R0 R1 s1 (fun _ => e2) ok w af rr fun r ε' v T' H' w R' s' d' => w v T' H' R' s' d') g⟩
end
theorem x_callL {X : Cx} {Ex : Expr} {tb : List (Addr × Str)} {R : DR} {a : XA} {sp : Sp} (h : PE X Ex (fun σ H Q => upA a σ H fun vs H1 => sp vs H1 Q fun _ _ _ => False)) (ad : ∀ vs H Q, SpL tb R vs H Q (fun _ _ _ => False) → sp vs H Q fun _ _ _ => False) : PE X Ex (up (xCallL tb R a)) :=
  pe_wk h fun σ H Q q => callL_up ad q
def toAVL (tb : List (Addr × Str)) (n : Nat) : RV → AV
  | .d x => .d x
  | .p => .q n tb
  | .o P => .o P
  | _ => .u
/-- the body of a def that makes lambdas, entered -/
theorem enterL {tb : List (Addr × Str)} {R : DR} {t : XS} {N : List Str} {vs : List V} {H : Hp} {Q : VK} {E : XK} (h : SpL tb R vs H Q E) (hn : vs.length ≤ N.length)
    (k : ∀ n rs K, R.run n rs K → t.run (okEnd true K) (rs.map (toAVL tb n) ++ List.replicate (N.length - rs.length) .u)) : upS t { nx := fun _ H' => Q .non H', rt := Q } (start N vs) H := by
  obtain ⟨p, M, n, rs, pm, ph, ml, hP, tz, tm, ag, hr⟩ := h
  have lv := arg_len ag
  let Γ : Ga := ⟨true, p, M, H, fun _ _ => True, fun _ _ _ _ _ _ => trivial, tb, tm, fun q hq => (tz q hq).elim fun ps h => ⟨ps, h.1⟩⟩
  have noL : ∀ (i : Nat) (xs : List PyData), (rs.map (toAVL tb n) ++ List.replicate (N.length - rs.length) AV.u)[i]? ≠ some (.l xs) := fun i xs e => by
    by_cases z : i < (rs.map (toAVL tb n)).length
    · rw [List.getElem?_append_left z] at e
      obtain ⟨r, _, e⟩ := mapget e
      cases r <;> cases e
    · rw [List.getElem?_append_right (by omega), List.getElem?_replicate] at e
      split at e <;> cases e
  have mx : ∀ a, Mx Γ (rs.map (toAVL tb n) ++ List.replicate (N.length - rs.length) AV.u) TN (start N vs) a ↔ M a := fun a => by
    constructor
    · rintro (z | ⟨i, xs, e, _⟩ | z)
      · exact z
      · exact absurd e (noL i xs)
      · exact z.elim
    · exact fun z => .inl z
  have f : Fit2 M (Mx Γ (rs.map (toAVL tb n) ++ List.replicate (N.length - rs.length) AV.u) TN (start N vs)) H H := Fit2.less fun a z => (mx a).mp z
  have rep : Rep Γ (rs.map (toAVL tb n) ++ List.replicate (N.length - rs.length) AV.u) TN (start N vs) H := by
    refine ⟨?_, pm, ph, ph, fun _ _ _ h => h, ml, fun a h => h.elim, fun i j xs ys h1 _ _ => absurd h1 (noL i xs), fun i e h => ?_, trivial, tz⟩
    · unfold L2.start
      simp only [List.length_append, List.length_map, List.length_replicate, lv]
    · by_cases z : i < (rs.map (toAVL tb n)).length
      · rw [List.getElem?_append_left z] at h
        obtain ⟨r, hr2, rfl⟩ := mapget h
        obtain ⟨v, hv, ar⟩ := arg_at ag hr2
        have sv : (start N vs)[i]? = some (some v) := by
          unfold L2.start
          rw [List.getElem?_append_left (by rw [List.length_map]; exact (List.getElem?_eq_some_iff.mp hv).1), List.getElem?_map, hv]
          rfl
        rw [sv]
        cases r with
        | d x => exact ⟨v, rfl, Dn.go f ar⟩
        | p =>
          have ar' : v = .ref p := ar
          exact ⟨by rw [ar'], hP, rfl, rfl⟩
        | o P => exact ⟨v, rfl, Stb.go f ar⟩
        | f xs => trivial
        | b x => trivial
      · rw [List.getElem?_append_right (by omega), List.getElem?_replicate] at h
        split at h
        · cases h
          trivial
        · cases h
  refine ⟨Γ, _, rep, t.mono (fun e q σ' H' R' => ?_) (fun r e q v σ' T' H' R' d => ?_) (fun _ (h : False) => h.elim) (fun _ (h : False) => h.elim) (k n rs _ hr)⟩
  · obtain ⟨m, hm, q⟩ := q
    exact q .non H' ⟨fun b o nb nz h => R'.ext b o ⟨fun _ => nb, nz⟩ h, (R'.pail (hm rfl)).1, R'.tz⟩ .non
  · obtain ⟨okr, m, hm, q⟩ := q
    have af : AftL tb p H H' m := ⟨fun b o nb nz h => R'.ext b o ⟨fun _ => nb, nz⟩ h, (R'.pail (hm rfl)).1, R'.tz⟩
    have g : Fit2 (Mx Γ e T' σ') M H' H' := Fit2.less fun a z => .inl z
    refine q v H' af ?_
    cases r with
    | d x => exact Dn.go g d
    | o P => exact Stb.go g d
    | f xs =>
      obtain ⟨a, ws, e1, h0, ht, h1, h2, h3⟩ := d
      exact ⟨a, ws, e1, h0, h1, h2, h3.go (Fit2.less fun b z => by
        rcases z with z | rfl
        · exact .inl z
        · exact .inr (.inr ht))⟩
    | b x => cases okr
    | p => cases okr
/-- {} -/
def xDct : XE := ⟨fun ε K => K (.d (.dict [])) ε, fun h k => h _ _ k⟩
theorem xe_dct {X : Cx} {pos : Pos} : PE X (.Dict [] [] pos) (up xDct) := pe_wk pe_dnewK fun σ H Q ⟨Γ, ε, T, R, k⟩ => fun t ht => k (.ref t) T _ (R.same (same_new ht)) ((Stp.refl R).same (same_new ht)) (Dn.dct (R.not_x ht) upd_same)
end Cs
set_option maxHeartbeats 4000000
namespace Cs
open PySem L2 L2H PyProof.Rows
/-- what heard makes of an error that keeps data -/
def HE (K : PySem.W.Frag) (cl : Str → Addr) (Q : VK) : XK := fun cls d H => ∃ (C dd : Addr) (n : Nat) (v : V) (dt : PyData) (p0 : Addr), cls = .ref C ∧ d = some dd ∧ ExW K cl C n ∧ (n = 0 ∨ n = 1) ∧ H dd = some (.xd [(fldOf n, v)]) ∧ Tl p0 H v dt ∧
  ∀ l H', H l = none → Same H H' → H' l = some (.lst [.str (wordOf n), .str dt.shown]) → Q (.ref l) H'
/-- .. and of what comes back -/
def HB (Q : VK) : VK := fun v H => ∃ (p0 : Addr) (dt : PyData), Tl p0 H v dt ∧ ∀ l, H l = none → Q (.ref l) (upd H l (.lst [.str "back", .str dt.shown]))
def TTh (K : PySem.W.Frag) (cl : Str → Addr) : (XK → Hp → VK → Prop) → Hp → VK → Prop := fun tl H Q => ∀ (E : XK) (Q' : VK), (∀ cls d H', HE K cl Q cls d H' → E cls d H') → (∀ v H', HB Q v H' → Q' v H') → tl E H Q'
/-- the word's def, where it stands -/
def WordAt (P : Program) (w : World) (K : PySem.W.Frag) (mg : Str → Option Value) (base : Heap) (cl : Str → Addr) : Prop :=
  ∃ f fd, FnEG P w K mg base 1 f fd ["_law_e"] (SpWord K cl) ∧ mg "_law_word" = some (.ref f) ∧ PySem.W.keepIn K (.ref f) = true ∧ Binds K fd ["_law_e"] []
theorem names_cl {X : Cx} {x : Str} {a : Addr} (hg : Gl X x) (hd : (x == ("__debug__" : Str)) = false) (h : ∃ u, X.mg x = some u ∧ RelV (.ref a) u) : Names X x (.ref a) := by
  obtain ⟨u, e, r⟩ := h
  cases r
  exact ⟨hg, hd, .inl e⟩
theorem hu64R {k : Nat} {A : Around} (h : RoomH k A) : A.units + 64 < cLine := Nat.lt_of_le_of_lt (by omega) h.un
theorem room_h {k : Nat} {A : Around} (h : Room k A) : RoomH k A := ⟨h.dp, h.un⟩
theorem sc__law_heard : FnScope ["_law_act", "_law_back", "_law_e"] ["_law_act"] (defScope (topS 51)) := ⟨rfl, rfl, rfl, by decide +kernel, rfl, by decide +kernel, by decide +kernel⟩
theorem pss_weak {X : Cx} {st : List Stmt} {t t' : TS} (h : PSs X st t) (w : ∀ D σ H, t' D σ H → t D σ H) : PSs X st t' := ⟨fun pins s σ H D I q => h.run pins s σ H D I (w D σ H q)⟩
abbrev hX (X : Cx) (g : Addr) (cdg : Value) (s : Shared) (H : Hp) : Cx := cxOf C8.CX0 X.prog X.w X.K X.mg X.base ["_law_act", "_law_back", "_law_e"] "_law_heard" (defScope (topS 51)) g cdg X.A X.stack s H C8.E0
theorem gives_heard {X : Cx} {cl : Str → Addr} {g : Addr} {cdg : Value} {qq : Str} (T : Txt X.mg) (G : ClsT X.mg cl) (W : WordAt X.prog X.w X.K X.mg X.base cl) (hG : X.A.guards = some []) (hr : Room 2 X.A) :
    LamX.GivesTo X ["_law_act", "_law_back", "_law_e"] "_law_heard" (defScope (topS 51)) g cdg (defBody (topS 51)) "_law_act" qq (TTh X.K cl) := by
  intro f c' s H Q tl hact hc' hT
  obtain ⟨fw, fdw, Fw, gw, kw, bw⟩ := W
  have nd := sc__law_heard.nd
  have hrw : RoomH 1 ((X.A).deeper (envOfC "_law_heard" (defScope (topS 51)) s.heap.objs.size g cdg)) := room_h (hr.deeper _)
  refine ⟨_, PSs.nox (pss_cons (ps_try_as3 (i := 2) (m := 3) rfl rfl nd rfl rfl rfl (names_cl rfl rfl G.v_WrongValue) (names_cl rfl rfl G.v_WrongName) (names_cl rfl rfl G.v_NotPossible)
      (fun W pn xe tk _ => pss_one (ps_set (i := 1) nd rfl (.inl rfl) (hact W pn xe (fun cls d H' => ∀ σ', W cls d σ' H') _ _ tk (fun cls d σ' H' h => h σ'))))
      (ts := fun a cls d D σ H => ∃ x, σ[2]? = some (some x) ∧ x = .ref a ∧ ∃ (C dd : Addr) (n : Nat) (v : V) (dt : PyData) (p0 : Addr), cls = .ref C ∧ d = some dd ∧ ExW X.K cl C n ∧ (n = 0 ∨ n = 1) ∧ H dd = some (.xd [(fldOf n, v)]) ∧ Tl p0 H v dt ∧
        ∀ l H', H l = none → Same H H' → H' l = some (.lst [.str (wordOf n), .str dt.shown]) → D.rt (.ref l) H')
      (fun a oe cls d pn hz hf => pss_weak (pss_one (ps_ret (pe_callEG (X := Cx.suite (hX X g cdg s H) a ((a, oe) :: pn)) (p := (a, oe)) Fw hG ⟨hrw.dp, hrw.un⟩ List.mem_cons_self rfl gw kw bw (pa_cons (pv 2) pa_nil)))) (fun D σ H' h => by
        obtain ⟨x, hx, rfl, C, dd, n, v, dt, p0, rfl, rfl, B, hn, hd, hb, k⟩ := h
        exact ⟨_, hx, C, dd, n, v, dt, p0, rfl, hz, hf, B, hn, hd, hb, k⟩)))
    (pss_one (ps_ret (pe_lst (pa_cons pe_str (pa_cons (pe_callB (callReprD hG (hu64R hrw)) (by rfl) T.repr_ (by decide +kernel) (pa_cons (pv 1) pa_nil)) pa_nil)))))), ⟨rfl, hc', hT _ _ (fun cls d H' h σ' hl => ?_) fun v H' h => ?_⟩⟩
  · obtain ⟨C, dd, n, v, dt, p0, rfl, rfl, B, hn, hd, hb, k⟩ := h
    refine ⟨B.em, fun a ha => ⟨.ref a, ?_, rfl, C, dd, n, v, dt, p0, rfl, rfl, B, hn, hd, hb, k⟩⟩
    rw [List.getElem?_set_self (by omega)]
  · obtain ⟨p0, dt, t, k⟩ := h
    exact ⟨_, rfl, p0, v, dt, rfl, t.1, t.2.1, t.2.2.1, t.2.2.2.1, t.2.2.2.2, len_le (n := 2) rfl (by decide), k⟩
end Cs
set_option maxHeartbeats 4000000
/-! Rules of my own: bool, == and != of an own object and anything; own methods and classmethods called by keywords. -/
namespace Cs
open PySem L2 PyProof.Rows
/-! ### the machine's part -/
section
variable {prog : Program} {w : World} {A : Around} {E : Value → Shared → Prop} {s : Shared} {K : PySem.W.Frag} {x C L f : Addr} {h₀ : Heap} {m : Str → Option Value} {ox : Obj} {od : Option Obj}
/-- truth by an own __len__ -/
theorem truthy_len {Q : Bool → Shared → Prop} (F : Fr h₀ L s.heap m) (X₀ : K.In h₀) (I : PySem.W.InstAt s.heap x ox C od) (hb : PySem.W.findIn K (.ref C) "__bool__" = some none) (hs : PySem.W.findIn K (.ref C) "__len__" = some (some (.ref f))) (hf : PySem.W.isFn K (.ref f) = true)
    (h : wpAny (model prog w) A.in1 (call (.ref f) [.ref x]) (PySem.W.LenBack fun v s' => ∃ n u, v = .int n u ∧ Q (n != 0) s') E s) : wpAny (model prog w) A (truthy (.ref x)) Q E s := by
  have X := X₀.keeps F.keep
  have key : wpAny (model prog w) A (runValue (.builtin "len" ⟨[.ref x], []⟩)) (fun r s' => ∃ n u, r = .int n u ∧ Q (n != 0) s') E s := by
    refine wpAny_runValue (codeAny_builtin PySem.entry_len ?_)
    rw [Around.under_plainId PySem.plain_len _]
    unfold Builtin.«len»
    refine wpAny_bind (m := oneArg "len" _) (wpAny_pure ?_)
    refine wpAny_bind (m := callSpecial? (.ref x) (Str.ofString "__len__")) (PySem.W.special_fn X I hs (beq_iff_eq.mp hf) (wpAny_mono h (fun r s' hr => ?_) fun _ _ y => y))
    cases r <;> first | exact hr.elim | skip
    rename_i n u
    obtain ⟨⟨h0, h1⟩, hq⟩ := hr
    refine wpAny_bind (wpAny_holding (wpAny_pure ?_))
    refine wpAny_bind (wpAny_letGo ?_)
    show wpAny _ _ (if n < 0 then _ else _) _ _ _
    rw [if_neg (by omega)]
    show wpAny _ _ (if n ≥ 2 ^ 63 then _ else _) _ _ _
    rw [if_neg (by omega)]
    refine wpAny_bind (wpAny_mkInt (wpAny_pure ?_))
    obtain ⟨n', u', e, q⟩ := hq
    cases e
    exact ⟨_, _, rfl, q⟩
  have hsp : ∀ {Q' : Option Value → Shared → Prop}, Q' (some (.ref f)) s → wpAny (model prog w) A (specialOf (.ref x) "__len__") Q' E s := fun q => by
    unfold specialOf
    exact wpAny_bind (I.type.here ((PySem.W.looks_findIn X hs).here q))
  unfold truthy
  first
    | refine wpAny_bind (DSub.special_no (name := Str.ofString "__bool__") X I hb ?_)
    | refine wpAny_bind (wpAny_pure (wpAny_bind (DSub.special_no (name := Str.ofString "__bool__") X I hb ?_)))
  first
    | refine wpAny_bind (hsp ?_)
    | refine wpAny_bind (wpAny_pure (wpAny_bind (hsp ?_)))
  first
    | exact wpAny_bind (wpAny_mono key (fun r s' h' => by obtain ⟨n, u, rfl, hq⟩ := h'; exact wpAny_pure hq) fun _ _ e => e)
    | exact wpAny_bind (wpAny_pure (wpAny_bind (wpAny_mono key (fun r s' h' => by obtain ⟨n, u, rfl, hq⟩ := h'; exact wpAny_pure hq) fun _ _ e => e)))
theorem meets_bool_own : PySem.MeetsIn prog w (Builtin.«bool.__new__» ⟨[.type "bool", .ref x], []⟩) (fun A R s => wpAny (model prog w) A.in1 (truthy (.ref x)) (fun b s' => R (.ok (.ret (.bool b))) s') (fun e s' => R (.error e) s') s) :=
  .of_wp fun A R s h => by
    have f1 := F.conv_sub_bool
    repeat (any_goals (first | assumption | (with_reducible refine wpAny_mono h (fun b s' q => ?_) fun _ _ e => e) | wp_step))
    all_goals first | exact ⟨_, rfl, q⟩ | skip
end
end Cs
namespace Cs
open PySem L2 PyProof.Rows
section
variable {prog : Program} {w : World} {A : Around} {E : Value → Shared → Prop} {s : Shared} {K : PySem.W.Frag} {x C L f : Addr} {h₀ : Heap} {m : Str → Option Value} {ox : Obj} {od : Option Obj} {b tb : Value}
theorem call_bool_own {Q : Value → Shared → Prop} (h : wpAny (model prog w) A.in1.in1 (truthy (.ref x)) (fun b s' => Q (.bool b) s') E s) : wpAny (model prog w) A (call (.type "bool") [.ref x]) Q E s :=
  callType_newIn F.called_bool F.newNe_bool (F.typeCall_bool_1 _) (F.newCall_bool_1 _) (fun obj => F.args_object_init_2 obj _) F.entry_bool_new meets_bool_own
    (wpAny_mono h (fun _ _ q => ⟨rfl, q⟩) fun _ _ q => q)
theorem looks_ty {o : Obj} {a : Addr} (h : s.heap.get? a = some o) : PySem.W.Looks (model prog w) s.heap (typeOf (.ref a)) o.cls := (PySem.W.Looks.ld h).andThen .now
/-- a special method that is a slot of object, read off an own instance -/
theorem ifBound_slot {name : Str} {id : String} {args : List Value} {Q : Option Value → Shared → Prop} (S : PySem.Slot "object" name id) (X : K.In s.heap) (I : PySem.W.InstAt s.heap x ox C od) (hs : PySem.W.findIn K (.ref C) name = some (some (.builtin id)))
    (h : wpAny (model prog w) A (call (.builtin id) (.ref x :: args)) (fun v => Q (some v)) E s) : wpAny (model prog w) A (callSpecialIfBound? (.ref x) name args) Q E s := by
  simp only [callSpecialIfBound?, bindSpecialIfBound?]
  refine wpAny_holding (wpAny_bind (wpAny_bind (wpAny_bind (I.type.here ((PySem.W.looks_findIn X hs).here ?_)))))
  simp only [S.bind]
  refine wpAny_bind (wpAny_askSetting (wpAny_ite ?_))
  have fin : wpAny (model prog w) A (call (.builtin id) ([.ref x] ++ args) >>= fun v => pure (some v)) Q E s := wpAny_bind (wpAny_mono h (fun v s' h' => wpAny_pure h') fun _ _ h' => h')
  split
  · exact wpAny_bind (wpAny_pure (wpAny_pure fin))
  · exact wpAny_tryCatch (wpAny_bind (wpAny_pure (wpAny_pure fin)))
theorem objNe_own {Q : Fin → Shared → Prop} (hu : A.units < cLine) (X : K.In s.heap) (I : PySem.W.InstAt s.heap x ox C od) (hs : PySem.W.findIn K (.ref C) "__eq__" = some (some (.ref f))) (hf : PySem.W.isFn K (.ref f) = true)
    (h : wpAny (model prog w) A (call (.ref f) [.ref x, b]) (fun v s' => ∃ z, v = .bool z ∧ Q (.done (.ret (.bool (!z)))) s') E s) : wpAny (model prog w) A (Builtin.«object.__ne__» ⟨[.ref x, b], []⟩) Q E s := by
  unfold Builtin.«object.__ne__»
  repeat (first
    | with_reducible refine wpAny_cRoomFor hu ?_
    | (refine wpAny_bind (m := callSpecialIfBound? (.ref x) (Str.ofString "__eq__") [b])
        (PySem.W.ifBound_K X I hs hf (wpAny_mono h (fun r s' hr => by
          obtain ⟨z, rfl, hq⟩ := hr
          repeat (first | exact hq | exact wpAny_pure hq | exact wpAny_truthy_bool hq | (refine wpAny_bind (m := truthy (.bool _)) (wpAny_truthy_bool ?_)) | wp_step)) fun _ _ e => e)))
    | wp_step)
theorem cmpNe_own {Q : Value → Shared → Prop} (hu : A.units + 1 < cLine) (F : Fr h₀ L s.heap m) (X₀ : K.In h₀) (I : PySem.W.InstAt s.heap x ox C od) (hb : PySem.W.Looks (model prog w) s.heap (typeOf b) tb) (hn : PySem.W.notFirst K C tb = true)
    (hne : PySem.W.findIn K (.ref C) "__ne__" = some (some (.builtin "object.__ne__"))) (hob : PySem.W.subIn K (.ref C) (.type "object") = some true) (hs : PySem.W.findIn K (.ref C) "__eq__" = some (some (.ref f))) (hf : PySem.W.isFn K (.ref f) = true)
    (h : wpAny (model prog w) A.in1 (call (.ref f) [.ref x, b]) (fun v s' => ∃ z, v = .bool z ∧ Q (.bool (!z)) s') E s) : wpAny (model prog w) A (richCompare .NotEq (.ref x) b) Q E s := by
  have X := X₀.keeps F.keep
  have one : wpAny (model prog w) A (tryCompare (.ref x) (cmpInfo .NotEq).2.1 b) (fun r s' => ∃ v, r = some v ∧ Q v s') E s := by
    unfold tryCompare
    refine wpAny_bind (ifBound_slot PySem.F.cmp_object.ne X I hne (wpAny_call (codeAny_call_builtin PySem.F.cmp_object.ne.plain PySem.F.cmpEntry_ne
      (PySem.W.check_slot PySem.F.cmpKind_ne PySem.F.cmpSplit_ne (I.type.andThen (PySem.W.looks_subIn X hob)) (PySem.F.cmpArgs_ne _ _) (objNe_own (A := A.in1) hu X I hs hf (wpAny_mono h (fun v s' hv => ?_) fun _ _ e => e))))))
    obtain ⟨z, rfl, hq⟩ := hv
    first | exact ⟨z, rfl, wpAny_pure ⟨_, rfl, hq⟩⟩ | exact ⟨z, rfl, ⟨_, rfl, hq⟩⟩
  unfold richCompare
  simp only [oneThing_ref]
  refine wpAny_holding (wpAny_bind (wpAny_cRoomFor (Nat.lt_of_succ_lt hu) ?_))
  refine wpAny_bind (I.type.here (wpAny_bind (hb.here ?_)))
  split
  · rename_i q
    have e : PySem.W.subIn K tb (.ref C) = some false := by
      rcases Bool.or_eq_true_iff.mp hn with e | e
      · rw [beq_iff_eq.mp e] at q; simp at q
      · exact beq_iff_eq.mp e
    refine wpAny_bind ((PySem.W.looks_subIn X e).here ?_)
    simp only [Bool.false_eq_true, if_false]
    refine wpAny_bind (wpAny_mono one (fun r s' z => ?_) fun _ _ e => e)
    obtain ⟨v, rfl, hq⟩ := z
    exact wpAny_pure hq
  · refine wpAny_bind (wpAny_pure ?_)
    simp only [Bool.false_eq_true, if_false]
    refine wpAny_bind (wpAny_mono one (fun r s' z => ?_) fun _ _ e => e)
    obtain ⟨v, rfl, hq⟩ := z
    exact wpAny_pure hq
end
section
variable {X : Cx} {CX : CXT} {k : Nat} {g C : Addr} {fd : FuncData} {ps : List Str} {sp : Sp} {E : XK}
theorem notFirst_ty {K : PySem.W.Frag} {C : Addr} (d : PyData) : PySem.W.notFirst K C (.type (tyD d)) = true := by
  cases d <;> rfl
theorem notFirst_own {K : PySem.W.Frag} {C : Addr} : PySem.W.notFirst K C (.ref C) = true := by
  unfold PySem.W.notFirst
  rw [beq_self_eq_true]
  rfl
theorem looks_rp {pins : List (Addr × Obj)} {σ : L2.St} {H : Hp} {s : Shared} {p : Addr} {v : V} {u : Value} {d : PyData} (I : L2.Inv X pins σ H s) (r : Rp p H v d) (ru : RelV v u) : PySem.W.Looks (model X.prog X.w) s.heap (typeOf u) (.type (tyD d)) := by
  cases r with
  | non => cases (show u = Value.none from ru); exact .now
  | bl b => cases (show u = Value.bool b from ru); exact .now
  | int i => obtain ⟨t, q⟩ := (show ∃ t, u = Value.int i t from ru); cases q; exact .now
  | str x => obtain ⟨t, q⟩ := (show ∃ t, u = Value.str x t from ru); cases q; exact .now
  | @lst a xs ds n h z r =>
    cases (show u = Value.ref a from ru)
    obtain ⟨_, _, n, _, h1⟩ := (show ObjOk X.prog X.w H s.heap a (.lst xs) from I.hok a _ h)
    exact looks_ty h1
  | @tup a xs ds n h z r =>
    cases (show u = Value.ref a from ru)
    rcases h with h | ⟨o, h⟩
    · obtain ⟨_, _, _, o, h1, h2, _⟩ := (show ObjOk X.prog X.w H s.heap a (.tup xs) from I.hok a _ h)
      have := looks_ty (prog := X.prog) (w := X.w) h1
      rw [h2] at this
      exact this
    · obtain ⟨_, _, _, _, o, h1, h2, _⟩ := (show ObjOk X.prog X.w H s.heap a (.frz _ (.tup xs)) from I.hok a _ h)
      have := looks_ty (prog := X.prog) (w := X.w) h1
      rw [h2] at this
      exact this
  | @dct a n h =>
    cases (show u = Value.ref a from ru)
    obtain ⟨_, _, vs, _, o, es, ep, h1, h2, _⟩ := (show ObjOk X.prog X.w H s.heap a (.dK []) from I.hok a _ h)
    have := looks_ty (prog := X.prog) (w := X.w) h1
    rw [h2.1] at this
    exact this
/-- what stands on the right of == -/
def OthV (C : Addr) (y : V) (H : Hp) : Prop := (∃ p d, Rp p H y d) ∨ ∃ b dy gs, y = .ref b ∧ H b = some (.ins C dy gs)
theorem OthV.looks {pins : List (Addr × Obj)} {σ : L2.St} {H : Hp} {s : Shared} {v : V} {u : Value} (h : OthV C v H) (I : L2.Inv X pins σ H s) (ru : RelV v u) : ∃ tb, PySem.W.Looks (model X.prog X.w) s.heap (typeOf u) tb ∧ PySem.W.notFirst X.K C tb = true := by
  rcases h with ⟨p, d, r⟩ | ⟨b, dy, gs, rfl, hb⟩
  · exact ⟨_, looks_rp I r ru, notFirst_ty d⟩
  · cases ru
    obtain ⟨mB, J', _⟩ := ins_get I.hok hb
    obtain ⟨od', J', _⟩ := J'.look
    exact ⟨_, J'.type, notFirst_own⟩
def rEqA (neg : Bool) (C : Addr) (sp : Sp) (E : XK) : R2 := fun x y H Q => ∃ (a dx : Addr) (fs : List (Str × V)), x = .ref a ∧ H a = some (.ins C dx fs) ∧ OthV C y H ∧ sp [.ref a, y] H (fun v H' => ∃ z : Bool, v = .bl z ∧ Q (.bl (if neg then !z else z)) H') E
theorem op_eqA (F : FnOk X.prog X.w X.K X.mg X.base CX k g fd ps sp) (hr : Room k X.A) (hb : Binds X.K fd ps []) (hx : Passes CX X E) (hs : PySem.W.findIn X.K (.ref C) "__eq__" = some (some (.ref g))) (hf : PySem.W.isFn X.K (.ref g) = true) :
    OpR X (compareOp .Eq) (rEqA false C sp E) := by
  rintro pins s σ H x y v u Q I rx ry ⟨a, dx, fs, rfl, ha, ho, q⟩
  cases rx
  obtain ⟨mA, J, _⟩ := ins_get I.hok ha
  obtain ⟨od, J, _⟩ := J.look
  obtain ⟨m, hF⟩ := I.fr
  obtain ⟨tb, L, nf⟩ := ho.looks I ry
  show wpAny (model X.prog X.w) X.A (richCompare .Eq (.ref a) u) (EP X pins σ Q) X.xe s
  refine PySem.W.cmp_K (op := .Eq) (tb := tb) hr.units0 hF I.ok.mod.kin J L nf hs hf (wpAny_mono (run_at (vs := [.ref a, y]) ⟨hr, rfl⟩ F hb hx I (.cons rfl (.cons ry .nil)) q) (fun v s' hv => ?_) fun _ _ e => e)
  obtain ⟨x, H', I', rx, z, rfl, q'⟩ := hv
  cases rx
  exact ⟨.bl z, H', I', rfl, q'⟩
theorem op_neA (F : FnOk X.prog X.w X.K X.mg X.base CX k g fd ps sp) (hr : Room (k + 1) X.A) (hb : Binds X.K fd ps []) (hx : Passes CX X E) (hne : PySem.W.findIn X.K (.ref C) "__ne__" = some (some (.builtin "object.__ne__"))) (hob : PySem.W.subIn X.K (.ref C) (.type "object") = some true)
    (hs : PySem.W.findIn X.K (.ref C) "__eq__" = some (some (.ref g))) (hf : PySem.W.isFn X.K (.ref g) = true) : OpR X (compareOp .NotEq) (rEqA true C sp E) := by
  rintro pins s σ H x y v u Q I rx ry ⟨a, dx, fs, rfl, ha, ho, q⟩
  cases rx
  obtain ⟨mA, J, _⟩ := ins_get I.hok ha
  obtain ⟨od, J, _⟩ := J.look
  obtain ⟨m, hF⟩ := I.fr
  obtain ⟨tb, L, nf⟩ := ho.looks I ry
  show wpAny (model X.prog X.w) X.A (richCompare .NotEq (.ref a) u) (EP X pins σ Q) X.xe s
  refine cmpNe_own (by have := hr.units; omega) hF I.ok.mod.kin J L nf hne hob hs hf (wpAny_mono (run_at (vs := [.ref a, y]) (Sub.in1 ⟨hr, rfl⟩) F hb hx I (.cons rfl (.cons ry .nil)) q) (fun v s' hv => ?_) fun _ _ e => e)
  obtain ⟨x, H', I', rx, z, rfl, q'⟩ := hv
  cases rx
  exact ⟨z, rfl, .bl (!z), H', I', rfl, q'⟩
def rBoolI (C : Addr) (sp : Sp) (E : XK) : List V → Hp → VK → Prop := fun xs H Q => ∃ (a dx : Addr) (fs : List (Str × V)), xs = [.ref a] ∧ H a = some (.ins C dx fs) ∧ sp [.ref a] H (fun v H' => ∃ n : Nat, v = .int (n : Nat) ∧ n < 1000000 ∧ Q (.bl (n != 0)) H') E
theorem call_boolI (F : FnOk X.prog X.w X.K X.mg X.base CX k g fd ps sp) (hr : Room (k + 3) X.A) (hb : Binds X.K fd ps []) (hx : Passes CX X E) (hbo : PySem.W.findIn X.K (.ref C) "__bool__" = some none) (hs : PySem.W.findIn X.K (.ref C) "__len__" = some (some (.ref g))) (hf : PySem.W.isFn X.K (.ref g) = true) :
    CallR X (.type "bool") (rBoolI C sp E) := by
  rintro pins s σ H xs us Q I r ⟨a, dx, fs, rfl, ha, q⟩
  obtain ⟨u, rfl, ru⟩ := r.one
  cases ru
  obtain ⟨mA, J, _⟩ := ins_get I.hok ha
  obtain ⟨od, J, _⟩ := J.look
  obtain ⟨m, hF⟩ := I.fr
  refine call_bool_own (truthy_len hF I.ok.mod.kin J hbo hs hf (wpAny_mono (run_at (vs := [.ref a]) (Sub.in1 (Sub.in1 (Sub.in1 ⟨hr, rfl⟩))) F hb hx I (.cons rfl .nil) q) (fun v s' hv => ?_) fun _ _ e => e))
  obtain ⟨x, H', I', rx, n, rfl, hn, q'⟩ := hv
  obtain ⟨t, rfl⟩ := rx
  refine ⟨⟨by omega, by omega⟩, _, _, rfl, .bl (n != 0), H', I'.tok _, ?_, q'⟩
  show Value.bool _ = Value.bool _
  congr 1
  cases n <;> simp <;> omega
end
/-! ### own methods and classmethods called by keywords alone -/
/-- o.m(k = v, ..) -/
def tMethK (C : Addr) (m : Str) (n : Nat) (sp : Sp) (gV : List V → List V → List V) (E : XK) (ta : TE) (tk : TA) : TE := fun σ H Q => ta σ H fun x H1 => ∃ a dx fs, x = .ref a ∧ H1 a = some (.ins C dx fs) ∧ fs.lookup m = none ∧ tk σ H1 fun zs H2 => zs.length = n ∧ sp (gV [.ref a] zs) H2 Q E
section
variable {X : Cx} {CX : CXT} {k : Nat} {C p g f : Addr} {mc : Value} {fd : FuncData} {ps ks : List Str} {sp : Sp} {E : XK} {o : Expr} {m : Str} {pos apos : Pos} {ta : TE} {tk : TA} {pl : Sem Bool} {kws : List Keyword} {gg : List Value → List Value → List Value} {gV : List V → List V → List V}
theorem pe_methK (he : PE X o ta) (c : Cls X.K C) (hm : Meth X.K C m f) (F : FnOk X.prog X.w X.K X.mg X.base CX k f fd ps sp) (hr : Room k X.A) (hb : KBn X.K fd ps 1 ks gg gV) (hx : Passes CX X E) (hkw : PK X kws tk)
    (hall : (backToKw pos (keywordEach kws X.env)).all (·.1.isSome) = true := by rfl) (hks : (backToKw pos (keywordEach kws X.env)).filterMap (·.1) = ks := by rfl)
    (hpl : ((backTo pos (starEach [] X.env)).any (·.1) || (backToKw pos (keywordEach kws X.env)).any (·.1.isNone)) = false := by rfl)
    (ht : eval (.Call (.Attribute o m apos) [] kws pos) X.env = (do
      let ov ← eval o X.env
      standAt apos.atName
      let (f, first) ← holding [ov] (getMethod ov m pl)
      callWith pos f first (backTo pos (starEach [] X.env)) (backToKw pos (keywordEach kws X.env))) := by rfl) :
    PE X (.Call (.Attribute o m apos) [] kws pos) (tMethK C m ks.length sp gV E ta tk) := by
  refine ⟨fun pins s σ H Q I h => ?_⟩
  refine PySem.W.methodCall_KW (pl := pl) (thn (he.run pins s σ H _ I h) fun u s1 ⟨x, H1, I1, rx, a, dx, fs, ex, ea, l, q⟩ => ?_) ht
  subst ex
  obtain rfl : u = Value.ref a := rx
  refine getmeth_ok I1 ea c hm l ?_
  refine PySem.W.callWith_KW0 (first := [.ref a]) (h₀ := X.base) I.ok.mod.kin hm.kp hall ?_ hpl
  refine thn (hkw.run pos pins s1 σ H1 _ I1 q) fun ws s2 ⟨zs, H2, I2, rz, l2, q2⟩ => ⟨I2.kIn, ?_⟩
  rw [hks]
  exact run_fnN (us := [.ref a]) (vs := [.ref a]) F hr hb hx I2 (.cons rfl .nil) rz rfl l2 q2
def tCMethK (C : Addr) (n : Nat) (sp : Sp) (gV : List V → List V → List V) (E : XK) (ta : TE) (tk : TA) : TE := fun σ H Q => ta σ H fun x H1 => x = .ref C ∧ tk σ H1 fun zs H2 => zs.length = n ∧ sp (gV [.ref C] zs) H2 Q E
/-- C.m(k = v), m a classmethod -/
theorem pe_cmethK (he : PE X o ta) (r : ClX.CRead X.K C mc) (c : ClX.CMet X.K C mc m p g) (F : FnOk X.prog X.w X.K X.mg X.base CX k g fd ps sp) (hr : Room k X.A) (hb : KBn X.K fd ps 1 ks gg gV) (hx : Passes CX X E) (hkw : PK X kws tk)
    (hall : (backToKw pos (keywordEach kws X.env)).all (·.1.isSome) = true := by rfl) (hks : (backToKw pos (keywordEach kws X.env)).filterMap (·.1) = ks := by rfl)
    (hpl : ((backTo pos (starEach [] X.env)).any (·.1) || (backToKw pos (keywordEach kws X.env)).any (·.1.isNone)) = false := by rfl)
    (ht : eval (.Call (.Attribute o m apos) [] kws pos) X.env = (do
      let ov ← eval o X.env
      standAt apos.atName
      let (f, first) ← holding [ov] (getMethod ov m pl)
      callWith pos f first (backTo pos (starEach [] X.env)) (backToKw pos (keywordEach kws X.env))) := by rfl) :
    PE X (.Call (.Attribute o m apos) [] kws pos) (tCMethK C ks.length sp gV E ta tk) := by
  refine ⟨fun pins s σ H Q I h => ?_⟩
  refine PySem.W.methodCall_KW (pl := pl) (thn (he.run pins s σ H _ I h) fun u s1 ⟨x, H1, I1, rx, ex, q⟩ => ?_) ht
  subst ex
  obtain rfl : u = Value.ref C := rx
  refine ClX.getmethcm_ok I1 r c fun s2 I2 => ?_
  refine PySem.W.callWith_of (P := PySem.W.MethP X.K s1.heap.objs.size g (.ref C)) hpl (PySem.W.keeps_M c.fi) (evalArgs_kw2_nil hall ?_)
  refine thn (hkw.run pos _ s2 σ H1 _ I2 q) fun ws s3 ⟨zs, H2, I3, rz, l2, q2⟩ => ⟨⟨ClX.pin_at I3, I3.kIn⟩, ?_⟩
  rw [hks]
  have hpin := ClX.pin_at I3
  have I3' := ClX.unpin I3
  have r2 := hb.rel (vs := [.ref C]) (us := [.ref C]) (.cons rfl .nil) rz
  refine wpAny_call (PySem.W.method_call hpin (codeAny_mono (F.run X.A X.stack s3 H2 ⟨[.ref C], ks.zip ws⟩ (gg [.ref C] ws) (gV [.ref C] zs) Q E hr I3'.env0 (hb.to s3 [.ref C] ws I3.kIn rfl (rz.length.symm.trans l2)) r2 q2) fun r s' hq => ?_))
  cases r with
  | error e => exact hx pins σ H2 s3 e s' I3' hq
  | ok fl =>
    cases fl with
    | ret u => exact I3'.after hq
    | next => exact False.elim hq
    | brk => exact False.elim hq
    | cont => exact False.elim hq
end
end Cs
set_option maxHeartbeats 4000000
/-! What is heard of a call that raises, over data. -/
namespace Cs
open PySem PySem.Spec L2 L2H PyProof.Rows LamX
/-- what an error is raised with: its number, and what it keeps -/
structure DE where
  run : List RV → (Nat → PyData → Prop) → Prop
  mono : ∀ {rs : List RV} {K K' : Nat → PyData → Prop}, (∀ n d, K n d → K' n d) → run rs K → run rs K'
/-- data that can be shown shortly -/
def TlD (d : PyData) : Prop := d.showable = true ∧ topSafe d = true ∧ d.depth ≤ 60 ∧ d.shown.length ≤ 1000
/-- a call that raises -/
def SpR (xc : Nat → Addr) (R : DE) : List V → Hp → XK → Prop := fun vs H E => ∃ (p : Addr) (M : Addr → Prop) (rs : List RV), M p ∧ (∃ o, H p = some (.lst o)) ∧ (∀ a, M a → a = p ∨ Ls H a) ∧ ArgA p M H rs vs ∧
  R.run rs fun n dt => ∀ dd v H', Same H H' → H' dd = some (.xd [(fldOf n, v)]) → Dn M H' v dt → E (.ref (xc n)) (some dd) H'
/-- the numbers of errors that the law's word tells -/
def NSx (n : Nat) : Prop := n = 0 ∨ n = 1
def hdK (ε1 : List AV) (K : RV → List AV → Prop) (n : Nat) (dt : PyData) : Prop := NSx n ∧ TlD dt ∧ K (.f [.str (wordOf n), .str dt.shown]) ε1
def xHdM (C : Addr) (m : Str) (tb : List (Addr × Str)) (R : DE) (o : XE) (a : XA) : XE := ⟨fun ε K => tbOf ε = some tb ∧ o.run ε fun r ε1 => ∃ P, r = .o P ∧ InsM C m P ∧ a.run ε1 fun rs ε2 => ∃ rs', kas rs = some rs' ∧ R.run (.o P :: rs') (hdK ε2 K),
  fun h q => ⟨q.1, o.mono (fun _ _ ⟨P, e, i, q⟩ => ⟨P, e, i, a.mono (fun _ _ ⟨rs, e1, w⟩ => ⟨rs, e1, R.mono (fun _ _ k => ⟨k.1, k.2.1, h _ _ k.2.2⟩) w⟩) q⟩) q.2⟩⟩
def xHdMK (C : Addr) (m : Str) (tb : List (Addr × Str)) (R : DE) (o : XE) (a : XA) : XE := ⟨fun ε K => tbOf ε = some tb ∧ o.run ε fun r ε1 => ∃ P, r = .o P ∧ InsM C m P ∧ a.run ε1 fun rs ε2 => ∃ rs', kas rs = some rs' ∧ R.run (.o P :: rs'.reverse) (hdK ε2 K),
  fun h q => ⟨q.1, o.mono (fun _ _ ⟨P, e, i, q⟩ => ⟨P, e, i, a.mono (fun _ _ ⟨rs, e1, w⟩ => ⟨rs, e1, R.mono (fun _ _ k => ⟨k.1, k.2.1, h _ _ k.2.2⟩) w⟩) q⟩) q.2⟩⟩
def xHdC (rv : Bool) (tb : List (Addr × Str)) (R : DE) (a : XA) : XE := ⟨fun ε K => tbOf ε = some tb ∧ a.run ε fun rs ε1 => ∃ rs', kas rs = some rs' ∧ R.run (if rv then rs'.reverse else rs') (hdK ε1 K),
  fun h q => ⟨q.1, a.mono (fun _ _ ⟨rs, e1, w⟩ => ⟨rs, e1, R.mono (fun _ _ k => ⟨k.1, k.2.1, h _ _ k.2.2⟩) w⟩) q.2⟩⟩
section
variable {Γ : Ga} {ε ε2 : List AV} {T T2 : Addr → Prop} {σ : L2.St} {H H2 : Hp}
/-- behind the arguments -/
theorem hd_core {K : PySem.W.Frag} {cl : Str → Addr} {xc : Nat → Addr} {R : DE} {E : XK} {Q : VK} {rs rs' rs2 : List RV} {vs vs2 : List V} {F : RV → List AV → Prop} (hx : ∀ n, NSx n → ExW K cl (xc n) n) (R0 : Rep Γ ε T σ H) (R2 : Rep Γ ε2 T2 σ H2) (s2 : Stp Γ ε T ε2 T2 σ H H2) (d2 : DenA Γ ε2 T2 σ H rs vs H2) (e1 : kas rs = some rs')
    (pr : ∀ {p : Addr} {M : Addr → Prop} {H : Hp}, ArgA p M H rs' vs → ArgA p M H rs2 vs2) (w : R.run rs2 (hdK ε2 F)) (q : ∀ r ε' v T' H', F r ε' → Rep Γ ε' T' σ H' → Stp Γ ε T ε' T' σ H H' → Den Γ ε' T' σ H r v H' → Q v H')
    (hE : ∀ cls d H', HE K cl Q cls d H' → E cls d H') : SpR xc R vs2 H2 E := by
  have R3 := R2.less (T' := T) s2.t
  refine ⟨Γ.p, Mx Γ ε2 T σ, rs2, .inl R2.pm, R2.hp, R3.lists, pr (kas_arg R0 R2 s2 d2 e1), R.mono (fun n dt ⟨ns, tl, g⟩ dd v H' sm hdd dn => hE _ _ _ ⟨xc n, dd, n, v, dt, Γ.p, rfl, rfl, hx n ns, ns, hdd, ⟨dn.rp (.inl R2.pm), tl.1, tl.2.1, tl.2.2.1, sz1000 tl.2.2.2⟩, fun l H'' hl sm' at' => ?_⟩) w⟩
  have no : H2 l = none := by
    cases e : H2 l with
    | none => rfl
    | some o =>
      rw [sm _ _ e] at hl
      cases hl
  have all : Same H2 H'' := fun b o h => sm' _ _ (sm _ _ h)
  refine call_aft (B := false) (n := 0) (n' := 0) (K := F) R0 R2 s2 nofun (r := .f [.str (wordOf n), .str dt.shown]) rfl g all ⟨l, _, rfl, no, at', Nat.le_of_ble_eq_true rfl, .cons (.str _ ?_) (.cons (.str _ tl.2.2.2) .nil)⟩ q
  have : ∀ n, (wordOf n).length ≤ 1000 := fun n => by
    unfold wordOf
    split <;> decide
  exact this n
end
section
variable {X : Cx} {Ex : Expr} {C P : Addr} {m qual : Str} {tb : List (Addr × Str)} {R : DE} {o : XE} {a : XA} {sp : Sp} {cl : Str → Addr} {xc : Nat → Addr}
theorem x_hdM (hx : ∀ n, NSx n → ExW X.K cl (xc n) n) (hP : ∃ q ∈ tb, q.1 = P) (h : PE X Ex (tLam3 tb P (TTh X.K cl) fun E => tMeth C m sp [] E (up o) (upA a))) (ad : ∀ vs H Q E, SpR xc R vs H E → sp vs H Q E) : PE X Ex (up (xHdM C m tb R o a)) :=
  pe_wk h fun σ H Q ⟨Γ, ε, T, R00, ht, k⟩ => by
    have htb := R00.tbs ht
    subst htb
    refine ⟨R00.tz, fun H0 ex tz0 E Q' hE hB => ?_⟩
    obtain ⟨R0, s0⟩ := R00.lam hP ex tz0
    refine up1 R0 k fun r x ε1 T1 H1 ⟨Pr, er, im, g⟩ R1 s1 d1 => ?_
    subst er
    obtain ⟨b, dx, fs, rfl, hb, hl⟩ := im x H1 (d1 H1 fun _ _ _ h => h)
    refine ⟨b, dx, fs, rfl, hb, hl, upA1 R1 g fun rs vs ε2 T2 H2 ⟨rs', e1, w⟩ R2 s2 d2 => ?_⟩
    rw [List.append_nil]
    have dd : DenA Γ ε2 T2 σ H0 (.o Pr :: rs) (.ref b :: vs) H2 := .cons (d1.step R1 s2) (d2.early fun a => s1.none R0.hp) (fun xs a e => nomatch e)
    have e1' : kas (.o Pr :: rs) = some (.o Pr :: rs') := by
      show (kas rs).map _ = _
      rw [e1]
      rfl
    exact ad _ H2 Q' E (hd_core hx R0 R2 (s1.trans R0.hp s2) dd e1' (fun h => h) w (fun r ε' v T' H' w R' s' d' => w v T' H' R' (s0.trans R00.hp s') (d'.early fun a => s0.none R00.hp)) hE)
theorem x_hdMK {n : Nat} (hx : ∀ n, NSx n → ExW X.K cl (xc n) n) (hP : ∃ q ∈ tb, q.1 = P) (h : PE X Ex (tLam3 tb P (TTh X.K cl) fun E => tMethK C m n sp (fun vs zs => vs ++ zs.reverse) E (up o) (upA a))) (hm : ∀ rs K, R.run rs K → rs.length = n + 1) (ad : ∀ vs H Q E, SpR xc R vs H E → sp vs H Q E) : PE X Ex (up (xHdMK C m tb R o a)) :=
  pe_wk h fun σ H Q ⟨Γ, ε, T, R00, ht, k⟩ => by
    have htb := R00.tbs ht
    subst htb
    refine ⟨R00.tz, fun H0 ex tz0 E Q' hE hB => ?_⟩
    obtain ⟨R0, s0⟩ := R00.lam hP ex tz0
    refine up1 R0 k fun r x ε1 T1 H1 ⟨Pr, er, im, g⟩ R1 s1 d1 => ?_
    subst er
    obtain ⟨b, dx, fs, rfl, hb, hl⟩ := im x H1 (d1 H1 fun _ _ _ h => h)
    refine ⟨b, dx, fs, rfl, hb, hl, upA1 R1 g fun rs vs ε2 T2 H2 ⟨rs', e1, w⟩ R2 s2 d2 => ?_⟩
    have dd : DenA Γ ε2 T2 σ H0 (.o Pr :: rs) (.ref b :: vs) H2 := .cons (d1.step R1 s2) (d2.early fun a => s1.none R0.hp) (fun xs a e => nomatch e)
    have e1' : kas (.o Pr :: rs) = some (.o Pr :: rs') := by
      show (kas rs).map _ = _
      rw [e1]
      rfl
    have lw := hm _ _ w
    rw [List.length_cons, List.length_reverse] at lw
    have ll := arg_len (kas_arg R0 R2 (s1.trans R0.hp s2) dd e1')
    rw [List.length_cons, List.length_cons] at ll
    refine ⟨by omega, ?_⟩
    refine ad _ H2 Q' E (hd_core (rs2 := .o Pr :: rs'.reverse) (vs2 := .ref b :: vs.reverse) hx R0 R2 (s1.trans R0.hp s2) dd e1' (fun h => ?_) w (fun r ε' v T' H' w R' s' d' => w v T' H' R' (s0.trans R00.hp s') (d'.early fun a => s0.none R00.hp)) hE)
    cases h with
    | cons h t => exact .cons h (argA_rev t)
theorem x_hdC (hx : ∀ n, NSx n → ExW X.K cl (xc n) n) (hP : ∃ q ∈ tb, q.1 = P) (h : PE X Ex (tLam3 tb P (TTh X.K cl) fun E => tCall sp [] E (upA a))) (ad : ∀ vs H Q E, SpR xc R vs H E → sp vs H Q E) : PE X Ex (up (xHdC false tb R a)) :=
  pe_wk h fun σ H Q ⟨Γ, ε, T, R00, ht, k⟩ => by
    have htb := R00.tbs ht
    subst htb
    refine ⟨R00.tz, fun H0 ex tz0 E Q' hE hB => ?_⟩
    obtain ⟨R0, s0⟩ := R00.lam hP ex tz0
    refine upA1 R0 k fun rs vs ε2 T2 H2 ⟨rs', e1, w⟩ R2 s2 d2 => ?_
    rw [List.append_nil]
    exact ad _ H2 Q' E (hd_core hx R0 R2 s2 d2 e1 (fun h => h) w (fun r ε' v T' H' w R' s' d' => w v T' H' R' (s0.trans R00.hp s') (d'.early fun a => s0.none R00.hp)) hE)
end
/-! ### _law_heard(lambda: ..) -/
section
variable {X : Cx} {tb : List (Addr × Str)} {cl : Str → Addr} {cd Pt : Addr} {params : Arguments} {scope : Scope} {q lpos pos : Pos} {body : Expr} {t : XK → TE} {j : Nat}
/-- what a def needs to make lambdas that are heard -/
structure LamY (X : Cx) (tb : List (Addr × Str)) (cl : Str → Addr) (cd Pt : Addr) : Prop where
  HD : DefAt X.K X.mg "_law_heard" (topS 51) ["_law_act"]
  T : Txt X.mg
  G : ClsT X.mg cl
  W : WordAt X.prog X.w X.K X.mg X.base cl
  hG : X.A.guards = some []
  TB : TabB X.base X.mg cd Pt
  hcode : X.env.code = .ref cd
  hmT : (Pt, X.env.qual ++ "<lambda>") ∈ tb
  hu : ∀ p ∈ tb, p.1 = Pt → p.2 = X.env.qual ++ "<lambda>"
theorem LamY.at (k : LamY X tb cl cd Pt) : ∃ q ∈ tb, q.1 = Pt := ⟨_, k.hmT, rfl⟩
theorem lam_any (k : LamY X tb cl cd Pt) (hr : Room (j + 2) X.A) (hg : Gl X "_law_heard") (L : LamS X.env.scope scope) (hdef : defaultsOf params X.env = ([], []))
    (hbind : ∀ (q : Str) (cl : List (Str × Addr)) (pm cv ctv : Value), bindArgs (PySem.W.kla_fn "<lambda>" q params body scope cl pm cv ctv) ⟨[], []⟩ = pure [])
    (hbody : ∀ (A : Around) (outer : List Env) (s : Shared) (H : Hp) (E : XK) (f c' : Addr), Room j (A.deeper (lamEnv X scope s.heap.objs.size f c')) → PE (lamCx X A outer s H E scope f c') body (t E)) :
    PE X (.Call (.Name "_law_heard" q) [.Lambda params body scope lpos] [] pos) (tLam3 tb Pt (TTh X.K cl) t) := by
  obtain ⟨g, fdg, F, gg, bg⟩ := k.HD.ex
  obtain ⟨oc, od, dV, kV, doc, pm, an, cdv, ct, osl, rfl, lk, hcd, _, _⟩ := F.ex
  exact pe_lam3 (k := j) hg gg F.kp lk hcd bg sc__law_heard rfl (.inl rfl) (gives_heard k.T k.G k.W k.hG (hr.mono (by omega))) k.TB k.hcode k.hmT k.hu hr L hdef hbind hbody
end
end Cs
set_option maxHeartbeats 4000000
namespace Cs
open PySem L2 PyProof.Rows
/-- what is wrong of columns and rows: 0 for the columns, 1 for the rows, with the index -/
def tabErr (dc dr : PyData) : Option (Nat × Option Nat) := match colsErr dc with
  | some e => some (0, e)
  | none => match dc with
    | .tuple cs => (rowsErr cs.length dr).map fun e => (1, e)
    | _ => none
def SpTI (c : Nat → Addr) : Sp := fun vs H Q E => ∃ (p a : Addr) (vc vr : V) (dc dr : PyData) (n : Nat) (e : Option Nat), vs = [.ref a, vc, vr] ∧ Rp p H vc dc ∧ Rp p H vr dr ∧ tabErr dc dr = some (n, e) ∧
  ∀ dd H', H dd = none → Same H H' → H' dd = some (.xd [("index", idxV e)]) → E (.ref (c n)) (some dd) H'
section
variable {P : Program} {w : World} {K : PySem.W.Frag} {mg : Str → Option Value} {base : Heap} {c : Nat → Addr}
abbrev sTI : Stmt := inClass (topS 33) 0
theorem sc_tinit : FnScope ["self", "columns", "rows"] ["self", "columns", "rows"] (defScope sTI) := ⟨rfl, rfl, rfl, by decide +kernel, rfl, by decide +kernel, by decide +kernel⟩
theorem ok_tinit {f : Addr} {fd : FuncData} {q : Str} (F : FunD K "__init__" q (defArgs sTI) (defBody sTI) (defScope sTI) [] [] f fd)
    (cC : CalX P w K mg base 4 "check_columns" (SpCC (c 0))) (cR : CalX P w K mg base 7 "check_rows" (SpCR (c 1))) : FnOk P w K mg base (L2.CX P w) 8 f fd ["self", "columns", "rows"] (SpTI c) := by
  refine F.ok sc_tinit (fun vs H Q E h => by obtain ⟨p, a, vc, vr, dc, dr, n, e, rfl, _⟩ := h; rfl) fun cdv A outer s H vs Q E hr h => ?_
  obtain ⟨p, a, vc, vr, dc, dr, n, e, rfl, rc, rr, he, k⟩ := h
  obtain ⟨f1, fd1, ps1, F1, g1, k1, b1⟩ := cC.ex
  obtain ⟨f2, fd2, ps2, F2, g2, k2, b2⟩ := cR.ex
  refine ⟨_, pss_cons (ps_expr (pe_call F1 (hr.mono (by decide)) rfl g1 k1 b1 .nil (passes_call (takes_of rfl rfl rfl rfl) (fun _ _ _ _ h => h)) (pa_cons (pv 1) pa_nil)))
    (pss_cons (ps_expr (pe_call F2 hr rfl g2 k2 b2 .nil (passes_call (takes_of rfl rfl rfl rfl) (fun _ _ _ _ h => h)) (pa_cons (pv 1) (pa_cons (pv 2) pa_nil))))
    (pss_cons (ps_fld (pv 0) (pv 1) rfl) (pss_one (ps_fld (pv 0) (pv 2) rfl)))), ?_⟩
  refine ⟨_, rfl, p, vc, dc, rfl, rc, fun hn H1 s1 => ?_, fun e' he' dd H' hd s hx => ?_⟩
  · unfold tabErr at he
    rw [hn] at he
    dsimp only at he
    · split at he
      · rename_i cs
        obtain ⟨e2, he2, hq⟩ := Option.map_eq_some_iff.mp he
        cases hq
        refine ⟨_, rfl, _, rfl, p, vc, vr, cs, dr, rfl, Rp.keep (ExB.of s1) rc, Rp.keep (ExB.of s1) rr, fun hz => ?_, fun e' he' dd H' hd s hx => ?_⟩
        · rw [hz] at he2
          cases he2
        · rw [he'] at he2
          cases he2
          exact k dd H' (s1.free hd) (s1.trans s) hx
      · cases he
  · unfold tabErr at he
    rw [he'] at he
    cases he
    exact k dd H' hd s hx
/-- the class Table -/
structure TabAt (K : PySem.W.Frag) (mg : Str → Option Value) (C f : Addr) (fd : FuncData) : Prop where
  mkT : Mk K C f
  g : mg "Table" = some (.ref C)
  F : ∃ q, FunD K "__init__" q (defArgs sTI) (defBody sTI) (defScope sTI) [] [] f fd
  b : Binds K fd ["self", "columns", "rows"] []
  kb : KBn K fd ["self", "columns", "rows"] 1 ["rows", "columns"] (fun us ws => us ++ ws.reverse) (fun vs zs => vs ++ zs.reverse)
theorem make_err {H1 : Hp} {p C : Addr} {vc vr : V} {dc dr : PyData} {n : Nat} {e : Option Nat} {E : XK} {R : Addr → V → Hp → Prop} (rc : Rp p H1 vc dc) (rr : Rp p H1 vr dr) (he : tabErr dc dr = some (n, e))
    (k : ∀ dd H', H1 dd = none → Same H1 H' → H' dd = some (.xd [("index", idxV e)]) → E (.ref (c n)) (some dd) H') :
    ∀ x dx, H1 x = none → H1 dx = none → dx ≠ x → SpTI c [.ref x, vc, vr] (upd (upd H1 dx (.own x)) x (.ins C dx [])) (R x) E := fun x dx hx hd hne => by
  have s : Same H1 (upd (upd H1 dx (.own x)) x (.ins C dx [])) := fun b o hb => by
    rw [upd_ne (ne_of_none hb hx), upd_ne (ne_of_none hb hd)]
    exact hb
  exact ⟨p, x, vc, vr, dc, dr, n, e, rfl, Rp.keep (ExB.of s) rc, Rp.keep (ExB.of s) rr, he, fun dd H' h1 h2 h3 => k dd H' (s.free h1) (s.trans h2) h3⟩
end
end Cs
set_option maxHeartbeats 4000000
/-! what all laws draw from, names and stretches as data -/
namespace Cs
open PySem L2 PyProof.Rows
def SpScoop : Sp := fun vs H Q _ => ∃ (p : Addr) (m : Int) (n : Nat), vs = [.ref p, .int m] ∧ 0 < m ∧ m < 1073741824 ∧ PailAt H p n ∧ n < 1000000000 ∧
  ∀ (r : Int) (H' : Hp), 0 ≤ r → r < m → ExB p H H' → PailAt H' p (n + 1) → Q (.int r) H'
def SpAny : Sp := fun vs H Q _ => ∃ (p : Addr) (v : V) (ds : List PyData) (n : Nat), vs = [.ref p, v] ∧ Rp p H v (.list ds) ∧ 1 ≤ ds.length ∧ PailAt H p n ∧ n < 1000000000 ∧
  ∀ (u : V) (d : PyData) (H' : Hp), d ∈ ds → Rp p H' u d → ExB p H H' → PailAt H' p (n + 1) → Q u H'
def SpPail (K : PySem.W.Frag) : Sp := fun vs H Q _ => ∃ (a : Addr) (ns : List Int) (i : Nat), vs = [.ref a, .int (i : Nat)] ∧ SqL K H a (ns.map V.int) ∧ ns.length ≤ 1000 ∧ i ≤ 1 ∧
  ∀ p H', H p = none → Same H H' → PailAt H' p 0 → Q (.ref p) H'
theorem span_inv {lo hi : Int} {d : PyData} (h : isSpan lo hi d = true) : ∃ a b : Int, d = .tuple [.int a, .int b] ∧ lo ≤ a ∧ a ≤ b ∧ b ≤ hi := by
  unfold isSpan at h
  split at h
  · rw [Bool.and_eq_true, Bool.and_eq_true, decide_eq_true_eq, decide_eq_true_eq, decide_eq_true_eq] at h
    exact ⟨_, _, rfl, h.1, h.2.1, h.2.2⟩
  · cases h
theorem span_t {p : Addr} {H : Hp} {v : V} {lo hi : Int} {d : PyData} (h : isSpan lo hi d = true) (r : Rp p H v d) : RpT p H v d := by
  obtain ⟨a, b, rfl, _⟩ := span_inv h
  obtain ⟨t, xs, rfl, n, ht, z, ra⟩ := r.tup_inv
  cases ra with
  | cons r1 ra =>
    cases ra with
    | cons r2 ra =>
      cases ra with
      | nil =>
        cases r1
        cases r2
        exact .tup n ht z (.cons (.int _) (.cons (.int _) .nil))
theorem erase_perm {α : Type} : ∀ {xs : List α} {k : Nat} {y : α}, xs[k]? = some y → (y :: xs.eraseIdx k).Perm xs
  | [], k, y, h => by simp at h
  | x :: xs, 0, y, h => by
    cases h
    exact List.Perm.refl _
  | x :: xs, k + 1, y, h => by
    rw [List.eraseIdx_cons_succ]
    exact (List.Perm.swap ..).trans ((erase_perm (xs := xs) (k := k) h).cons x)
theorem erase_map {α β : Type} (f : α → β) : ∀ (xs : List α) (k : Nat), (xs.map f).eraseIdx k = (xs.eraseIdx k).map f
  | [], _ => rfl
  | _ :: _, 0 => rfl
  | x :: xs, k + 1 => by
    rw [List.map_cons, List.eraseIdx_cons_succ, List.eraseIdx_cons_succ, List.map_cons, erase_map f xs k]
/-- the law's own names -/
def menuAll : List Str := ["dry", "wet", "a", "z", "sweetest", "none", "rye", "oat", "pea", "beanbean", "yes", "k", "zz"]
theorem menu_name {x : Str} (h : x ∈ menuAll) : isName (.str x) = true := (by decide : ∀ x ∈ menuAll, isName (.str x) = true) x h
theorem menu_not {x y : Str} (h : x ∈ menuAll) (n : menuAll.contains y = false) : x ≠ y := fun e => by
  rw [e] at h
  rw [List.contains_eq_mem, decide_eq_false_iff_not] at n
  exact n h
structure Pool (N : Nat) (names rest : List Str) : Prop where
  len : names.length + rest.length = N
  nd : (names ++ rest).Nodup
  nm : ∀ x ∈ names ++ rest, x ∈ menuAll
theorem Pool.step {N k : Nat} {names rest : List Str} {y : Str} (h : Pool N names rest) (e : rest[k]? = some y) : Pool N (names ++ [y]) (rest.eraseIdx k) := by
  have hp : (names ++ [y] ++ rest.eraseIdx k).Perm (names ++ rest) := by
    rw [List.append_assoc]
    exact (erase_perm e).append_left names
  refine ⟨?_, hp.nodup_iff.mpr h.nd, fun x hx => h.nm x (hp.mem_iff.mp hx)⟩
  have l := hp.length_eq
  have l2 := h.len
  simp only [List.length_append] at l ⊢
  omega
theorem name_len {x : Str} (h : isName (.str x) = true) : x.length ≤ 8 := by
  unfold isName at h
  rw [Bool.and_eq_true, Bool.and_eq_true, decide_eq_true_eq, decide_eq_true_eq] at h
  exact h.1.2
theorem rp_names {p : Addr} {H : Hp} : ∀ {xs : List Str}, (∀ x ∈ xs, isName (.str x) = true) → RpTA p H (xs.map V.str) (xs.map PyData.str)
  | [], _ => .nil
  | x :: xs, h => .cons (.str x (Nat.le_trans (name_len (h x List.mem_cons_self)) (by decide))) (rp_names fun y hy => h y (List.mem_cons_of_mem _ hy))
theorem ExB.putN {p l : Addr} {H H' : Hp} {o : HO} (e : ExB p H H') (n : H l = none) : ExB p H (upd H' l o) := fun b u nb h => by
  rw [upd_ne (ne_of_none h n)]
  exact e b u nb h
theorem ixn {α : Type} {xs : List α} {k : Nat} (h : k < xs.length) : seqIndex? ((k : Nat) : Int) xs.length = some k := by
  have h1 : ¬ ((k : Nat) : Int) < 0 := by omega
  have h2 : ((k : Nat) : Int) < (xs.length : Nat) := by omega
  simp only [seqIndex?, if_neg h1, decide_eq_true h2, decide_eq_true (Int.natCast_nonneg k), Bool.and_self, if_true, Int.toNat_natCast]
end Cs
set_option maxHeartbeats 4000000
namespace Cs
open PySem L2 PyProof.Rows
/-! ### right columns and rows -/
abbrev Rw : Type := Str × List (Int × Int)
def dSp (q : Int × Int) : PyData := .tuple [.int q.1, .int q.2]
def dRw (r : Rw) : PyData := .tuple [.str r.1, .tuple (r.2.map dSp)]
def dRows (rs : List Rw) : PyData := .tuple (rs.map dRw)
structure Good (cs : List Str) (rs : List Rw) : Prop where
  c1 : 1 ≤ cs.length
  c4 : cs.length ≤ 4
  cnd : cs.Nodup
  cnm : ∀ x ∈ cs, isName (.str x) = true
  r1 : 1 ≤ rs.length
  r8 : rs.length ≤ 8
  rnd : (rs.map (·.1)).Nodup
  rnm : ∀ r ∈ rs, isName (.str r.1) = true
  rl : ∀ r ∈ rs, r.2.length = cs.length
  sp : ∀ r ∈ rs, ∀ q ∈ r.2, -10000 ≤ q.1 ∧ q.1 ≤ q.2 ∧ q.2 ≤ 10000
theorem not_in {x : Str} {seen xs : List Str} (nd : (seen ++ x :: xs).Nodup) : seen.contains x = false := by
  rw [List.contains_eq_mem, decide_eq_false_iff_not]
  intro z
  exact (List.nodup_append.mp nd).2.2 x z x List.mem_cons_self rfl
theorem nd_next {x : Str} {seen xs : List Str} (nd : (seen ++ x :: xs).Nodup) : ((seen ++ [x]) ++ xs).Nodup := by
  rw [List.append_assoc]
  exact nd
theorem colsBad_good : ∀ (xs : List Str) (i : Nat) (seen : List Str), i + xs.length ≤ 4 → (∀ x ∈ xs, isName (.str x) = true) → (seen ++ xs).Nodup → colsBad i seen (xs.map PyData.str) = none
  | [], _, _, _, _, _ => rfl
  | x :: xs, i, seen, hl, hn, nd => by
    have hi : i ≠ 4 := by
      rw [List.length_cons] at hl
      omega
    show (if i = 4 then some i else if isName (.str x) && !seen.contains x then colsBad (i + 1) (seen ++ [x]) (xs.map PyData.str) else some i) = none
    rw [if_neg hi, hn x List.mem_cons_self, not_in nd]
    exact colsBad_good xs (i + 1) (seen ++ [x]) (by rw [List.length_cons] at hl; omega) (fun y hy => hn y (List.mem_cons_of_mem _ hy)) (nd_next nd)
theorem row_ok {m : Nat} {r : Rw} (hn : isName (.str r.1) = true) (hl : r.2.length = m) (hs : ∀ q ∈ r.2, -10000 ≤ q.1 ∧ q.1 ≤ q.2 ∧ q.2 ≤ 10000) : isRow m (dRw r) = true := by
  show (isName (.str r.1) && (decide ((r.2.map dSp).length = m) && (r.2.map dSp).all (isSpan (-10000) 10000))) = true
  rw [hn, List.length_map, decide_eq_true hl, Bool.true_and, Bool.true_and, List.all_map, List.all_eq_true]
  intro q hq
  obtain ⟨h1, h2, h3⟩ := hs q hq
  show (decide (-10000 ≤ q.1) && (decide (q.1 ≤ q.2) && decide (q.2 ≤ 10000))) = true
  rw [decide_eq_true h1, decide_eq_true h2, decide_eq_true h3]
  rfl
theorem rowsBad_good {m : Nat} : ∀ (rs : List Rw) (i : Nat) (seen : List Str), i + rs.length ≤ 8 → (∀ r ∈ rs, isRow m (dRw r) = true) → (seen ++ rs.map (·.1)).Nodup → rowsBad m i seen (rs.map dRw) = none
  | [], _, _, _, _, _ => rfl
  | r :: rs, i, seen, hl, hn, nd => by
    have hi : i ≠ 8 := by
      rw [List.length_cons] at hl
      omega
    rw [List.map_cons] at nd
    have e : rowsBad m i seen (dRw r :: rs.map dRw) = rowsBad m (i + 1) (seen ++ [r.1]) (rs.map dRw) := by
      have e2 : nameOf (dRw r) = some r.1 := rfl
      simp only [rowsBad, hn r List.mem_cons_self, e2, not_in nd, if_neg hi, if_true, Bool.false_eq_true, if_false]
    rw [List.map_cons, e]
    exact rowsBad_good rs (i + 1) (seen ++ [r.1]) (by rw [List.length_cons] at hl; omega) (fun y hy => hn y (List.mem_cons_of_mem _ hy)) (nd_next nd)
theorem Good.cols {cs : List Str} {rs : List Rw} (g : Good cs rs) : colsErr (dCols cs) = none := by
  have h := colsBad_good cs 0 [] (by rw [Nat.zero_add]; exact g.c4) g.cnm g.cnd
  cases cs with
  | nil => exact absurd g.c1 (by decide)
  | cons x xs =>
    show (colsBad 0 [] (.str x :: xs.map PyData.str)).map some = none
    rw [List.map_cons] at h
    rw [h]
    rfl
theorem Good.rows {cs : List Str} {rs : List Rw} (g : Good cs rs) : rowsErr cs.length (dRows rs) = none := by
  have h := rowsBad_good (m := cs.length) rs 0 [] (by rw [Nat.zero_add]; exact g.r8) (fun r hr => row_ok (g.rnm r hr) (g.rl r hr) (g.sp r hr)) g.rnd
  cases rs with
  | nil => exact absurd g.r1 (by decide)
  | cons x xs =>
    show (rowsBad cs.length 0 [] (dRw x :: xs.map dRw)).map some = none
    rw [List.map_cons] at h
    rw [h]
    rfl
/-- a table of the class C at t: its columns, its rows -/
def TabD (C : Addr) (p : Addr) (H : Hp) (t : Addr) (cs : List Str) (rs : List Rw) : Prop := ∃ dx vc vr, H t = some (.ins C dx [("_columns", vc), ("_rows", vr)]) ∧ RpT p H vc (dCols cs) ∧ RpT p H vr (dRows rs)
/-- .. its columns known whole -/
def TabF (C : Addr) (p : Addr) (H : Hp) (t : Addr) (cs : List Str) : Prop := ∃ dx vc vr, H t = some (.ins C dx [("_columns", vc), ("_rows", vr)]) ∧ NmT p H vc cs
theorem TabF.same {C p t : Addr} {H H' : Hp} {cs : List Str} (h : TabF C p H t cs) (e : Same H H') : TabF C p H' t cs := by
  obtain ⟨dx, vc, vr, h1, h2⟩ := h
  exact ⟨dx, vc, vr, e _ _ h1, h2.keep (ExB.of e)⟩
theorem TabF.keep {C p t : Addr} {H H' : Hp} {cs : List Str} (h : TabF C p H t cs) (n : t ≠ p) (e : ExB p H H') : TabF C p H' t cs := by
  obtain ⟨dx, vc, vr, h1, h2⟩ := h
  exact ⟨dx, vc, vr, e _ _ n h1, h2.keep e⟩
theorem TabD.keep {C p t : Addr} {H H' : Hp} {cs : List Str} {rs : List Rw} (h : TabD C p H t cs rs) (n : t ≠ p) (e : ExB p H H') : TabD C p H' t cs rs := by
  obtain ⟨dx, vc, vr, h1, h2, h3⟩ := h
  exact ⟨dx, vc, vr, e _ _ n h1, h2.keep (ExT.of e), h3.keep (ExT.of e)⟩
theorem TabD.same {C p t : Addr} {H H' : Hp} {cs : List Str} {rs : List Rw} (h : TabD C p H t cs rs) (e : Same H H') : TabD C p H' t cs rs := by
  obtain ⟨dx, vc, vr, h1, h2, h3⟩ := h
  exact ⟨dx, vc, vr, e _ _ h1, h2.keep (ExT.of (ExB.of e)), h3.keep (ExT.of (ExB.of e))⟩
/-- what is known of the class Table itself -/
structure TabC (K : PySem.W.Frag) (C : Addr) : Prop where
  c : Cls K C
  n1 : NoAttr K C "_columns"
  n2 : NoAttr K C "_rows"
  ha : PySem.W.findIn K (.ref C) "__class__" = some (some (.builtin "object.__class__"))
  hn : PySem.W.specialIn K (.builtin "object.__class__") "__get__" = some (some (.builtin "getset_descriptor.__get__"))
  ht : PySem.W.takesIn K (.builtin "object.__class__") = some true
  hm : PySem.W.mroIn K C (.type "object") = some true
  ki : PySem.W.kitOne K (.ref C) (.ref C) = some true
/-- __init__ of right columns and rows -/
def SpTO (C : Addr) : Sp := fun vs H Q _ => ∃ (p a dx : Addr) (vc vr : V) (cs : List Str) (rs : List Rw), vs = [.ref a, vc, vr] ∧ H a = some (.ins C dx []) ∧ a ≠ p ∧ RpT p H vc (dCols cs) ∧ RpT p H vr (dRows rs) ∧ Good cs rs ∧
  ∀ H', (∀ b o, b ≠ a → H b = some o → H' b = some o) → H' a = some (.ins C dx [("_columns", vc), ("_rows", vr)]) → Q .non H'
section
variable {P : Program} {w : World} {K : PySem.W.Frag} {mg : Str → Option Value} {base : Heap} {c : Nat → Addr}
theorem ok_tinitO {f C : Addr} {fd : FuncData} {q : Str} (F : FunD K "__init__" q (defArgs sTI) (defBody sTI) (defScope sTI) [] [] f fd) (TC : TabC K C)
    (cC : CalX P w K mg base 4 "check_columns" (SpCC (c 0))) (cR : CalX P w K mg base 7 "check_rows" (SpCR (c 1))) : FnOk P w K mg base (L2.CX P w) 8 f fd ["self", "columns", "rows"] (SpTO C) := by
  refine F.ok sc_tinit (fun vs H Q E h => by obtain ⟨p, a, dx, vc, vr, cs, rs, rfl, _⟩ := h; rfl) fun cdv A outer s H vs Q E hr h => ?_
  obtain ⟨p, a, dx, vc, vr, cs, rs, rfl, ha, hap, rc, rr, G, k⟩ := h
  obtain ⟨f1, fd1, ps1, F1, g1, k1, b1⟩ := cC.ex
  obtain ⟨f2, fd2, ps2, F2, g2, k2, b2⟩ := cR.ex
  refine ⟨_, pss_cons (ps_expr (pe_call F1 (hr.mono (by decide)) rfl g1 k1 b1 .nil (passes_call (takes_of rfl rfl rfl rfl) (fun _ _ _ _ h => h)) (pa_cons (pv 1) pa_nil)))
    (pss_cons (ps_expr (pe_call F2 hr rfl g2 k2 b2 .nil (passes_call (takes_of rfl rfl rfl rfl) (fun _ _ _ _ h => h)) (pa_cons (pv 1) (pa_cons (pv 2) pa_nil))))
    (pss_cons (ps_fld (pv 0) (pv 1) rfl) (pss_one (ps_fld (pv 0) (pv 2) rfl)))), ?_⟩
  have gc := G.cols
  have gr := G.rows
  refine ⟨_, rfl, p, vc, dCols cs, rfl, rc.rp, fun _ H1 s1 => ?_, fun e' he' => by rw [gc] at he'; cases he'⟩
  have rc1 := rc.keep (ExT.of (ExB.of s1))
  have rr1 := rr.keep (ExT.of (ExB.of s1))
  refine ⟨_, rfl, _, rfl, p, vc, vr, cs.map PyData.str, dRows rs, rfl, rc1.rp, rr1.rp, fun _ H2 s2 => ?_, fun e' he' => by rw [List.length_map, gr] at he'; cases he'⟩
  have sA := s1.trans s2
  refine ⟨_, rfl, _, rfl, a, C, dx, [], rfl, sA _ _ ha, TC.c, TC.n1, by show 0 < 1000; decide, ?_⟩
  refine ⟨_, rfl, _, rfl, a, C, dx, _, rfl, upd_same, TC.c, TC.n2, by show 1 < 1000; decide, ?_⟩
  refine k _ (fun b o nb e => ?_) upd_same
  rw [upd_ne nb, upd_ne nb]
  exact sA _ _ e
end
end Cs
set_option maxHeartbeats 4000000
namespace Cs
open PySem L2 PyProof.Rows
local macro_rules | `(tactic| walk_at "goD0") => `(tactic| try dsimp only [gName, tSeq, tAsg, tRet, tLst, tCons, tOp, tTup, tCall, tNil, tC, tDrop, tCB, tPar, tNext, tM1, tJs, tAndV])
def SpGet (C : Addr) (f : Str) : Sp := fun vs H Q _ => ∃ (a dx : Addr) (fs : List (Str × V)) (v : V), vs = [.ref a] ∧ H a = some (.ins C dx fs) ∧ fs.lookup f = some v ∧ Q v H
def SpNm (C : Addr) : Sp := fun vs H Q _ => ∃ (p t : Addr) (cs : List Str) (rs : List Rw), vs = [.ref t] ∧ Has p H ∧ TabD C p H t cs rs ∧ rs.length ≤ 8 ∧ (∀ x ∈ rs.map (·.1), isName (.str x) = true) ∧ ∀ v H', Same H H' → NmT p H' v (rs.map (·.1)) → Q v H'
def SpLn (C : Addr) : Sp := fun vs H Q _ => ∃ (p t : Addr) (cs : List Str) (rs : List Rw), vs = [.ref t] ∧ TabD C p H t cs rs ∧ Q (.int (rs.length : Nat)) H
/-- data that can be compared -/
structure Tidy (cs : List Str) (rs : List Rw) : Prop where
  c : SeqAt.shaped (dCols cs) = true
  r : SeqAt.shaped (dRows rs) = true
theorem Good.tidy {cs : List Str} {rs : List Rw} (g : Good cs rs) : Tidy cs rs := by
  refine ⟨?_, ?_⟩
  · show (PyData.canLay0 (dCols cs) && decide ((dCols cs).depth ≤ 64)) = true
    have h1 : PyData.canLayAll0 (cs.map PyData.str) = true := lay_map fun x hx => strOk_name (g.cnm x hx)
    have h2 : PyData.depthAll (cs.map PyData.str) ≤ 0 := dep_map fun x _ => Nat.le_refl _
    have h3 : (dCols cs).depth = PyData.depthAll (cs.map PyData.str) + 1 := by rw [dCols, PyData.depth]
    rw [h3, decide_eq_true (by omega), Bool.and_true]
    exact h1
  · show (PyData.canLay0 (dRows rs) && decide ((dRows rs).depth ≤ 64)) = true
    have h1 : PyData.canLayAll0 (rs.map dRw) = true := lay_map fun r hr => by
      show (PyData.canLay0 (.str r.1) && (PyData.canLayAll0 (r.2.map dSp) && true)) = true
      have e : PyData.canLayAll0 (r.2.map dSp) = true := lay_map fun q _ => rfl
      have e2 : PyData.canLay0 (.str r.1) = true := strOk_name (g.rnm r hr)
      rw [e, e2]
      rfl
    have h2 : PyData.depthAll (rs.map dRw) ≤ 3 := dep_map fun r _ => by
      have e : PyData.depthAll (r.2.map dSp) ≤ 1 := dep_map fun q _ => by
        show PyData.depth (.tuple [.int q.1, .int q.2]) ≤ 1
        simp [PyData.depth, PyData.depthAll]
      show PyData.depth (.tuple [.str r.1, .tuple (r.2.map dSp)]) ≤ 3
      simp only [PyData.depth, PyData.depthAll]
      omega
    have h3 : (dRows rs).depth = PyData.depthAll (rs.map dRw) + 1 := by rw [dRows, PyData.depth]
    rw [h3, decide_eq_true (by omega), Bool.and_true]
    exact h1
/-- two tables are equal just if their columns and rows are -/
def sameT (cs : List Str) (rs : List Rw) (cs2 : List Str) (rs2 : List Rw) : Bool := (dCols cs).eqv (dCols cs2) && (dRows rs).eqv (dRows rs2)
def SpEqT (C : Addr) : Sp := fun vs H Q _ => ∃ (p t u : Addr) (cs : List Str) (rs : List Rw) (cs2 : List Str) (rs2 : List Rw), vs = [.ref t, .ref u] ∧ TabD C p H t cs rs ∧ TabD C p H u cs2 rs2 ∧ Tidy cs rs ∧ Tidy cs2 rs2 ∧ ∀ H', Same H H' → Q (.bl (sameT cs rs cs2 rs2)) H'
structure TabG (mg : Str → Option Value) (C : Addr) : Prop where
  v_Table : ∃ u, mg "Table" = some u ∧ RelV (.ref C) u
/-! ### texts -/
def spT (q : Int × Int) : Str := toString q.1 ++ ((" " : Str) ++ toString q.2)
def stT (qs : List (Int × Int)) : Str := Txt.join " " (qs.map spT)
def rwT (r : Rw) : Str := r.1 ++ ((" " : Str) ++ stT r.2)
def pageT (cs : List Str) (rs : List Rw) : Str := Txt.join "\n" (Txt.join " " cs :: rs.map rwT)
def SpSt : Sp := fun vs H Q _ => ∃ (p : Addr) (v : V) (qs : List (Int × Int)), vs = [v] ∧ RpT p H v (.tuple (qs.map dSp)) ∧ qs.length ≤ 4 ∧ (∀ q ∈ qs, -10000 ≤ q.1 ∧ q.1 ≤ q.2 ∧ q.2 ≤ 10000) ∧ ∀ H', Same H H' → Q (.str (stT qs)) H'
theorem it_len {a : Int} (h1 : -100000 < a) (h2 : a < 100000) : (Str.ofString (toString a)).length ≤ 6 := by
  have e := int_text_length_le10 (a := a) (k := 5) (by decide) (by omega)
  rw [PySem.ofString_length]
  exact e
theorem spT_len {q : Int × Int} (h : -10000 ≤ q.1 ∧ q.1 ≤ q.2 ∧ q.2 ≤ 10000) : (spT q).length ≤ 13 := by
  have e1 := it_len (a := q.1) (by omega) (by omega)
  have e2 := it_len (a := q.2) (by omega) (by omega)
  unfold spT
  rw [Str.length_append, Str.length_append]
  have e3 : ((" " : Str)).length = 1 := by decide
  omega
theorem sum_le {xs : List Str} {b : Nat} (h : ∀ x ∈ xs, x.length ≤ b) : (xs.map (·.length)).sum ≤ xs.length * b := by
  induction xs with
  | nil => simp
  | cons x xs ih =>
    rw [List.map_cons, List.sum_cons, List.length_cons, Nat.succ_mul]
    have h1 := h x List.mem_cons_self
    have h2 := ih fun y hy => h y (List.mem_cons_of_mem _ hy)
    omega
theorem log_small {a : Int} (h1 : -100000 < a) (h2 : a < 100000) : a.natAbs.log2 < 1920 := by
  by_cases h0 : a.natAbs = 0
  · rw [h0]
    decide
  · exact (Nat.log2_lt h0).mpr (Nat.lt_of_lt_of_le (show a.natAbs < 2 ^ 20 by omega) (Nat.pow_le_pow_right (by decide) (by decide)))
theorem rpta_str {p : Addr} {H : Hp} : ∀ {vs : List V} {xs : List Str}, RpTA p H vs (xs.map PyData.str) → vs = xs.map V.str
  | _, [], .nil => rfl
  | _, x :: xs, .cons r t => by
    cases r
    rw [rpta_str t]
    rfl
theorem sp_fin (a b : Int) : Str.empty ++ Str.ofString (toString a) ++ (" " : Str) ++ Str.ofString (toString b) = spT (a, b) := by
  unfold spT
  rw [Str.empty_append, Str.append_assoc]
theorem sz_small {x : Str} {n : Nat} (h : x.length ≤ n) (z : n ≤ 1000) : x.length ≤ sizeLine := Nat.le_trans h (sz1000 z)
theorem map_get {α β : Type} {f : α → β} {xs : List α} {j : Nat} {y : β} (h : (xs.map f)[j]? = some y) : ∃ x, xs[j]? = some x ∧ y = f x := by
  rw [List.getElem?_map] at h
  obtain ⟨x, h1, h2⟩ := Option.map_eq_some_iff.mp h
  exact ⟨x, h1, h2.symm⟩
theorem unp2 {p : Addr} {H : Hp} {z : V} {d e : PyData} (r : RpT p H z (.tuple [d, e])) : ∃ a x y, z = .ref a ∧ Rd H a (.tup [x, y]) ∧ RpT p H x d ∧ RpT p H y e := by
  cases r with
  | @tup a xs _ n h z r =>
    cases r with
    | cons r1 r =>
      cases r with
      | cons r2 r =>
        cases r
        exact ⟨a, _, _, rfl, h, r1, r2⟩
section
variable {P : Program} {w : World} {K : PySem.W.Frag} {mg : Str → Option Value} {base : Heap} {C : Addr}
theorem ok_t_columns {f : Addr} {fd : FuncData} {q : Str} (F : FunD K "columns" q (defArgs (inClass (topS 33) 2)) (defBody (inClass (topS 33) 2)) (defScope (inClass (topS 33) 2)) [] [] f fd) (TC : TabC K C) : FnOk P w K mg base CX0 1 f fd ["self"] (SpGet C "_columns") := by
  refine F.ok (N := ["self"]) ⟨rfl, rfl, rfl, by decide +kernel, rfl, by decide +kernel, by decide +kernel⟩ (fun vs H Q E h => by obtain ⟨_, _, _, _, rfl, _⟩ := h; rfl) fun cdv A outer s H vs Q E hr h => ?_
  obtain ⟨a, dx, fs, v, rfl, ha, hf, k⟩ := h
  exact ⟨_, PSs.nox (pss_one (ps_ret (pe_fld (pv 0) rfl))), _, rfl, a, C, dx, fs, v, rfl, ha, TC.c, TC.n1, hf, k⟩
theorem ok_t_rows {f : Addr} {fd : FuncData} {q : Str} (F : FunD K "rows" q (defArgs (inClass (topS 33) 3)) (defBody (inClass (topS 33) 3)) (defScope (inClass (topS 33) 3)) [] [] f fd) (TC : TabC K C) : FnOk P w K mg base CX0 1 f fd ["self"] (SpGet C "_rows") := by
  refine F.ok (N := ["self"]) ⟨rfl, rfl, rfl, by decide +kernel, rfl, by decide +kernel, by decide +kernel⟩ (fun vs H Q E h => by obtain ⟨_, _, _, _, rfl, _⟩ := h; rfl) fun cdv A outer s H vs Q E hr h => ?_
  obtain ⟨a, dx, fs, v, rfl, ha, hf, k⟩ := h
  exact ⟨_, PSs.nox (pss_one (ps_ret (pe_fld (pv 0) rfl))), _, rfl, a, C, dx, fs, v, rfl, ha, TC.c, TC.n2, hf, k⟩
theorem sc_t_names : FnScope ["self", "name", "_"] ["self"] (defScope (inClass (topS 33) 4)) := ⟨rfl, rfl, rfl, by decide +kernel, rfl, by decide +kernel, by decide +kernel⟩
theorem ok_t_names {f : Addr} {fd : FuncData} {q : Str} (F : FunD K "names" q (defArgs (inClass (topS 33) 4)) (defBody (inClass (topS 33) 4)) (defScope (inClass (topS 33) 4)) [] [] f fd) (TC : TabC K C) (T : Txt mg) : FnOk P w K mg base CX0 1 f fd ["self"] (SpNm C) := by
  refine F.ok sc_t_names (fun vs H Q E h => by obtain ⟨_, _, _, _, rfl, _⟩ := h; rfl) fun cdv A outer s H vs Q E hr h => ?_
  obtain ⟨p, t, cs, rs, rfl, hp, ht, h8, hnm, k⟩ := h
  have nd := sc_t_names.nd
  refine ⟨_, PSs.nox (pss_one (ps_ret (pe_callTy call_tupF (by rfl) T.tuple_ (by decide +kernel) (pa_cons (pe_lc (own := [("name", 1), ("_", 2)]) rfl nd (pi_tup (pe_fld (pv 0) rfl)) (blkOk_by (N := ["self", "name", "_"]) (sc := defScope (inClass (topS 33) 4)) (by decide +kernel)) (fun _ _ _ _ _ => (pg_tupK (K := K) (n := 2) rfl rfl (pgs_cons (pg_name (i := 1) nd rfl (.inl rfl)) (pgs_cons (pg_name (i := 2) nd rfl (.inl rfl)) pgs_nil)))) (fun _ _ _ _ _ => pts_nil) (fun _ _ _ _ _ => (pv 1))) pa_nil)))), ?_⟩
  obtain ⟨dx, vc, vr, h1, h2, h3⟩ := ht
  walk_at "goD0"
  refine lc_data (p := p) (ds := rs.map dRw) (es := (rs.map (·.1)).map PyData.str) (by rw [List.length_map, List.length_map, List.length_map]) (by rw [List.length_map]; omega) (fun R hR => ?_) (fun j z d e H' hd he sm rz R hR => ?_) (fun D ys H' hD sm hd ry => ?_)
  · exact ⟨_, rfl, t, C, dx, _, vr, rfl, h1, TC.c, TC.n2, rfl, hR _ _ (Same.refl _) h3⟩
  · obtain ⟨r, hr2, rfl⟩ := map_get hd
    rw [List.map_map] at he
    obtain ⟨r', hr3, rfl⟩ := map_get he
    rw [hr2] at hr3
    cases hr3
    obtain ⟨a, x, y, rfl, h4, h5, h6⟩ := unp2 rz
    exact ⟨a, [x, y], rfl, SqT.rd h4, rfl, x, [y], rfl, y, [], rfl, rfl, rfl, x, rfl, hR _ _ (Same.refl _) h5⟩
  · rw [rpta_str ry] at hd
    refine ⟨D, _, rfl, .inl ⟨SqL.of hd, fun l H2 hl s2 fz => ?_⟩⟩
    have hne : l ≠ p := (hp.keep sm).ne hl
    exact k _ _ (sm.trans s2) ⟨l, rfl, hne, fz, .tup hne fz.rd (by rw [List.length_map, List.length_map]; omega) (rp_names hnm)⟩
theorem sc_t_len : FnScope ["self"] ["self"] (defScope (inClass (topS 33) 6)) := ⟨rfl, rfl, rfl, by decide +kernel, rfl, by decide +kernel, by decide +kernel⟩
theorem ok_t_len {f : Addr} {fd : FuncData} {q : Str} (F : FunD K "__len__" q (defArgs (inClass (topS 33) 6)) (defBody (inClass (topS 33) 6)) (defScope (inClass (topS 33) 6)) [] [] f fd) (TC : TabC K C) (T : Txt mg) : FnOk P w K mg base CX0 1 f fd ["self"] (SpLn C) := by
  refine F.ok sc_t_len (fun vs H Q E h => by obtain ⟨_, _, _, _, rfl, _⟩ := h; rfl) fun cdv A outer s H vs Q E hr h => ?_
  obtain ⟨p, t, cs, rs, rfl, ht, k⟩ := h
  refine ⟨_, PSs.nox (pss_one (ps_ret (pe_callB call_lenA (by rfl) T.len_ (by decide +kernel) (pa_cons (pe_fld (pv 0) rfl) pa_nil)))), ?_⟩
  obtain ⟨dx, vc, vr, h1, h2, h3⟩ := ht
  cases h3 with
  | @tup a xs _ n h z r =>
    refine ⟨_, rfl, t, C, dx, _, .ref a, rfl, h1, TC.c, TC.n2, rfl, .inl ⟨a, xs, rfl, .inr (SqT.rd h), ?_⟩⟩
    rw [r.length, List.length_map]
    exact k
theorem sc_t_eq : FnScope ["self", "other"] ["self", "other"] (defScope (inClass (topS 33) 7)) := ⟨rfl, rfl, rfl, by decide +kernel, rfl, by decide +kernel, by decide +kernel⟩
theorem ok_t_eq {f : Addr} {fd : FuncData} {q : Str} (F : FunD K "__eq__" q (defArgs (inClass (topS 33) 7)) (defBody (inClass (topS 33) 7)) (defScope (inClass (topS 33) 7)) [] [] f fd) (TC : TabC K C) (T : Txt mg) (G : TabG mg C) : FnOk P w K mg base CX0 1 f fd ["self", "other"] (SpEqT C) := by
  refine F.ok sc_t_eq (fun vs H Q E h => by obtain ⟨_, _, _, _, _, _, _, rfl, _⟩ := h; rfl) fun cdv A outer s H vs Q E hr h => ?_
  obtain ⟨p, t, u, cs, rs, cs2, rs2, rfl, ht, hu, td, td2, k⟩ := h
  have nd := sc_t_eq.nd
  have hu64 := hr.units
  refine ⟨_, PSs.nox (pss_one (ps_ret (pe_and (pe_callB call_isi (by rfl) T.isinstance_ (by decide +kernel) (pa_cons (pv 1) (pa_cons (C8.pe_gc rfl G.v_Table) pa_nil))) (pe_and (pe_cmpR (opEq hu64) (pe_fld (pv 0) rfl) (pe_fld (pv 1) rfl) (nomark _)) (pe_one (pe_cmpR (opEq hu64) (pe_fld (pv 0) rfl) (pe_fld (pv 1) rfl) (nomark _))))))), ?_⟩
  obtain ⟨dx, vc, vr, h1, h2, h3⟩ := ht
  obtain ⟨dy, wc, wr, j1, j2, j3⟩ := hu
  walk_at "goD0"
  refine ⟨_, rfl, _, _, _, .ref C, true, rfl, .own _, .base (.ins j1 TC.c TC.ha TC.hn TC.ht TC.hm), TC.ki, true, rfl, iteT ?_⟩
  refine ⟨_, rfl, t, C, dx, _, vc, rfl, h1, TC.c, TC.n1, rfl, _, rfl, u, C, dy, _, wc, rfl, j1, TC.c, TC.n1, rfl, ?_⟩
  refine .inr ⟨_, _, h2.dp, j2.dp, td.c, td2.c, _, rfl, ?_⟩
  have fin : ∀ b, sameT cs rs cs2 rs2 = b → Q (.bl b) H := fun b e => e ▸ k H (Same.refl _)
  cases e : (dCols cs).eqv (dCols cs2) with
  | false => exact iteF (fin _ (by unfold sameT; rw [e]; rfl))
  | true =>
    refine iteT ⟨_, rfl, t, C, dx, _, vr, rfl, h1, TC.c, TC.n2, rfl, _, rfl, u, C, dy, _, wr, rfl, j1, TC.c, TC.n2, rfl, ?_⟩
    exact .inr ⟨_, _, h3.dp, j3.dp, td.r, td2.r, fin _ (by unfold sameT; rw [e]; rfl)⟩
theorem sc_stretches_text : FnScope ["stretches", "low", "high"] ["stretches"] (defScope (topS 28)) := ⟨rfl, rfl, rfl, by decide +kernel, rfl, by decide +kernel, by decide +kernel⟩
theorem ok_stretches_text (D : DefAt K mg "stretches_text" (topS 28) ["stretches"]) (T : Txt mg) : C8.Cal P w K mg base 1 "stretches_text" SpSt [] := by
  refine D.cal sc_stretches_text (fun vs H Q E h => by obtain ⟨_, _, _, rfl, _⟩ := h; rfl) fun f cdv A outer s H vs Q E hr h => ?_
  obtain ⟨p, v, qs, rfl, hv, h8, hb, k⟩ := h
  have nd := sc_stretches_text.nd
  refine ⟨_, (pss_one (ps_ret (pe_join pe_str (pe_lc (own := [("low", 1), ("high", 2)]) rfl nd (pi_tup (pv 0)) (blkOk_by (N := ["stretches", "low", "high"]) (sc := defScope (topS 28)) (by decide +kernel)) (fun _ _ _ _ _ => (pg_tupK (K := K) (n := 2) rfl rfl (pgs_cons (pg_name (i := 1) nd rfl (.inl rfl)) (pgs_cons (pg_name (i := 2) nd rfl (.inl rfl)) pgs_nil)))) (fun _ _ _ _ _ => pts_nil) (fun _ _ _ _ _ => (pe_joined (PJ.cons (pe_fmt (pv 1)) (PJ.cons pe_str (PJ.cons (pe_fmt (pv 2)) PJ.nil))))))))), ?_⟩
  walk_at "goD0"
  refine ⟨⟨_, rfl⟩, ?_⟩
  refine lc_data (p := p) (ds := qs.map dSp) (es := (qs.map spT).map PyData.str) (by rw [List.length_map, List.length_map, List.length_map]) (by rw [List.length_map]; omega) (fun R hR => ?_) (fun j z d e H' hd he sm rz R hR => ?_) (fun D ys H' hD sm hd ry => ?_)
  · exact ⟨_, rfl, hR _ _ (Same.refl _) hv⟩
  · obtain ⟨r, hr2, rfl⟩ := map_get hd
    rw [List.map_map] at he
    obtain ⟨r', hr3, rfl⟩ := map_get he
    rw [hr2] at hr3
    cases hr3
    obtain ⟨a, x, y, rfl, h4, h5, h6⟩ := unp2 rz
    cases h5
    cases h6
    refine ⟨a, [_, _], rfl, SqT.rd h4, rfl, _, [_], rfl, _, [], rfl, rfl, rfl, ?_⟩
    obtain ⟨b1, b2, b3⟩ := hb r (List.mem_of_getElem? hr2)
    have l1 := it_len (a := r.1) (by omega) (by omega)
    have l2 := it_len (a := r.2) (by omega) (by omega)
    have l3 : ((" " : Str)).length = 1 := by decide
    have l0 : Str.empty.length = 0 := by decide
    walk_at "goD0"
    refine ⟨_, rfl, .inr ⟨r.1, rfl, log_small (by omega) (by omega), _, rfl, sz_small (n := 6) (by rw [Str.empty_append]; exact l1) (by decide), _, rfl, sz_small (n := 7) (by rw [Str.empty_append, Str.length_append]; omega) (by decide), ?_⟩⟩
    refine ⟨_, rfl, .inr ⟨r.2, rfl, log_small (by omega) (by omega), _, rfl, sz_small (n := 13) (by rw [sp_fin]; exact spT_len ⟨b1, b2, b3⟩) (by decide), ?_⟩⟩
    rw [sp_fin]
    exact hR _ _ (Same.refl _) (.str _ (Nat.le_trans (spT_len ⟨b1, b2, b3⟩) (by decide)))
  · rw [rpta_str ry] at hd
    refine ⟨_, D, qs.map spT, rfl, rfl, .inl (SqL.of hd), ?_, k _ sm⟩
    have z := sum_le (xs := qs.map spT) (b := 13) fun x hx => by
      obtain ⟨q, hq, rfl⟩ := List.mem_map.mp hx
      exact spT_len (hb q hq)
    rw [List.length_map] at z ⊢
    have l3 : ((" " : Str)).length = 1 := by decide
    rw [l3]
    omega
end
end Cs
set_option maxHeartbeats 4000000
/-! The layer over tables that all laws share: rows and columns by name, check_table, what is made, calls by keywords. -/
namespace Cs
open PySem L2 L2H PyProof.Rows
local macro_rules | `(tactic| walk_at "goD1") => `(tactic| try dsimp only [gName, tSeq, tAsg, tRet, tLst, tCons, tOp, tTup, tCall, tNil, tC, tDrop, tCB, tPar, tNext, tM1, tJs, tAndV, tFmt, tIfS, tOr, tNot, tB, tTest, tProp])
theorem passF {X : Cx} : Passes (L2.CX X.prog X.w) X (fun _ _ _ => False) := fun _ _ _ _ _ _ _ h => by
  obtain ⟨_, _, _, _, _, _, _, _, _, _, _, _, hq⟩ := h
  exact hq.elim
theorem pe_cX {X : Cx} {k j : Nat} {sp : Sp} {x : Str} {q pos : Pos} {e : Expr} {es : List Expr} {t : TA} {E : XK} (c : CalX X.prog X.w X.K X.mg X.base k x sp) (hr : Room j X.A) (hk : k ≤ j) (hg : Gl X x) (hx : Passes (L2.CX X.prog X.w) X E) (ha : PA X (e :: es) t)
    (hdb : (x == ("__debug__" : Str)) = false := by rfl) (he : starEach (e :: es) X.env = (false, eval e X.env) :: starEach es X.env := by rfl) (hpl : ((backTo pos (starEach es X.env)).any fun x => x.1) = false := by rfl) :
    PE X (.Call (.Name x q) (e :: es) [] pos) (tCall sp [] E t) := by
  obtain ⟨f, fd, ps, F, g, kp, b⟩ := c.ex
  exact pe_call F (hr.mono hk) hg g kp b .nil hx ha hdb he hpl
theorem DefAt.calG {P : Program} {w : World} {K : PySem.W.Frag} {mg : Str → Option Value} {base : Heap} {x : Str} {st : Stmt} {N ps : List Str} {k : Nat} {sp : Sp} (D : DefAt K mg x st ps) (S : FnScope N ps (defScope st)) (len : ∀ vs H Q E, sp vs H Q E → vs.length = ps.length)
    (hbody : ∀ (f : Addr) (cdv : Value) (A : Around) (outer : List Env) (s : Shared) (H : Hp) (vs : List V) (Q : VK) (E : XK), A.guards = some [] → Room k (A.deeper (envOfC x (defScope st) s.heap.objs.size f cdv)) → sp vs H Q E →
      ∃ t, PSs (cxOf CX0 P w K mg base N x (defScope st) f cdv A outer s H E).nox (defBody st) t ∧ t { nx := fun _ H' => Q .non H', rt := Q } (start N vs) H) : CalG P w K mg base (k + 1) x sp := by
  obtain ⟨f, fd, F, g, b⟩ := D.ex
  refine ⟨f, fd, ps, ?_, g, F.kp, b⟩
  obtain ⟨oc, od, dV, kV, doc, pm, an, cdv, ct, osl, rfl, lk, hcd, _, _⟩ := F.ex
  refine fn_ofG lk hcd S len fun A outer s H vs Q E hg hr h => ?_
  obtain ⟨t, h1, h2⟩ := hbody f cdv A outer s H vs Q E hg hr h
  exact ⟨t, h1.nox, h2⟩
def tG (sp : Sp) (t : TA) : TE := fun σ H Q => t σ H fun vs H1 => sp vs H1 Q fun _ _ _ => False
theorem pe_cG2 {X : Cx} {k j : Nat} {sp : Sp} {x : Str} {q pos : Pos} {e : Expr} {es : List Expr} {t : TA} (c : CalG X.prog X.w X.K X.mg X.base k x sp) (hG : X.A.guards = some []) (hr : Room j X.A) (hk : k ≤ j) (hg : Gl X x) (ha : PA X (e :: es) t)
    (hdb : (x == ("__debug__" : Str)) = false := by rfl) (he : starEach (e :: es) X.env = (false, eval e X.env) :: starEach es X.env := by rfl) (hpl : ((backTo pos (starEach es X.env)).any fun x => x.1) = false := by rfl) :
    PE X (.Call (.Name x q) (e :: es) [] pos) (tG sp t) := pe_cG c hG hr hk hg ha hdb he hpl
/-- a def by its name, with what it is made of -/
structure CalY (P : Program) (w : World) (K : PySem.W.Frag) (mg : Str → Option Value) (base : Heap) (k : Nat) (x : Str) (sp : Sp) (st : Stmt) (ps : List Str) : Prop where
  ex : ∃ (f : Addr) (fd : FuncData), FunD K x x (defArgs st) (defBody st) (defScope st) [] [] f fd ∧ FnOk P w K mg base (L2.CX P w) k f fd ps sp ∧ mg x = some (.ref f) ∧ Binds K fd ps []
section
variable {P : Program} {w : World} {K : PySem.W.Frag} {mg : Str → Option Value} {base : Heap} {C : Addr}
theorem CalY.x {k : Nat} {x : Str} {sp : Sp} {st : Stmt} {ps : List Str} (c : CalY P w K mg base k x sp st ps) : CalX P w K mg base k x sp := by
  obtain ⟨f, fd, D, F, g, b⟩ := c.ex
  exact ⟨⟨f, fd, ps, F, g, D.kp, b⟩⟩
theorem DefAt.calY {x : Str} {st : Stmt} {N ps : List Str} {k : Nat} {sp : Sp} (D : DefAt K mg x st ps) (S : FnScope N ps (defScope st)) (len : ∀ vs H Q E, sp vs H Q E → vs.length = ps.length)
    (hbody : ∀ (f : Addr) (cdv : Value) (A : Around) (outer : List Env) (s : Shared) (H : Hp) (vs : List V) (Q : VK) (E : XK), Room k (A.deeper (envOfC x (defScope st) s.heap.objs.size f cdv)) → sp vs H Q E →
      ∃ t, PSs (cxOf (L2.CX P w) P w K mg base N x (defScope st) f cdv A outer s H E) (defBody st) t ∧ t { nx := fun _ H' => Q .non H', rt := Q } (start N vs) H) : CalY P w K mg base (k + 1) x sp st ps := by
  obtain ⟨f, fd, F, g, b⟩ := D.ex
  exact ⟨⟨f, fd, F, F.ok S len fun cdv A outer s H vs Q E hr h => hbody f cdv A outer s H vs Q E hr h, g, b⟩⟩
/-- a def that can be called by the keywords ks alone -/
structure CalK (P : Program) (w : World) (K : PySem.W.Frag) (mg : Str → Option Value) (base : Heap) (k : Nat) (x : Str) (sp : Sp) (ks : List Str) (gV : List V → List V → List V) : Prop where
  ex : ∃ (f : Addr) (fd : FuncData) (ps : List Str) (g : List Value → List Value → List Value), FnOk P w K mg base (L2.CX P w) k f fd ps sp ∧ mg x = some (.ref f) ∧ PySem.W.keepIn K (.ref f) = true ∧ KBn K fd ps 0 ks g gV
end
section
variable {X : Cx} {CX : CXT} {k : Nat} {f : Addr} {fd : FuncData} {ps ks : List Str} {sp : Sp} {E : XK} {x : Str} {p pos : Pos} {kws : List Keyword} {tk : TA} {g : List Value → List Value → List Value} {gV : List V → List V → List V}
theorem pe_callK0 (F : FnOk X.prog X.w X.K X.mg X.base CX k f fd ps sp) (hr : Room k X.A) (hg : Gl X x) (hm : X.mg x = some (.ref f)) (hk : PySem.W.keepIn X.K (.ref f) = true) (hb : KBn X.K fd ps 0 ks g gV) (hx : Passes CX X E) (hkw : PK X kws tk)
    (hall : (backToKw pos (keywordEach kws X.env)).all (·.1.isSome) = true := by rfl) (hks : (backToKw pos (keywordEach kws X.env)).filterMap (·.1) = ks := by rfl) (hdb : (x == ("__debug__" : Str)) = false := by decide)
    (hpl : ((backTo pos (starEach [] X.env)).any (·.1) || (backToKw pos (keywordEach kws X.env)).any (·.1.isNone)) = false := by rfl) :
    PE X (.Call (.Name x p) [] kws pos) (tCallN 0 ks.length sp gV E tNil tk) := by
  refine ⟨fun pins s σ H Q I h => ?_⟩
  refine wpAny_Call_Name_kw (ld_glob I hg hm ?_ hdb)
  refine PySem.W.callWith_KW0 (h₀ := X.base) I.ok.mod.kin hk hall ?_ hpl
  refine thn (hkw.run pos pins s σ H _ I h) fun ws s2 ⟨zs, H2, I2, rz, l1, l2, q2⟩ => ⟨I2.kIn, ?_⟩
  rw [hks]
  exact run_fnN (us := []) (vs := []) F hr hb hx I2 .nil rz rfl l2 q2
theorem pe_cK {j : Nat} {q : Pos} (c : CalK X.prog X.w X.K X.mg X.base k x sp ks gV) (hr : Room j X.A) (hk : k ≤ j) (hg : Gl X x) (hx : Passes (L2.CX X.prog X.w) X E) (ha : PK X kws tk)
    (hall : (backToKw pos (keywordEach kws X.env)).all (·.1.isSome) = true := by rfl) (hks : (backToKw pos (keywordEach kws X.env)).filterMap (·.1) = ks := by rfl) (hdb : (x == ("__debug__" : Str)) = false := by rfl)
    (hpl : ((backTo pos (starEach [] X.env)).any (·.1) || (backToKw pos (keywordEach kws X.env)).any (·.1.isNone)) = false := by rfl) :
    PE X (.Call (.Name x q) [] kws pos) (tCallN 0 ks.length sp gV E tNil tk) := by
  obtain ⟨f, fd, ps, g, F, gg, kp, b⟩ := c.ex
  exact pe_callK0 F (hr.mono hk) hg gg kp b hx ha hall hks hdb hpl
end
/-! ### rows -/
def RowOk (r : Rw) : Prop := isName (.str r.1) = true ∧ r.2.length ≤ 4 ∧ ∀ q ∈ r.2, -10000 ≤ q.1 ∧ q.1 ≤ q.2 ∧ q.2 ≤ 10000
theorem Good.row {cs : List Str} {rs : List Rw} (g : Good cs rs) {r : Rw} (h : r ∈ rs) : RowOk r := ⟨g.rnm r h, by rw [g.rl r h]; exact g.c4, g.sp r h⟩
theorem Good.nms {cs : List Str} {rs : List Rw} (g : Good cs rs) : ∀ x ∈ rs.map (·.1), isName (.str x) = true := fun x hx => by
  obtain ⟨r', hr', rfl⟩ := List.mem_map.mp hx
  exact g.rnm r' hr'
def RowIn (m : Nat) (r : Rw) : Prop := isName (.str r.1) = true ∧ r.2.length = m ∧ ∀ q ∈ r.2, -10000 ≤ q.1 ∧ q.1 ≤ q.2 ∧ q.2 ≤ 10000
theorem Good.rin {cs : List Str} {rs : List Rw} (g : Good cs rs) {r : Rw} (h : r ∈ rs) : RowIn cs.length r := ⟨g.rnm r h, g.rl r h, g.sp r h⟩
def SpCk (C : Addr) : Sp := fun vs H Q _ => ∃ (t dx : Addr) (fs : List (Str × V)), vs = [.ref t] ∧ H t = some (.ins C dx fs) ∧ Q .non H
def SpOO : Sp := fun vs H Q _ => ∃ (p : Addr) (v : V) (x : Str) (xs : List Str), vs = [.str x, v] ∧ NmT p H v xs ∧ Q (.bl (xs.contains x)) H
def SpRi (C : Addr) : Sp := fun vs H Q _ => ∃ (p t : Addr) (cs : List Str) (rs : List Rw) (x : Str) (i : Nat), vs = [.ref t, .str x] ∧ Has p H ∧ TabD C p H t cs rs ∧ Good cs rs ∧ (rs.map (·.1))[i]? = some x ∧ ∀ H', Same H H' → Q (.int (i : Nat)) H'
def SpCi (C : Addr) : Sp := fun vs H Q _ => ∃ (p t : Addr) (cs : List Str) (rs : List Rw) (x : Str) (i : Nat), vs = [.ref t, .str x] ∧ TabF C p H t cs ∧ Good cs rs ∧ cs[i]? = some x ∧ ∀ H', Same H H' → Q (.int (i : Nat)) H'
def SpRs (C : Addr) : Sp := fun vs H Q _ => ∃ (p t : Addr) (cs : List Str) (rs : List Rw) (r : Rw) (i : Nat), vs = [.ref t, .str r.1] ∧ Has p H ∧ TabD C p H t cs rs ∧ Good cs rs ∧ rs[i]? = some r ∧ ∀ v H', Same H H' → RpT p H' v (.tuple (r.2.map dSp)) → Q v H'
/-- the stretch of a row under a column -/
def SpSx (C : Addr) : Sp := fun vs H Q _ => ∃ (p t : Addr) (cs : List Str) (rs : List Rw) (r : Rw) (y : Str) (i j : Nat) (q : Int × Int), vs = [.ref t, .str r.1, .str y] ∧ Has p H ∧ TabD C p H t cs rs ∧ TabF C p H t cs ∧ Good cs rs ∧ rs[i]? = some r ∧ cs[j]? = some y ∧ r.2[j]? = some q ∧
  ∀ v H', Same H H' → RpT p H' v (dSp q) → Q v H'
theorem first_at {xs : List Str} {i : Nat} {x : Str} (nd : xs.Nodup) (h : xs[i]? = some x) : ∀ m, m < i → xs[m]? ≠ some x := fun m hm e => by
  obtain ⟨h1, e1⟩ := List.getElem?_eq_some_iff.mp h
  obtain ⟨h2, e2⟩ := List.getElem?_eq_some_iff.mp e
  exact (List.pairwise_iff_getElem.mp nd) m i h2 h1 hm (e2.trans e1.symm)
theorem has_of {xs : List Str} {i : Nat} {x : Str} (h : xs[i]? = some x) : xs.contains x = true := by
  rw [List.contains_eq_mem, decide_eq_true_eq]
  exact List.mem_of_getElem? h
/-- a table is made -/
theorem make_ok {C p x dx : Addr} {H1 : Hp} {vc vr : V} {cs : List Str} {rs : List Rw} {E : XK} {R : Hp → Prop} (hp : Has p H1) (nm : RpT p H1 vc (dCols cs)) (rr : RpT p H1 vr (dRows rs)) (g : Good cs rs) (hx : H1 x = none) (hd : H1 dx = none) (hne : dx ≠ x)
    (k : ∀ H', Same H1 H' → TabD C p H' x cs rs → R H') : SpTO C [.ref x, vc, vr] (upd (upd H1 dx (.own x)) x (.ins C dx [])) (fun v H2 => v = .non ∧ R H2) E := by
  have s : Same H1 (upd (upd H1 dx (.own x)) x (.ins C dx [])) := fun b o hb => by
    rw [upd_ne (ne_of_none hb hx), upd_ne (ne_of_none hb hd)]
    exact hb
  refine ⟨p, x, dx, vc, vr, cs, rs, rfl, upd_same, hp.ne hx, nm.keep (ExT.of (ExB.of s)), rr.keep (ExT.of (ExB.of s)), g, fun H' e ea => ⟨rfl, ?_⟩⟩
  have s2 : Same H1 H' := fun b o hb => e b o (ne_of_none hb hx) (s _ _ hb)
  exact k H' s2 ⟨dx, vc, vr, ea, nm.keep (ExT.of (ExB.of s2)), rr.keep (ExT.of (ExB.of s2))⟩
section
variable {P : Program} {w : World} {K : PySem.W.Frag} {mg : Str → Option Value} {base : Heap} {C : Addr}
theorem sc_is_one_of : FnScope ["value", "names"] ["value", "names"] (defScope (topS 26)) := ⟨rfl, rfl, rfl, by decide +kernel, rfl, by decide +kernel, by decide +kernel⟩
theorem ok_is_one_of (D : DefAt K mg "is_one_of" (topS 26) ["value", "names"]) (T : Txt mg) : C8.Cal P w K mg base 1 "is_one_of" SpOO [] := by
  refine D.cal sc_is_one_of (fun vs H Q E h => by obtain ⟨_, _, _, _, rfl, _⟩ := h; rfl) fun f cdv A outer s H vs Q E hr h => ?_
  obtain ⟨p, v, x, xs, rfl, ⟨l, rfl, nl, fz, nr⟩, k⟩ := h
  refine ⟨_, (pss_one (ps_ret (pe_and (pe_callB call_isi (by rfl) T.isinstance_ (by decide +kernel) (pa_cons (pv 0) (pa_cons (pe_bltn (v := .ty "str") (u := .type "str") (by rfl) T.str_ (by decide +kernel) rfl) pa_nil))) (pe_one (pe_cmpR opIn (pv 0) (pv 1) (by rfl)))))), ?_⟩
  walk_at "goD1"
  refine ⟨_, rfl, _, _, _, _, true, rfl, .ty _, .base (.str x), kit_str (d := .str x), true, rfl, iteT ?_⟩
  refine ⟨_, rfl, _, rfl, .inl ⟨l, _, rfl, .inr (SqT.rd fz.rd), rfl, flat_strs _, ?_⟩⟩
  rw [inV_str]
  exact k
theorem sc_row_index : FnScope ["table", "name"] ["table", "name"] (defScope (topS 36)) := ⟨rfl, rfl, rfl, by decide +kernel, rfl, by decide +kernel, by decide +kernel⟩
theorem ok_row_index {pn gn CU : Addr} {fdn : FuncData} (D : DefAt K mg "row_index" (topS 36) ["table", "name"]) (T : Txt mg) (TC : TabC K C) (cis_one_of : C8.Cal P w K mg base 1 "is_one_of" SpOO [])
    (F_names : FnOk P w K mg base CX0 1 gn fdn ["self"] (SpNm C)) (hp_names : PropOf K C "names" pn gn) (b_names : Binds K fdn ["self"] []) (xUnknownName : RaiseAt P w K mg base "UnknownName" CU "given") : CalX P w K mg base 3 "row_index" (SpRi C) := by
  refine D.calX sc_row_index (fun vs H Q E h => by obtain ⟨_, _, _, _, _, _, rfl, _⟩ := h; rfl) fun f cdv A outer s H vs Q E hr h => ?_
  obtain ⟨p, t, cs, rs, x, i, rfl, hp, ht, g, hi, k⟩ := h
  have nd := sc_row_index.nd
  have hTC := TC.c
  refine ⟨_, (pss_cons (ps_if (pt_not (pt_val (C8.pe_c cis_one_of hr (by decide) rfl (pa_cons (pv 1) (pa_cons (pe_prop (pv 0) hTC hp_names F_names (hr.mono (by decide)) b_names .nil pass0 rfl) pa_nil))))) (pss_one (ps_raise rfl (takes_of rfl rfl rfl rfl) (pmk_rx xUnknownName (hr.mono (by decide)) rfl (pv 1) (by rfl) rfl rfl))) pss_nil)
      (pss_one (ps_ret (pe_tbm PySem.F.slot_tuple_index PySem.F.type_tuple_index mt_tup_index (pe_prop (pv 0) hTC hp_names F_names (hr.mono (by decide)) b_names .nil pass0 rfl) (pa_cons (pv 1) pa_nil))))), ?_⟩
  walk_at "goD1"
  obtain ⟨dx, vc, vr, h1, h2, h3⟩ := id ht
  refine ⟨_, rfl, _, rfl, t, dx, _, rfl, h1, p, t, cs, rs, rfl, hp, ht, g.r8, g.nms, fun v H1 s1 nm => ⟨p, v, x, _, rfl, nm, ?_⟩⟩
  rw [has_of hi]
  refine ⟨_, rfl, iteF ?_⟩
  refine ⟨_, rfl, t, dx, _, rfl, s1 _ _ h1, p, t, cs, rs, rfl, hp.keep s1, ht.same s1, g.r8, g.nms, fun v2 H2 s2 nm2 => ?_⟩
  obtain ⟨l2, rfl, nl2, fz2, nr2⟩ := nm2
  exact ⟨⟨l2, _, rfl, fz2⟩, _, rfl, l2, rs.map (·.1), x, i, rfl, rfl, SqT.rd fz2.rd, hi, first_at g.rnd hi, k _ (s1.trans s2)⟩
theorem sc_column_index : FnScope ["table", "column"] ["table", "column"] (defScope (topS 38)) := ⟨rfl, rfl, rfl, by decide +kernel, rfl, by decide +kernel, by decide +kernel⟩
theorem ok_column_index {pc gc CU : Addr} {fdc : FuncData} (D : DefAt K mg "column_index" (topS 38) ["table", "column"]) (T : Txt mg) (TC : TabC K C) (cis_one_of : C8.Cal P w K mg base 1 "is_one_of" SpOO [])
    (F_columns : FnOk P w K mg base CX0 1 gc fdc ["self"] (SpGet C "_columns")) (hp_columns : PropOf K C "columns" pc gc) (b_columns : Binds K fdc ["self"] []) (xInvalidColumn : RaiseAt P w K mg base "InvalidColumn" CU "given") : CalX P w K mg base 3 "column_index" (SpCi C) := by
  refine D.calX sc_column_index (fun vs H Q E h => by obtain ⟨_, _, _, _, _, _, rfl, _⟩ := h; rfl) fun f cdv A outer s H vs Q E hr h => ?_
  obtain ⟨p, t, cs, rs, x, i, rfl, ht, g, hi, k⟩ := h
  have nd := sc_column_index.nd
  have hTC := TC.c
  refine ⟨_, (pss_cons (ps_if (pt_not (pt_val (C8.pe_c cis_one_of hr (by decide) rfl (pa_cons (pv 1) (pa_cons (pe_prop (pv 0) hTC hp_columns F_columns (hr.mono (by decide)) b_columns .nil pass0 rfl) pa_nil))))) (pss_one (ps_raise rfl (takes_of rfl rfl rfl rfl) (pmk_rx xInvalidColumn (hr.mono (by decide)) rfl (pv 1) (by rfl) rfl rfl))) pss_nil)
      (pss_one (ps_ret (pe_tbm PySem.F.slot_tuple_index PySem.F.type_tuple_index mt_tup_index (pe_prop (pv 0) hTC hp_columns F_columns (hr.mono (by decide)) b_columns .nil pass0 rfl) (pa_cons (pv 1) pa_nil))))), ?_⟩
  walk_at "goD1"
  obtain ⟨dx, vc, vr, h1, h2⟩ := id ht
  refine ⟨_, rfl, _, rfl, t, dx, _, rfl, h1, t, dx, _, vc, rfl, h1, rfl, p, vc, x, cs, rfl, h2, ?_⟩
  rw [has_of hi]
  refine ⟨_, rfl, iteF ?_⟩
  obtain ⟨l, rfl, nl, fz, nr⟩ := h2
  exact ⟨_, rfl, t, dx, _, rfl, h1, t, dx, _, _, rfl, h1, rfl, ⟨l, _, rfl, fz⟩, _, rfl, l, cs, x, i, rfl, rfl, SqT.rd fz.rd, hi, first_at g.cnd hi, k _ (Same.refl _)⟩
theorem sc_row_stretches : FnScope ["table", "name"] ["table", "name"] (defScope (topS 37)) := ⟨rfl, rfl, rfl, by decide +kernel, rfl, by decide +kernel, by decide +kernel⟩
theorem ok_row_stretches {pr gr : Addr} {fdr : FuncData} (D : DefAt K mg "row_stretches" (topS 37) ["table", "name"]) (T : Txt mg) (TC : TabC K C) (crow_index : CalX P w K mg base 3 "row_index" (SpRi C))
    (F_rows : FnOk P w K mg base CX0 1 gr fdr ["self"] (SpGet C "_rows")) (hp_rows : PropOf K C "rows" pr gr) (b_rows : Binds K fdr ["self"] []) : CalX P w K mg base 4 "row_stretches" (SpRs C) := by
  refine D.calX sc_row_stretches (fun vs H Q E h => by obtain ⟨_, _, _, _, _, _, rfl, _⟩ := h; rfl) fun f cdv A outer s H vs Q E hr h => ?_
  obtain ⟨p, t, cs, rs, r, i, rfl, hp, ht, g, hi, k⟩ := h
  have nd := sc_row_stretches.nd
  have hTC := TC.c
  refine ⟨_, (pss_one (ps_ret (pe_ix ix_seq (pe_ix ix_seq (pe_prop (pv 0) hTC hp_rows F_rows (hr.mono (by decide)) b_rows .nil pass0 rfl) (pe_cX crow_index hr (by decide) rfl (passes_call (takes_of rfl rfl rfl rfl) (fun _ _ _ _ h => h)) (pa_cons (pv 0) (pa_cons (pv 1) pa_nil))) (fun _ _ => rfl)) pe_int (fun _ _ => rfl)))), ?_⟩
  walk_at "goD1"
  obtain ⟨dx, vc, vr, h1, h2, h3⟩ := id ht
  have hi' : (rs.map (·.1))[i]? = some r.1 := by rw [List.getElem?_map, hi]; rfl
  refine ⟨_, rfl, t, dx, _, rfl, h1, t, dx, _, vr, rfl, h1, rfl, _, rfl, _, rfl, p, t, cs, rs, r.1, i, rfl, hp, ht, g, hi', fun H1 s1 => ?_⟩
  have r2 := h3.keep (ExT.of (ExB.of s1))
  cases r2 with
  | @tup a xs _ n h z ra =>
    obtain ⟨v, hv, rv⟩ := ra.at_ (i := i) (d := dRw r) (by rw [List.getElem?_map, hi]; rfl)
    refine .inr (.inl ⟨a, _, (i : Nat), v, rfl, rfl, SqT.rd h, atI_nat hv, ?_⟩)
    obtain ⟨a2, x2, y2, rfl, h4, h5, h6⟩ := unp2 rv
    exact .inr (.inl ⟨a2, _, 1, y2, rfl, rfl, SqT.rd h4, atI_nat (j := 1) rfl, k _ _ s1 h6⟩)
theorem sc_t_stretch : FnScope ["self", "name", "column"] ["self", "name", "column"] (defScope (inClass (topS 33) 8)) := ⟨rfl, rfl, rfl, by decide +kernel, rfl, by decide +kernel, by decide +kernel⟩
theorem ok_t_stretch {f : Addr} {fd : FuncData} {q : Str} (F : FunD K "stretch" q (defArgs (inClass (topS 33) 8)) (defBody (inClass (topS 33) 8)) (defScope (inClass (topS 33) 8)) [] [] f fd) (TC : TabC K C) (T : Txt mg)
    (crow_stretches : CalX P w K mg base 4 "row_stretches" (SpRs C)) (ccolumn_index : CalX P w K mg base 3 "column_index" (SpCi C)) :
    FnOk P w K mg base (L2.CX P w) 5 f fd ["self", "name", "column"] (SpSx C) := by
  refine F.ok sc_t_stretch (fun vs H Q E h => by obtain ⟨_, _, _, _, _, _, _, _, _, rfl, _⟩ := h; rfl) fun cdv A outer s H vs Q E hr h => ?_
  obtain ⟨p, t, cs, rs, r, y, i, j, q, rfl, hp, ht, hf, g, hi, hj, hq, k⟩ := h
  have nd := sc_t_stretch.nd
  have hTC := TC.c
  refine ⟨_, (pss_one (ps_ret (pe_ix ix_seq (pe_cX crow_stretches hr (by decide) rfl (passes_call (takes_of rfl rfl rfl rfl) (fun _ _ _ _ h => h)) (pa_cons (pv 0) (pa_cons (pv 1) pa_nil))) (pe_cX ccolumn_index hr (by decide) rfl (passes_call (takes_of rfl rfl rfl rfl) (fun _ _ _ _ h => h)) (pa_cons (pv 0) (pa_cons (pv 2) pa_nil))) (fun _ _ => rfl)))), ?_⟩
  walk_at "goD1"
  refine ⟨_, rfl, _, rfl, p, t, cs, rs, r, i, rfl, hp, ht, g, hi, fun v H1 s1 rv => ?_⟩
  refine ⟨_, rfl, _, rfl, p, t, cs, rs, y, j, rfl, hf.same s1, g, hj, fun H2 s2 => ?_⟩
  have r2 := rv.keep (ExT.of (ExB.of s2))
  cases r2 with
  | @tup a3 xs3 _ n3 h7 z3 ra3 =>
    obtain ⟨v3, hv3, rv3⟩ := ra3.at_ (i := j) (d := dSp q) (by rw [List.getElem?_map, hq]; rfl)
    exact .inr (.inl ⟨a3, _, (j : Nat), v3, rfl, rfl, SqT.rd h7, atI_nat hv3, k _ _ (s1.trans s2) rv3⟩)
end
end Cs
set_option maxHeartbeats 4000000
/-! Texts of rows and tables. -/
namespace Cs
open PySem L2 PyProof.Rows
local macro_rules | `(tactic| walk_at "goD2") => `(tactic| try dsimp only [gName, tSeq, tAsg, tRet, tLst, tCons, tOp, tTup, tCall, tNil, tC, tDrop, tCB, tPar, tNext, tM1, tJs, tAndV, tFmt, tIfS, tOr, tNot, tB, tTest, tProp])
theorem sjoin_lenT {b : Nat} {y : Str} : ∀ {xs : List Str}, (∀ x ∈ xs, x.length ≤ b) → (Str.join y xs).length ≤ xs.length * (b + y.length)
  | [], _ => Nat.zero_le _
  | [x], h => by
    have z := h x List.mem_cons_self
    show x.length ≤ 1 * (b + y.length)
    omega
  | x :: z :: r, h => by
    have h1 := h x List.mem_cons_self
    have h2 := sjoin_lenT (y := y) (xs := z :: r) fun w hw => h w (List.mem_cons_of_mem _ hw)
    show (x ++ y ++ Str.join y (z :: r)).length ≤ _
    rw [Str.length_append, Str.length_append, List.length_cons, Nat.succ_mul]
    omega
theorem join_lenT {b : Nat} {y : Str} {xs : List Str} (h : ∀ x ∈ xs, x.length ≤ b) : (Txt.join y xs).length ≤ xs.length * (b + y.length) := by
  rw [show Txt.join y xs = Str.join y xs from StrLaws.glued_eq_join y xs]
  exact sjoin_lenT h
theorem stT_len {qs : List (Int × Int)} (hl : qs.length ≤ 4) (hs : ∀ q ∈ qs, -10000 ≤ q.1 ∧ q.1 ≤ q.2 ∧ q.2 ≤ 10000) : (stT qs).length ≤ 56 := by
  have z := join_lenT (y := " ") (xs := qs.map spT) (b := 13) fun x hx => by
    obtain ⟨q, hq, rfl⟩ := List.mem_map.mp hx
    exact spT_len (hs q hq)
  have l3 : ((" " : Str)).length = 1 := by decide
  rw [l3, List.length_map] at z
  unfold stT
  omega
def SpRt : Sp := fun vs H Q _ => ∃ (p : Addr) (v : V) (r : Rw), vs = [v] ∧ RpT p H v (dRw r) ∧ RowOk r ∧ ∀ H', Same H H' → Q (.str (rwT r)) H'
def SpStr (C : Addr) : Sp := fun vs H Q _ => ∃ (p t : Addr) (cs : List Str) (rs : List Rw), vs = [.ref t] ∧ TabD C p H t cs rs ∧ Good cs rs ∧ ∀ H', Same H H' → Q (.str (pageT cs rs)) H'
section
variable {P : Program} {w : World} {K : PySem.W.Frag} {mg : Str → Option Value} {base : Heap} {C : Addr}
theorem sc__row_text : FnScope ["row", "name", "stretches"] ["row"] (defScope (topS 42)) := ⟨rfl, rfl, rfl, by decide +kernel, rfl, by decide +kernel, by decide +kernel⟩
theorem ok__row_text (D : DefAt K mg "_row_text" (topS 42) ["row"]) (T : Txt mg) (cstretches_text : C8.Cal P w K mg base 1 "stretches_text" SpSt []) : C8.Cal P w K mg base 2 "_row_text" SpRt [] := by
  refine D.cal sc__row_text (fun vs H Q E h => by obtain ⟨_, _, _, rfl, _⟩ := h; rfl) fun f cdv A outer s H vs Q E hr h => ?_
  obtain ⟨p, v, r, rfl, hv, ⟨hn, hl, hs⟩, k⟩ := h
  have nd := sc__row_text.nd
  refine ⟨_, (pss_cons (ps_asg (pv 0) (pg_tup (by rfl) (pgs_cons (pg_name (i := 1) nd rfl (.inl rfl)) (pgs_cons (pg_name (i := 2) nd rfl (.inl rfl)) pgs_nil))))
      (pss_one (ps_ret (pe_joined (PJ.cons (pe_fmt (pv 1)) (PJ.cons pe_str (PJ.cons (pe_fmt (C8.pe_c cstretches_text hr (by decide) rfl (pa_cons (pv 2) pa_nil))) PJ.nil))))))), ?_⟩
  walk_at "goD2"
  obtain ⟨a, x, y, rfl, h4, h5, h6⟩ := unp2 hv
  cases h5
  refine ⟨_, rfl, a, [_, y], rfl, SqT.rd h4, rfl, _, [y], rfl, y, [], rfl, rfl, ?_⟩
  have l1 := name_len hn
  have l3 : ((" " : Str)).length = 1 := by decide
  have l4 := stT_len hl hs
  walk_at "goD2"
  refine ⟨_, rfl, .inl ⟨r.1, rfl, sz_small l1 (by decide), _, rfl, sz_small (n := 8) (by rw [Str.empty_append]; exact l1) (by decide), _, rfl, sz_small (n := 9) (by rw [Str.empty_append, Str.length_append]; omega) (by decide), ?_⟩⟩
  refine ⟨_, rfl, p, y, r.2, rfl, h6, hl, hs, fun H' s' => .inl ⟨_, rfl, sz_small l4 (by decide), _, rfl, sz_small (n := 100) (by rw [Str.empty_append, Str.length_append, Str.length_append]; omega) (by decide), ?_⟩⟩
  rw [Str.empty_append, Str.append_assoc]
  exact k _ s'
theorem sc_t_str : FnScope ["self", "row"] ["self"] (defScope (inClass (topS 33) 5)) := ⟨rfl, rfl, rfl, by decide +kernel, rfl, by decide +kernel, by decide +kernel⟩
theorem ok_t_str {f : Addr} {fd : FuncData} {q : Str} (F : FunD K "__str__" q (defArgs (inClass (topS 33) 5)) (defBody (inClass (topS 33) 5)) (defScope (inClass (topS 33) 5)) [] [] f fd) (TC : TabC K C) (T : Txt mg) (c_row_text : C8.Cal P w K mg base 2 "_row_text" SpRt []) : FnOk P w K mg base CX0 3 f fd ["self"] (SpStr C) := by
  refine F.ok sc_t_str (fun vs H Q E h => by obtain ⟨_, _, _, _, rfl, _⟩ := h; rfl) fun cdv A outer s H vs Q E hr h => ?_
  obtain ⟨p, t, cs, rs, rfl, ht, g, k⟩ := h
  have nd := sc_t_str.nd
  refine ⟨_, PSs.nox (pss_one (ps_ret (pe_join pe_str (pe_lst (pa_cons (pe_join pe_str (pe_fld (pv 0) rfl)) (StX.pa_star (pe_lc (own := [("row", 1)]) rfl nd (pi_tup (pe_fld (pv 0) rfl)) (blkOk_by (N := ["self", "row"]) (sc := defScope (inClass (topS 33) 5)) (by decide +kernel)) (fun _ _ _ _ _ => (pg_name (i := 1) nd rfl (.inl rfl))) (fun _ _ _ _ _ => pts_nil) (fun _ _ _ _ _ => (C8.pe_c c_row_text hr (by decide) rfl (pa_cons (pv 1) pa_nil)))) pa_nil)))))), ?_⟩
  obtain ⟨dx, vc, vr, h1, h2, h3⟩ := ht
  walk_at "goD2"
  refine ⟨⟨_, rfl⟩, ⟨_, rfl⟩, ?_⟩
  refine ⟨_, rfl, t, C, dx, _, vc, rfl, h1, TC.c, TC.n1, rfl, ?_⟩
  have l3 : ((" " : Str)).length = 1 := by decide
  have l4 : (("\n" : Str)).length = 1 := by decide
  have c4 := g.c4
  have r8 := g.r8
  have z1 := sum_le (xs := cs) (b := 8) fun x hx => name_len (g.cnm x hx)
  have z2 := join_lenT (y := " ") (xs := cs) (b := 8) fun x hx => name_len (g.cnm x hx)
  have z3 : ∀ x ∈ rs.map rwT, x.length ≤ 65 := fun x hx => by
    obtain ⟨r, hr, rfl⟩ := List.mem_map.mp hx
    obtain ⟨q1, q2, q3⟩ := g.row hr
    have w1 := name_len q1
    have w2 := stT_len q2 q3
    unfold rwT
    rw [Str.length_append, Str.length_append]
    omega
  rw [l3] at z2
  have nm2 : ∃ a, vc = .ref a ∧ Rd H a (.tup (cs.map V.str)) := by
    cases h2 with
    | @tup a xs _ n h z r =>
      rw [rpta_str r] at h
      exact ⟨a, rfl, h⟩
  obtain ⟨a, rfl, fz⟩ := nm2
  refine ⟨_, a, cs, rfl, rfl, .inr (SqT.rd fz), by rw [l3]; omega, ?_⟩
  dsimp only [StX.tStar]
  refine lc_data (p := p) (ds := rs.map dRw) (es := (rs.map rwT).map PyData.str) (by rw [List.length_map, List.length_map, List.length_map]) (by rw [List.length_map]; omega) (fun R hR => ?_) (fun j z d e H' hd he sm rz R hR => ?_) (fun D ys H' hD sm hd ry => ?_)
  · exact ⟨_, rfl, t, C, dx, _, vr, rfl, h1, TC.c, TC.n2, rfl, hR _ _ (Same.refl _) h3⟩
  · obtain ⟨r, hr2, rfl⟩ := map_get hd
    rw [List.map_map] at he
    obtain ⟨r', hr3, rfl⟩ := map_get he
    rw [hr2] at hr3
    cases hr3
    have w := z3 _ (List.mem_map_of_mem (List.mem_of_getElem? hr2))
    exact ⟨rfl, _, rfl, p, z, r, rfl, rz, g.row (List.mem_of_getElem? hr2), fun H3 s3 => hR _ _ s3 (.str _ (Nat.le_trans w (by decide)))⟩
  · rw [rpta_str ry] at hd
    refine ⟨D, _, rfl, .inr (SqL.of hd), ?_⟩
    have lz : (rs.map rwT).length = rs.length := List.length_map ..
    refine ⟨?_, fun l hl => ?_⟩
    · refine sz1000 ?_
      simp only [List.length_cons, List.length_append, List.length_map, List.length_nil]
      omega
    · refine ⟨_, l, Txt.join " " cs :: rs.map rwT, rfl, rfl, .inl (SqL.of ?_), ?_, k _ (sm.trans (same_new hl))⟩
      · rw [upd_same, List.append_nil]
        rfl
      · have z4 := sum_le z3
        rw [List.map_cons, List.sum_cons, List.length_cons, l4]
        omega
end
end Cs
set_option maxHeartbeats 4000000
namespace Cs
open PySem L2 PyProof.Rows
section
variable {P : Program} {w : World} {K : PySem.W.Frag} {mg : Str → Option Value} {base : Heap}
theorem sc__law_scoop : FnScope ["_law_pail_here", "_law_most", "_law_figure", "_law_mixed"] ["_law_pail_here", "_law_most"] (defScope (topS 45)) := ⟨rfl, rfl, rfl, by decide +kernel, rfl, by decide +kernel, by decide +kernel⟩
theorem ok__law_scoop (D : DefAt K mg "_law_scoop" (topS 45) ["_law_pail_here", "_law_most"]) (T : Txt mg) : C8.Cal P w K mg base 1 "_law_scoop" SpScoop [] := by
  refine D.cal sc__law_scoop (fun vs H Q E h => by obtain ⟨p, m, n, rfl, _⟩ := h; rfl) fun f cdv A outer s H vs Q E hr h => ?_
  obtain ⟨p, m, n, rfl, m0, m1, ⟨a, b, c, c0, c1, hp⟩, hn, k⟩ := h
  have nd := sc__law_scoop.nd
  refine ⟨_, (pss_cons (ps_if (pt_cmpR op_gt (pe_ix ix_seq (pv 0) pe_int (fun _ _ => rfl)) pe_int (nomark _)) (pss_cons (ps_asg (pe_callB call_divmod (by rfl) T.divmod_ (by decide +kernel) (pa_cons (pe_ix ix_seq (pv 0) pe_int (fun _ _ => rfl)) (pa_cons (pv 1) pa_nil))) (pg_tup (by rfl) (pgs_cons (pg_sub (pv 0) pe_int set_list) (pgs_cons (pg_name (i := 2) nd rfl (.inl rfl)) pgs_nil))))
      (pss_one (ps_ret (pv 2)))) pss_nil)
      (pss_cons (ps_asg (pe_op opAdd (pe_ix ix_seq (pv 0) pe_int (fun _ _ => rfl)) pe_int) (pg_sub (pv 0) pe_int set_list))
      (pss_cons (ps_set (i := 3) nd rfl (.inl rfl) (pe_op op_mod (pe_callTy call_int1 (by rfl) T.int_ (by decide +kernel) (pa_cons (pe_op opAdd (pe_op opAdd (pe_op opMul (pe_ix ix_seq (pv 0) pe_int (fun _ _ => rfl)) pe_int) (pe_op opMul (pe_op opMul (pe_ix ix_seq (pv 0) pe_int (fun _ _ => rfl)) (pe_ix ix_seq (pv 0) pe_int (fun _ _ => rfl))) pe_int)) pe_int) pa_nil)) pe_int))
      (pss_cons (ps_asg (pe_op op_mod (pe_callTy call_int1 (by rfl) T.int_ (by decide +kernel) (pa_cons (pe_op opAdd (pe_op opMul (pv 3) (pe_op opAdd pe_int (pe_op op_mod (pe_callTy call_int1 (by rfl) T.int_ (by decide +kernel) (pa_cons (pv 3) pa_nil)) pe_int))) pe_int) pa_nil)) pe_int) (pg_sub (pv 0) pe_int set_list))
      (pss_one (ps_ret (pe_op op_mod (pe_callTy call_int1 (by rfl) T.int_ (by decide +kernel) (pa_cons (pe_op op_fdiv (pe_ix ix_seq (pv 0) pe_int (fun _ _ => rfl)) pe_int) pa_nil)) (pv 1)))))))), ?_⟩
  walk_at "es"
  refine ite2 (fun e1 => ?_) (fun e1 => ?_)
  · walk_at "es"
    intro t ht
    walk_at "es"
    refine k _ _ (Int.emod_nonneg _ (by omega)) (Int.emod_lt_of_pos _ m0) (fun b o nb e => ?_) ⟨_, _, _, c0, by omega, L2.upd_same⟩
    rw [upd_ne nb]
    exact upd_old ht e
  · walk_at "es"
    refine k _ _ (Int.emod_nonneg _ (by omega)) (Int.emod_lt_of_pos _ m0) (fun b o nb e => ?_) ⟨_, _, _, ?_, ?_, L2.upd_same⟩
    · rw [upd_ne nb, upd_ne nb]
      exact e
    · omega
    · omega
theorem sc__law_any : FnScope ["_law_pail_here", "_law_menu"] ["_law_pail_here", "_law_menu"] (defScope (topS 46)) := ⟨rfl, rfl, rfl, by decide +kernel, rfl, by decide +kernel, by decide +kernel⟩
theorem ok__law_any (D : DefAt K mg "_law_any" (topS 46) ["_law_pail_here", "_law_menu"]) (T : Txt mg) (c_law_scoop : C8.Cal P w K mg base 1 "_law_scoop" SpScoop []) : C8.Cal P w K mg base 2 "_law_any" SpAny [] := by
  refine D.cal sc__law_any (fun vs H Q E h => by obtain ⟨p, v, ds, n, rfl, _⟩ := h; rfl) fun f cdv A outer s H vs Q E hr h => ?_
  obtain ⟨p, v, ds, n, rfl, r, hl, hp, hn, k⟩ := h
  refine ⟨_, (pss_one (ps_ret (pe_ix ix_seq (pv 1) (C8.pe_c c_law_scoop hr (by decide) rfl (pa_cons (pv 0) (pa_cons (pe_callB call_lenA (by rfl) T.len_ (by decide +kernel) (pa_cons (pv 1) pa_nil)) pa_nil))) (fun _ _ => rfl)))), ?_⟩
  cases r with
  | @lst a xs _ na h z ra =>
    walk_at "es"
    have ln := ra.length
    refine ⟨p, (xs.length : Nat), n, rfl, by omega, by omega, hp, hn, fun i H' i0 i1 eb hp' => ?_⟩
    obtain ⟨j, rfl⟩ : ∃ j : Nat, i = (j : Nat) := ⟨i.toNat, by omega⟩
    have hi : j < xs.length := by omega
    obtain ⟨d, hd, rd⟩ := ra.get (List.getElem?_eq_getElem hi)
    refine .inl ⟨a, _, _, xs[j], rfl, rfl, SqL.of (eb _ _ na h), atI_nat (List.getElem?_eq_getElem hi), ?_⟩
    exact k _ d H' (List.mem_of_getElem? hd) (rd.keep eb) eb hp'
theorem sc__law_pail : FnScope ["_law_script", "_law_at", "_law_mixed", "_law_cell", "_law_own"] ["_law_script", "_law_at"] (defScope (topS 44)) := ⟨rfl, rfl, rfl, by decide +kernel, rfl, by decide +kernel, by decide +kernel⟩
theorem ok__law_pail (D : DefAt K mg "_law_pail" (topS 44) ["_law_script", "_law_at"]) (T : Txt mg) : C8.Cal P w K mg base 1 "_law_pail" (SpPail K) [] := by
  refine D.cal sc__law_pail (fun vs H Q E h => by obtain ⟨a, ns, i, rfl, _⟩ := h; rfl) fun f cdv A outer s H vs Q E hr h => ?_
  obtain ⟨a, ns, i, rfl, hq, hl, hi, k⟩ := h
  have nd := sc__law_pail.nd
  refine ⟨_, (pss_cons (ps_set (i := 2) nd rfl (.inl rfl) (pe_op opAdd pe_int (pe_op opMul pe_int (pv 1))))
      (pss_cons (ps_for PassesOwn.never rfl (pi_list (pe_slice slAny (pv 0) po_none (po_some pe_int))) (pg_name (i := 3) nd rfl (.inl rfl)) (pss_one (ps_set (i := 2) nd rfl (.inl rfl) (pe_op op_mod (pe_callTy call_int1 (by rfl) T.int_ (by decide +kernel) (pa_cons (pe_op opAdd (pe_op opMul (pv 2) pe_int) (pv 3)) pa_nil)) pe_int))))
      (pss_cons (ps_set (i := 4) nd rfl (.inl rfl) (pe_ifExp (pt_cmpR opLt (pv 1) (pe_callB call_lenA (by rfl) T.len_ (by decide +kernel) (pa_cons (pv 0) pa_nil)) (nomark _)) (pe_ix ix_seq (pv 0) (pv 1) (fun _ _ => rfl)) (pe_op opAdd (pe_op opMul pe_int (pv 1)) pe_int)))
      (pss_one (ps_ret (pe_lst (pa_cons (pe_ifExp (pt_cmpR op_ge (pe_callB call_abs (by rfl) T.abs_ (by decide +kernel) (pa_cons (pv 4) pa_nil)) (pe_op op_pow pe_int pe_int) (nomark _)) (pe_callB call_abs (by rfl) T.abs_ (by decide +kernel) (pa_cons (pv 4) pa_nil)) pe_int) (pa_cons (pe_op op_mod (pe_callTy call_int1 (by rfl) T.int_ (by decide +kernel) (pa_cons (pe_op opAdd (pe_op opAdd (pe_op opMul (pv 2) pe_int) (pe_op opMul (pv 4) pe_int)) pe_int) pa_nil)) pe_int) (pa_cons pe_int pa_nil))))))))), ?_⟩
  walk_at "es"
  refine .inl ⟨a, _, rfl, hq, fun l hl0 => ?_⟩
  have s0 : Same H (upd H l (.lst (cutV (ns.map V.int) none (some 6)))) := same_new hl0
  have hcut : cutV (ns.map V.int) none (some 6) = (ns.take 6).map V.int := by
    unfold cutV
    rw [HT.sIx_none, List.drop_zero, List.map_take]
    by_cases h6 : 6 ≤ ns.length
    · rw [show (6 : Int) = ((6 : Nat) : Int) from rfl, HT.sIx_nat, List.length_map, Nat.min_eq_left h6, Nat.sub_zero]
    · rw [show (6 : Int) = ((6 : Nat) : Int) from rfl, HT.sIx_nat, List.length_map, Nat.min_eq_right (by omega), Nat.sub_zero, List.take_of_length_le (by rw [List.length_map]; omega), List.take_of_length_le (by rw [List.length_map]; omega)]
  rw [hcut] at s0 ⊢
  refine ⟨l, rfl, ⟨_, SqL.of upd_same⟩, for_list (xs := (ns.take 6).map V.int) (fun j σ H' => ∃ m u, σ = [some (.ref a), some (.int (i : Nat)), some (.int m), u, none] ∧ 0 ≤ m ∧ m < 2147479971 ∧ Same (upd H l (.lst ((ns.take 6).map V.int))) H')
    ⟨_, none, rfl, by omega, by omega, Same.refl _⟩ (fun j σ H' _ ⟨_, _, _, _, _, sm⟩ => SqL.of (sm _ _ upd_same)) ?_ ?_⟩
  · rintro j x σ H' hx ⟨m, u, rfl, m0, m1, sm⟩
    rw [List.getElem?_map] at hx
    obtain ⟨y, hy, rfl⟩ := Option.map_eq_some_iff.mp hx
    walk_at "es"
    exact ⟨Int.emod_nonneg _ (by decide), Int.emod_lt_of_pos _ (by decide), sm⟩
  · rintro σ H' ⟨m, u, rfl, m0, m1, sm⟩
    have s1 := s0.trans sm
    have hq' : SqL K H' a (ns.map V.int) := by
      rcases hq with (h | ⟨o, h⟩) | h
      · exact .inl (.inl (s1 _ _ h))
      · exact .inl (.inr ⟨o, s1 _ _ h⟩)
      · exact .inr h
    walk_at "e"
    walk_at "e"
    refine .inl ⟨a, _, rfl, .inl hq', ?_⟩
    refine .inl ⟨_, _, rfl, rfl, _, rfl, ?_⟩
    have fin : ∀ x : Int, ∀ b : Int, ∀ p, H' p = none → Q (.ref p) (upd H' p (.lst [.int x, .int b, .int 0])) := fun x b p hp => k p _ (s1.free hp) (s1.trans (same_new hp)) ⟨x, b, 0, by decide, by decide, upd_same⟩
    have hl2 : (List.map V.int ns).length = ns.length := List.length_map ..
    refine ite2 (fun e1 => ?_) (fun e1 => ?_)
    · have e2 : i < ns.length := by
        have z := of_decide_eq_true e1
        rw [hl2] at z
        omega
      walk_at "e"
      walk_at "e"
      refine .inl ⟨a, _, _, .int ns[i], rfl, rfl, hq', atI_nat (by rw [List.getElem?_map, List.getElem?_eq_getElem e2]; rfl), ?_⟩
      walk_at "e"
      walk_at "e"
      walk_at "e"
      walk_at "e"
      refine ⟨_, _, rfl, rfl, _, rfl, ?_⟩
      refine ite2 (fun e5 => ?_) (fun e5 => ?_) <;> clear e5
      · walk_at "es"
        exact ⟨len_le (n := 3) rfl (by decide), fin _ _⟩
      · walk_at "es"
        exact ⟨len_le (n := 3) rfl (by decide), fin _ _⟩
    · walk_at "e"
      walk_at "e"
      walk_at "e"
      walk_at "e"
      walk_at "e"
      walk_at "e"
      walk_at "e"
      walk_at "e"
      refine ⟨_, _, rfl, rfl, _, rfl, ?_⟩
      refine ite2 (fun e5 => ?_) (fun e5 => ?_) <;> clear e5
      · walk_at "es"
        exact ⟨len_le (n := 3) rfl (by decide), fin _ _⟩
      · walk_at "es"
        exact ⟨len_le (n := 3) rfl (by decide), fin _ _⟩
end
end Cs
set_option maxHeartbeats 4000000
local macro_rules | `(tactic| walk_at "xg") => `(tactic| try dsimp only [Cs.xRet, Cs.xRetN, Cs.xOp, Cs.xUn, Cs.xV, Cs.xB, Cs.xC, Cs.xCall, Cs.xCons, Cs.xNil, Cs.xBi, Cs.xSeq, Cs.xSet, Cs.xSets, Cs.xIfS, Cs.xTest, Cs.xTup, Cs.xLst, Cs.xAndV, Cs.xOrV, Cs.xNotV, Cs.xNot, Cs.xAndT, Cs.xOrT, Cs.xIf, Cs.xSl, Cs.xNoPart, Cs.xPart, Cs.xiL, Cs.xiB, Cs.xiT, Cs.xiR1, Cs.xiR2, Cs.xiS, Cs.xiZ, Cs.xiE, Cs.xgN, Cs.xgT, Cs.xgNil, Cs.xgCons, Cs.xYes, Cs.xDrop, Cs.xApp, Cs.xPopS, Cs.xPopA, Cs.xAsg, Cs.xNext, Cs.xNev, Cs.xChain, Cs.xIsi, Cs.xRaw, Cs.okEnd, Cs.toAV, Cs.setP, Cs.aftP, List.map, List.replicate, List.length_cons, List.length_nil, List.cons_append, List.nil_append, List.set_cons_succ, List.set_cons_zero, Nat.add_sub_cancel, Nat.sub_self, Nat.reduceSub, Nat.reduceAdd, eq_self, ↓reduceIte])
local macro_rules | `(tactic| walk_at "xw") => `(tactic| try dsimp only [Cs.lcTurn, Cs.wipeA, List.set_cons_succ, List.set_cons_zero])
local macro_rules | `(tactic| walk_at "x") => `(tactic| first
  | (with_reducible refine Eq.mpr (if_pos ?_) ?_; exact rfl)
  | (with_reducible refine Eq.mpr (if_neg ?_) ?_; exact Bool.false_ne_true)
  | refine ⟨_, rfl, ?_⟩
  | refine ⟨rfl, ?_⟩
  | refine ⟨_, _, rfl, rfl, True.intro, ?_⟩
  | refine ⟨_, _, _, rfl, rfl, rfl, True.intro, ?_⟩
  | refine ⟨_, rfl, by exact Nat.le_of_ble_eq_true rfl, ?_⟩
  | refine ⟨by exact Nat.le_of_ble_eq_true rfl, ?_⟩
  | refine ⟨_, _, _, _, rfl, rfl, rfl, rfl, ?_⟩
  | refine ⟨_, _, rfl, ?_⟩
  | refine ⟨⟨_, rfl⟩, ?_⟩
  | refine ⟨_, _, rfl, fun _ => rfl, ?_⟩
  | refine ⟨_, 0, rfl, (fun z => (nomatch z)), ?_⟩
  | refine ⟨_, fun _ => rfl, ?_⟩
  | refine ⟨0, (fun z => (nomatch z)), ?_⟩
  | fail "x")
local macro_rules | `(tactic| walk_at "xs") => `(tactic| repeat' (walk_at "xg"; walk_at "x"))
local macro_rules | `(tactic| walk_at "sets") => `(tactic| (intro vs σ H Q hl hq; first
  | exact (match vs, hl, hq with | [_], _, q => ⟨_, _, rfl, rfl, q⟩)
  | exact (match vs, hl, hq with | [_, _], _, q => ⟨_, _, rfl, _, _, rfl, rfl, q⟩)
  | exact (match vs, hl, hq with | [_, _, _], _, q => ⟨_, _, rfl, _, _, rfl, _, _, rfl, rfl, q⟩)
  | fail "sets"))
/-! drawing, over data -/
namespace Cs
open PySem L2 L2H PyProof.Rows
structure TxtSo (mg : Str → Option Value) : Prop where
  sorted_ : mg "sorted" = none
def RScoop : DR := ⟨fun n rs K => ∃ m : Int, rs = [.p, .d (.int m)] ∧ 0 < m ∧ m < 1073741824 ∧ n < 1000000000 ∧ ∀ r : Int, 0 ≤ r → r < m → K (.d (.int r)) (n + 1), fun h ⟨m, e, a, b, c, k⟩ => ⟨m, e, a, b, c, fun r x y => h _ _ (k r x y)⟩⟩
theorem ad_scoop {vs : List V} {H : Hp} {Q : VK} {E : XK} (h : SpD true RScoop vs H Q E) : SpScoop vs H Q E := by
  obtain ⟨p, M, n, rs, pm, ph, ml, hP, ag, m, rfl, a, b, c, k⟩ := h
  cases ag with
  | cons h1 t =>
    cases t with
    | cons h2 t =>
      cases t
      have e1 : _ = V.ref p := h1
      subst e1
      cases h2
      exact ⟨p, m, n, rfl, a, b, hP rfl, c, fun r H' r0 r1 e hp => k r r0 r1 _ H' ⟨e, hp⟩ (.int _)⟩
def RAny : DR := ⟨fun n rs K => ∃ ds : List PyData, rs = [.p, .d (.list ds)] ∧ 1 ≤ ds.length ∧ ds.length ≤ 1000 ∧ n < 1000000000 ∧ ∀ d ∈ ds, K (.d d) (n + 1), fun h ⟨ds, e, a, b, c, k⟩ => ⟨ds, e, a, b, c, fun d x => h _ _ (k d x)⟩⟩
section
variable {P : Program} {w : World} {K : PySem.W.Frag} {mg : Str → Option Value} {base : Heap}
/-- a def over data -/
theorem DefAt.dl {x : Str} {st : Stmt} {N ps : List Str} {k : Nat} {B : Bool} {R : DR} (D : DefAt K mg x st ps) (S : FnScope N ps (defScope st)) (hN : ps.length ≤ N.length) (hR : ∀ n rs K, R.run n rs K → rs.length = ps.length ∧ (B || noP rs) = true)
    (hbody : ∀ (f : Addr) (cdv : Value) (A : Around) (outer : List Env) (s : Shared) (H : Hp) (E : XK), Room k (A.deeper (envOfC x (defScope st) s.heap.objs.size f cdv)) →
      ∃ t, PSs (cxOf CX0 P w K mg base N x (defScope st) f cdv A outer s H E).nox (defBody st) (upS t) ∧ ∀ n rs K, R.run n rs K → t.run (okEnd B K) (rs.map (toAV n) ++ List.replicate (N.length - rs.length) .u)) : C8.Cal P w K mg base (k + 1) x (SpD B R) [] := by
  refine D.cal S (fun vs H Q E h => ?_) fun f cdv A outer s H vs Q E hr h => ?_
  · obtain ⟨p, M, n, rs, _, _, _, _, ag, q⟩ := h
    rw [arg_len ag, (hR _ _ _ q).1]
  obtain ⟨t, h1, h2⟩ := hbody f cdv A outer s H E hr
  refine ⟨_, h1, enter h ?_ (fun n rs K q => (hR n rs K q).2) h2⟩
  obtain ⟨p, M, n, rs, _, _, _, _, ag, q⟩ := h
  rw [arg_len ag, (hR _ _ _ q).1]
  exact hN
theorem DefAt.dlX {x : Str} {st : Stmt} {N ps : List Str} {k : Nat} {B : Bool} {R : DR} (D : DefAt K mg x st ps) (S : FnScope N ps (defScope st)) (hN : ps.length ≤ N.length) (hR : ∀ n rs K, R.run n rs K → rs.length = ps.length ∧ (B || noP rs) = true)
    (hbody : ∀ (f : Addr) (cdv : Value) (A : Around) (outer : List Env) (s : Shared) (H : Hp) (E : XK), Room k (A.deeper (envOfC x (defScope st) s.heap.objs.size f cdv)) →
      ∃ t, PSs (cxOf (L2.CX P w) P w K mg base N x (defScope st) f cdv A outer s H E) (defBody st) (upS t) ∧ ∀ n rs K, R.run n rs K → t.run (okEnd B K) (rs.map (toAV n) ++ List.replicate (N.length - rs.length) .u)) : CalX P w K mg base (k + 1) x (SpD B R) := by
  refine D.calX S (fun vs H Q E h => ?_) fun f cdv A outer s H vs Q E hr h => ?_
  · obtain ⟨p, M, n, rs, _, _, _, _, ag, q⟩ := h
    rw [arg_len ag, (hR _ _ _ q).1]
  obtain ⟨t, h1, h2⟩ := hbody f cdv A outer s H E hr
  refine ⟨_, h1, enter h ?_ (fun n rs K q => (hR n rs K q).2) h2⟩
  obtain ⟨p, M, n, rs, _, _, _, _, ag, q⟩ := h
  rw [arg_len ag, (hR _ _ _ q).1]
  exact hN
theorem sc_any2 : FnScope ["_law_pail_here", "_law_menu"] ["_law_pail_here", "_law_menu"] (defScope (topS 46)) := ⟨rfl, rfl, rfl, by decide +kernel, rfl, by decide +kernel, by decide +kernel⟩
theorem dl__law_any (D : DefAt K mg "_law_any" (topS 46) ["_law_pail_here", "_law_menu"]) (T : Txt mg) (c_law_scoop : C8.Cal P w K mg base 1 "_law_scoop" SpScoop []) : C8.Cal P w K mg base 2 "_law_any" (SpD true RAny) [] := by
  have nd := sc_any2.nd
  refine D.dl sc_any2 (by decide) (by rintro n rs K ⟨_, rfl, _⟩; exact ⟨rfl, rfl⟩) fun f cdv A outer s H E hr => ⟨_, (xss_one (xs_ret (x_op (pe_ix ix_seq (xe_v (pv 1)) (x_call (C8.pe_c c_law_scoop hr (by decide) rfl (xa_cons (xe_v (pv 0)) (xa_cons (x_bi (pe_callB call_lenA (by rfl) T.len_ (by decide +kernel) (xa_cons (xe_v (pv 1)) xa_nil)) bl_len) xa_nil))) (fun _ _ _ => ad_scoop)) (fun _ _ => rfl)) ol_ix))), ?_⟩
  rintro n rs K ⟨ds, rfl, h1, h2, h3, k⟩
  walk_at "xs"
  refine ⟨by omega, by omega, h3, fun r r0 r1 => ?_⟩
  obtain ⟨d, hd, ha⟩ := atI_ok r0 r1
  exact ⟨rfl, _, _, _, rfl, rfl, fIx_l ha, True.intro, rfl, _, fun _ => rfl, k d (List.mem_of_getElem? hd)⟩
end
end Cs
set_option maxHeartbeats 4000000
/-! tables, over data -/
namespace Cs
open PySem L2 L2H PyProof.Rows
/-- a table of these columns, known whole, and rows; a table as data alone -/
def TabI (C : Addr) (cs : List Str) (rs : List Rw) : V → Hp → Prop := fun v H => ∃ t dx vc vr, v = .ref t ∧ H t = some (.ins C dx [("_columns", vc), ("_rows", vr)]) ∧ WhP (cs.map PyData.str) vc H ∧ Dn NF H vr (dRows rs)
def TabJ (C : Addr) (cs : List Str) (rs : List Rw) : V → Hp → Prop := fun v H => ∃ t dx vc vr, v = .ref t ∧ H t = some (.ins C dx [("_columns", vc), ("_rows", vr)]) ∧ Dn NF H vc (dCols cs) ∧ Dn NF H vr (dRows rs)
theorem imm_cols {cs : List Str} : imm (dCols cs) = true := imms_map fun _ _ => rfl
theorem imm_sp {qs : List (Int × Int)} : imm (.tuple (qs.map dSp)) = true := imms_map fun _ _ => rfl
theorem imm_rows {rs : List Rw} : imm (dRows rs) = true := imms_map fun r _ => by
  show (imm (.str r.1) && (imm (.tuple (r.2.map dSp)) && true)) = true
  rw [imm_sp]
  rfl
theorem imm_ws {ws : List Int} : imm (.tuple (ws.map PyData.int)) = true := imms_map fun _ _ => rfl
theorem dn_strs {N : Addr → Prop} {H : Hp} : ∀ {vs : List V} {xs : List Str}, DnA N H vs (xs.map PyData.str) → vs = xs.map V.str
  | _, [], .nil => rfl
  | _, x :: xs, .cons h t => by
    cases h
    rw [dn_strs t]
    rfl
theorem TabI.j {C : Addr} {cs : List Str} {rs : List Rw} {v : V} {H : Hp} (h : TabI C cs rs v H) : TabJ C cs rs v H := by
  obtain ⟨t, dx, vc, vr, e, h1, ⟨l, vs, e2, fz, hl, d⟩, h3⟩ := h
  exact ⟨t, dx, vc, vr, e, h1, by rw [e2]; exact .tup (fun z => z) fz.rd hl d, h3⟩
theorem ins_not {H : Hp} {t C dx : Addr} {fs : List (Str × V)} (h : H t = some (.ins C dx fs)) : ∀ xs, ¬ Rd H t (.tup xs) := fun xs r => by
  rcases r with r | ⟨u, r⟩ <;> (rw [h] at r; cases r)
theorem TabJ.d {C : Addr} {cs : List Str} {rs : List Rw} {v : V} {H : Hp} (h : TabJ C cs rs v H) : ∃ t, v = .ref t ∧ TabD C t H t cs rs ∧ Has t H ∧ ∀ xs, ¬ Rd H t (.tup xs) := by
  obtain ⟨t, dx, vc, vr, e, h1, h2, h3⟩ := h
  exact ⟨t, e, ⟨dx, vc, vr, h1, h2.rpt (ins_not h1) imm_cols, h3.rpt (ins_not h1) imm_rows⟩, ⟨_, h1⟩, ins_not h1⟩
theorem TabI.f {C : Addr} {cs : List Str} {rs : List Rw} {v : V} {H : Hp} (h : TabI C cs rs v H) : ∃ t, v = .ref t ∧ TabD C t H t cs rs ∧ TabF C t H t cs ∧ Has t H ∧ ∀ xs, ¬ Rd H t (.tup xs) := by
  obtain ⟨t, dx, vc, vr, e, h1, ⟨l, vs, e2, fz, hl, d⟩, h3⟩ := h
  have dc : Dn NF H vc (dCols cs) := by rw [e2]; exact .tup (fun z => z) fz.rd hl d
  have rc := dc.rpt (ins_not h1) imm_cols
  refine ⟨t, e, ⟨dx, vc, vr, h1, rc, h3.rpt (ins_not h1) imm_rows⟩, ⟨dx, vc, vr, h1, l, e2, fun z => ins_not h1 vs (z ▸ fz.rd), ?_, rc⟩, ⟨_, h1⟩, ins_not h1⟩
  rw [← dn_strs d]
  exact fz
/-- a table just made stays one -/
theorem TabJ.stb {C : Addr} {cs : List Str} {rs : List Rw} {v : V} {H : Hp} {M : Addr → Prop} {p : Addr} (ml : ∀ a, M a → a = p ∨ Ls H a) (hp : ∃ o, H p = some (.lst o)) (h : TabJ C cs rs v H) : Stb M H (TabJ C cs rs) v := fun H' k => by
  obtain ⟨t, dx, vc, vr, e, h1, h2, h3⟩ := h
  have nt := no_tup ml (not_tup hp)
  have nM : ¬ M t := fun m => by
    rcases ml t m with rfl | ⟨xs, q⟩ | ⟨xs, q⟩
    · obtain ⟨o, q⟩ := hp
      rw [h1] at q
      cases q
    · rw [h1] at q
      cases q
    · rw [h1] at q
      cases q
  have go : ∀ {v : V} {d : PyData}, imm d = true → Dn NF H v d → Dn NF H' v d := fun i d => (Dn.go (N := M) (N' := M) ⟨fun _ h => .inl h, k⟩ (d.imm nt i)).imm (fun _ _ _ z => z) i
  exact ⟨t, dx, vc, vr, e, k _ _ nM h1, go imm_cols h2, go imm_rows h3⟩
theorem TabI.stb {C : Addr} {cs : List Str} {rs : List Rw} {v : V} {H : Hp} {M : Addr → Prop} {p : Addr} (ml : ∀ a, M a → a = p ∨ Ls H a) (hp : ∃ o, H p = some (.lst o)) (h : TabI C cs rs v H) : Stb M H (TabI C cs rs) v := fun H' k => by
  obtain ⟨t, dx, vc, vr, e, h1, h2, h3⟩ := TabJ.stb ml hp h.j H' k
  obtain ⟨t', dx', vc', vr', e', h1', ⟨l, vs, e2, fz, hl, d⟩, h3'⟩ := h
  rw [e] at e'
  cases e'
  have nM : ¬ M t := fun m => by
    rcases ml t m with rfl | ⟨xs, q⟩ | ⟨xs, q⟩
    · obtain ⟨o, q⟩ := hp
      rw [h1'] at q
      cases q
    · rw [h1'] at q
      cases q
    · rw [h1'] at q
      cases q
  have q := k _ _ nM h1'
  rw [h1] at q
  cases q
  subst e2
  have nl := no_tup ml (not_tup hp) l vs fz.rd
  refine ⟨t, dx, _, vr, e, h1, ⟨l, vs, rfl, fz.keep fun o h => k _ _ nl h, hl, ?_⟩, h3⟩
  cases h2 with
  | tup n h z r =>
    obtain ⟨o, eo, _⟩ := fz
    have q := k _ _ nl eo
    rcases h with h | ⟨u, h⟩
    · rw [q] at h; cases h
    · rw [q] at h; cases h; exact r
theorem TabI.ins {C : Addr} {cs : List Str} {rs : List Rw} {m : Str} (hm : ([("_columns", ()), ("_rows", ())] : List (Str × Unit)).lookup m = none) : InsM C m (TabI C cs rs) := fun v H ⟨t, dx, vc, vr, e, h1, _⟩ => ⟨t, dx, _, e, h1, by
  simp only [List.lookup] at hm ⊢
  split at hm <;> first | cases hm | skip
  split at hm <;> first | cases hm | skip
  rename_i z1 _ z2
  simp only [z1, z2]⟩
/-! ### Table(heads, lines) -/
def xTab (C : Addr) (a : XA) : XE := ⟨fun ε K => a.run ε fun rs ε1 => ∃ cs rows, kas rs = some [.o (WhP (cs.map PyData.str)), .d (dRows rows)] ∧ Good cs rows ∧ K (.o (TabI C cs rows)) ε1, fun h q => a.mono (fun _ _ ⟨cs, rows, e, g, k⟩ => ⟨cs, rows, e, g, h _ _ k⟩) q⟩
theorem x_tab {X : Cx} {Ex : Expr} {C : Addr} {a : XA} {E : XK} (h : PE X Ex (tMake C (SpTO C) [] E (upA a))) : PE X Ex (up (xTab C a)) :=
  pe_wk h fun σ H Q ⟨Γ, ε, T, R0, k⟩ => upA1 R0 k fun rs vs ε1 T1 H1 ⟨cs, rows, e, g, kk⟩ R1 s1 d1 => fun x dx hx hd hne => by
    have ag := kas_arg R0 R1 s1 d1 e
    have R2 := R1.less (T' := T) s1.t
    cases ag with
    | @cons _ vc _ _ h1 t =>
      cases t with
      | @cons _ vr _ _ h2 t =>
        cases t
        have h1 : Stb (Mx Γ ε1 T σ) H1 (WhP (cs.map PyData.str)) vc := h1
        have h2 : Dn (Mx Γ ε1 T σ) H1 vr (dRows rows) := h2
        obtain ⟨l, vs, e2, fz, hl, d⟩ := h1.now
        subst e2
        have s : Same H1 (upd (upd H1 dx (.own x)) x (.ins C dx [])) := fun b o hb => by
          rw [upd_ne (ne_of_none hb hx), upd_ne (ne_of_none hb hd)]
          exact hb
        have hdx : upd (upd H1 dx (.own x)) x (.ins C dx []) dx = some (.own x) := by rw [upd_ne hne, upd_same]
        have nd : ∀ xs, ¬ Rd (upd (upd H1 dx (.own x)) x (.ins C dx [])) dx (.tup xs) := fun xs r => by
          rcases r with r | ⟨u, r⟩ <;> (rw [hdx] at r; cases r)
        have dc : Dn NF H1 (.ref l) (dCols cs) := .tup (fun z => z) fz.rd hl d
        have dr : Dn NF H1 vr (dRows rows) := h2.imm (fun _ _ _ z => z) imm_rows
        refine ⟨dx, x, dx, _, vr, cs, rows, rfl, upd_same, fun z => hne z.symm, (dc.go (Fit2.same s)).rpt nd imm_cols, (dr.go (Fit2.same s)).rpt nd imm_rows, g, fun H2 ex ea => ⟨rfl, ?_⟩⟩
        have s2 : Same H1 H2 := fun b o hb => ex b o (ne_of_none hb hx) (s _ _ hb)
        have R3 := R2.same s2
        exact kk _ T H2 R3 (s1.drop.same s2) (TabI.stb R3.lists R3.hp ⟨x, dx, _, vr, rfl, ea, ⟨l, vs, rfl, fz.keep fun o h => s2 _ _ h, hl, d.go (Fit2.same s2)⟩, dr.go (Fit2.same s2)⟩)
/-! ### what the program's functions promise -/
structure Bk (p : Addr) (M : Addr → Prop) (H H' : Hp) : Prop where
  nt : ∀ a xs, Rd H' a (.tup xs) → ¬ M a
theorem back {p : Addr} {M : Addr → Prop} {H H' : Hp} (ml : ∀ a, M a → a = p ∨ Ls H a) (hp : ∃ o, H p = some (.lst o)) (s : Same H H') : ∀ a xs, Rd H' a (.tup xs) → ¬ M a :=
  no_tup (fun a h => (ml a h).imp id fun e => e.keep s) (not_tup (hp.imp fun _ e => s _ _ e))
theorem arg2 {p : Addr} {M : Addr → Prop} {H : Hp} {r s : RV} {vs : List V} (h : ArgA p M H [r, s] vs) : ∃ v w, vs = [v, w] ∧ ArgR p M H r v ∧ ArgR p M H s w := by
  cases h with
  | cons h t =>
    cases t with
    | cons h2 t => cases t; exact ⟨_, _, rfl, h, h2⟩
theorem arg3 {p : Addr} {M : Addr → Prop} {H : Hp} {r s q : RV} {vs : List V} (h : ArgA p M H [r, s, q] vs) : ∃ v w u, vs = [v, w, u] ∧ ArgR p M H r v ∧ ArgR p M H s w ∧ ArgR p M H q u := by
  cases h with
  | cons h t =>
    obtain ⟨v, w, rfl, h1, h2⟩ := arg2 t
    exact ⟨_, _, _, rfl, h, h1, h2⟩
theorem arg4 {p : Addr} {M : Addr → Prop} {H : Hp} {r s q o : RV} {vs : List V} (h : ArgA p M H [r, s, q, o] vs) : ∃ v w u x, vs = [v, w, u, x] ∧ ArgR p M H r v ∧ ArgR p M H s w ∧ ArgR p M H q u ∧ ArgR p M H o x := by
  cases h with
  | cons h t =>
    obtain ⟨v, w, u, rfl, h1, h2, h3⟩ := arg3 t
    exact ⟨_, _, _, _, rfl, h, h1, h2, h3⟩
theorem arg1 {p : Addr} {M : Addr → Prop} {H : Hp} {r : RV} {vs : List V} (h : ArgA p M H [r] vs) : ∃ v, vs = [v] ∧ ArgR p M H r v := by
  cases h with
  | cons h t => cases t; exact ⟨_, rfl, h⟩
def RCols (C : Addr) : DR := ⟨fun _ as K => ∃ (P : V → Hp → Prop) (cs : List Str) (rs : List Rw), as = [.o P] ∧ (∀ v H, P v H → TabJ C cs rs v H) ∧ K (.d (dCols cs)) 0, fun h ⟨P, cs, rs, e, a, k⟩ => ⟨P, cs, rs, e, a, h _ _ k⟩⟩
theorem ad_cols {C : Addr} {vs : List V} {H : Hp} {Q : VK} {E : XK} (h : SpD false (RCols C) vs H Q E) : SpGet C "_columns" vs H Q E := by
  obtain ⟨p, M, n, as, pm, ph, ml, _, ag, P, cs, rs, rfl, hP, k⟩ := h
  obtain ⟨v, rfl, h1⟩ := arg1 ag
  have h1 : Stb M H P v := h1
  obtain ⟨t, dx, vc, vr, rfl, h2, h3, h4⟩ := hP _ _ h1.now
  exact ⟨t, dx, _, vc, rfl, h2, rfl, k vc H (Same.refl _) (h3.imm (no_tup ml (not_tup ph)) imm_cols)⟩
/-! ### what is drawn of tables -/
def RHeads : DR := ⟨fun n as K => ∃ mo : Nat, as = [.p, .d (.int (mo : Nat))] ∧ 1 ≤ mo ∧ mo ≤ 4 ∧ n < 1000000 ∧ ∀ cs : List Str, 1 ≤ cs.length → cs.length ≤ mo → cs.Nodup → (∀ x ∈ cs, x ∈ menuAll) → K (.o (WhP (cs.map PyData.str))) (n + 5),
  fun h ⟨mo, e, a, b, c, k⟩ => ⟨mo, e, a, b, c, fun cs x y z w => h _ _ (k cs x y z w)⟩⟩
theorem fz_stb {M : Addr → Prop} {H : Hp} {l : Addr} {xs : List Str} (nt : ∀ a xs, Rd H a (.tup xs) → ¬ M a) (fz : Fz H l (xs.map V.str)) (hl : xs.length ≤ 1000) (hs : ∀ x ∈ xs, x.length ≤ 1000) : Stb M H (WhP (xs.map PyData.str)) (.ref l) := fun H' k => by
  refine ⟨l, _, rfl, fz.keep fun o h => k _ _ (nt l _ fz.rd) h, by rw [List.length_map]; exact hl, ?_⟩
  clear fz hl
  induction xs with
  | nil => exact .nil
  | cons x xs ih => exact .cons (.str x (hs x List.mem_cons_self)) (ih fun y hy => hs y (List.mem_cons_of_mem _ hy))
/-! ### tuple(list), known whole -/
theorem whp_stb {M : Addr → Prop} {H : Hp} {v : V} {ds : List PyData} (nt : ∀ a xs, Rd H a (.tup xs) → ¬ M a) (h : WhP ds v H) (i : imms ds = true) : Stb M H (WhP ds) v := fun H' k => by
  obtain ⟨l, vs, rfl, fz, hl, d⟩ := h
  exact ⟨l, vs, rfl, fz.keep fun o h => k _ _ (nt l _ fz.rd) h, hl, (DnA.go (N := M) (N' := M) ⟨fun _ h => .inl h, k⟩ (d.imm nt i)).imm (fun _ _ _ z => z) i⟩
def xTupW (a : XA) : XE := ⟨fun ε K => a.run ε fun rs ε1 => ∃ ds, sees rs = some [.list ds] ∧ imms ds = true ∧ K (.o (WhP ds)) ε1, fun h q => a.mono (fun _ _ ⟨ds, e, i, k⟩ => ⟨ds, e, i, h _ _ k⟩) q⟩
theorem x_tupW {X : Cx} {Ex : Expr} {a : XA} (h : PE X Ex (tCB (fun xs H Q => ∃ p ys, xs = [.ref p] ∧ ((SqL X.K H p ys ∧ ∀ l H', H l = none → Same H H' → Fz H' l ys → Q (.ref l) H') ∨ (SqT X.K H p ys ∧ Q (.ref p) H))) (upA a))) : PE X Ex (up (xTupW a)) :=
  pe_wk h fun σ H Q ⟨Γ, ε, T, R, k⟩ => upA1 R k fun rs xs ε1 T1 H1 ⟨ds, e1, i, g⟩ R1 s1 d1 => by
    obtain ⟨v, rfl, h⟩ := see1 (d1.see e1)
    obtain ⟨b, ws, rfl, h1, h2, h3⟩ := h.list
    refine ⟨b, ws, rfl, .inl ⟨SqL.of h1, fun l H2 hl s2 fz => ?_⟩⟩
    have R2 := R1.same s2
    exact g _ T1 H2 R2 (s1.same s2) (whp_stb (no_tup R2.lists (not_tup R2.hp)) ⟨l, ws, rfl, fz, h2, (h3.imm (fun _ _ _ z => z) i).go (Fit2.same s2)⟩ i)
end Cs
set_option maxHeartbeats 4000000
local macro_rules | `(tactic| walk_at "pd") => `(tactic| repeat' first
  | exact Nat.le_of_ble_eq_true rfl
  | rfl
  | (apply Cs.x_var; (focus rfl); first | exact Cs.Rp.int _ | walk_at "rp")
  | apply Cs.x_tup
  | apply Cs.x_lst
  | apply Cs.x_cons
  | apply Cs.x_neg
  | exact Cs.x_add
  | exact Cs.x_sub
  | apply Cs.x_cat
  | apply Cs.x_catT
  | apply Cs.x_rep
  | apply Cs.x_bin
  | apply Cs.x_sl (C := PyData.tuple)
  | apply Cs.x_sl (C := PyData.list)
  | apply Cs.x_po
  | apply Cs.x_ix
  | apply Cs.x_list
  | apply Cs.x_str
  | fail "pd")
namespace Cs
open PySem L2 PyProof.Rows
def SpStretch : Sp := fun vs H Q _ => ∃ (p : Addr) (n : Nat), vs = [.ref p] ∧ PailAt H p n ∧ n < 1000000 ∧
  ∀ (v : V) (d : PyData) (H' : Hp), isSpan (-10000) 10000 d = true → RpT p H' v d → ExB p H H' → PailAt H' p (n + 3) → Q v H'
section
variable {P : Program} {w : World} {K : PySem.W.Frag} {mg : Str → Option Value} {base : Heap}
theorem sc__law_stretch : FnScope ["_law_pail_here", "_law_low"] ["_law_pail_here"] (defScope (topS 47)) := ⟨rfl, rfl, rfl, by decide +kernel, rfl, by decide +kernel, by decide +kernel⟩
theorem ok__law_stretch (D : DefAt K mg "_law_stretch" (topS 47) ["_law_pail_here"]) (T : Txt mg) (c_law_scoop : C8.Cal P w K mg base 1 "_law_scoop" SpScoop []) (c_law_any : C8.Cal P w K mg base 2 "_law_any" SpAny []) :
    C8.Cal P w K mg base 3 "_law_stretch" SpStretch [] := by
  refine D.cal sc__law_stretch (fun vs H Q E h => by obtain ⟨p, n, rfl, _⟩ := h; rfl) fun f cdv A outer s H vs Q E hr h => ?_
  obtain ⟨p, n, rfl, hp, hn, k⟩ := h
  have nd := sc__law_stretch.nd
  have hu64 := hr.units
  refine ⟨_, (pss_cons (ps_set (i := 1) nd rfl (.inl rfl) (pe_op op_sub (C8.pe_c c_law_scoop hr (by decide) rfl (pa_cons (pv 0) (pa_cons pe_int pa_nil))) pe_int))
      (pss_cons (ps_if (pt_cmpR (opEq hu64) (C8.pe_c c_law_scoop hr (by decide) rfl (pa_cons (pv 0) (pa_cons pe_int pa_nil))) pe_int (nomark _)) (pss_one (ps_ret (C8.pe_c c_law_any hr (by decide) rfl (pa_cons (pv 0) (pa_cons (PD.pe (p := p) (pd_lst' (pds_cons (pd_tup (pds_cons (pd_neg (pd_c pe_int (fun _ => .int _))) (pds_cons (pd_c pe_int (fun _ => .int _)) pds_nil))) (pds_cons (pd_tup (pds_cons (pd_neg (pd_c pe_int (fun _ => .int _))) (pds_cons (pd_neg (pd_c pe_int (fun _ => .int _))) pds_nil))) (pds_cons (pd_tup (pds_cons (pd_c pe_int (fun _ => .int _)) (pds_cons (pd_c pe_int (fun _ => .int _)) pds_nil))) (pds_cons (pd_tup (pds_cons (pd_var (i := 1) (pv 1) (fun _ _ _ h => h)) (pds_cons (pd_c pe_int (fun _ => .int _)) pds_nil))) (pds_cons (pd_tup (pds_cons (pd_neg (pd_c pe_int (fun _ => .int _))) (pds_cons (pd_var (i := 1) (pv 1) (fun _ _ _ h => h)) pds_nil))) pds_nil))))))) pa_nil))))) pss_nil)
      (pss_one (ps_ret (pe_tup (pa_cons (pv 1) (pa_cons (pe_op opAdd (pv 1) (C8.pe_c c_law_any hr (by decide) rfl (pa_cons (pv 0) (pa_cons (PD.pe (p := p) (pd_lst' (pds_cons (pd_c pe_int (fun _ => .int _)) (pds_cons (pd_c pe_int (fun _ => .int _)) (pds_cons (pd_c pe_int (fun _ => .int _)) (pds_cons (pd_c pe_int (fun _ => .int _)) (pds_cons (pd_c pe_int (fun _ => .int _)) (pds_cons (pd_c pe_int (fun _ => .int _)) pds_nil)))))))) pa_nil)))) pa_nil))))))), ?_⟩
  walk_at "e"
  refine ⟨p, 15, n, rfl, by decide, by decide, hp, by omega, fun r H1 r0 r1 e1 hp1 => ?_⟩
  walk_at "es"
  refine ⟨p, 12, n + 1, rfl, by decide, by decide, hp1, by omega, fun r' H2 r0' r1' e2 hp2 => ?_⟩
  refine .inl ⟨rfl, _, rfl, ?_⟩
  have lo0 : -7 ≤ r - 7 := by omega
  have lo1 : r - 7 ≤ 7 := by omega
  refine ite2 (fun _ => ?_) (fun _ => ?_)
  · walk_at "e"
    apply tdat hp2.has
    · walk_at "pd"
    intro v H3 s3 r3
    refine ⟨p, v, _, n + 2, rfl, r3, (by exact Nat.le_of_ble_eq_true rfl), hp2.keep s3, by omega, fun u d H4 hd rd e4 hp4 => ?_⟩
    have hs : isSpan (-10000) 10000 d = true := by
      simp only [List.mem_cons, List.not_mem_nil, or_false] at hd
      rcases hd with rfl | rfl | rfl | rfl | rfl <;> simp only [isSpan, Bool.and_eq_true, decide_eq_true_eq] <;> omega
    exact k u d H4 hs (span_t hs rd) (e1.trans (e2.trans ((ExB.of s3).trans e4))) hp4
  · walk_at "e"
    walk_at "e"
    walk_at "e"
    apply tdat hp2.has
    · walk_at "pd"
    intro v H3 s3 r3
    refine ⟨p, v, _, n + 2, rfl, r3, (by exact Nat.le_of_ble_eq_true rfl), hp2.keep s3, by omega, fun u d H4 hd rd e4 hp4 => ?_⟩
    have hj : ∃ j : Int, d = .int j ∧ 0 ≤ j ∧ j ≤ 9 := by
      simp only [List.mem_cons, List.not_mem_nil, or_false] at hd
      rcases hd with rfl | rfl | rfl | rfl | rfl | rfl <;> exact ⟨_, rfl, by decide, by decide⟩
    obtain ⟨j, rfl, j0, j1⟩ := hj
    rw [rd.int_inv]
    refine .inl ⟨_, _, rfl, rfl, ?_⟩
    refine ⟨len_le (n := 2) rfl (by decide), fun t ht => ?_⟩
    have e5 : ExB p H H4 := e1.trans (e2.trans ((ExB.of s3).trans e4))
    refine k (.ref t) (.tuple [.int (r - 7), .int (r - 7 + j)]) _ ?_ (.tup (hp4.has.ne ht) (.inl upd_same) (by exact Nat.le_of_ble_eq_true rfl) (.cons (.int _) (.cons (.int _) .nil))) (e5.trans (ExB.new ht)) (hp4.keep (same_new ht))
    simp only [isSpan, Bool.and_eq_true, decide_eq_true_eq]
    omega
end
end Cs
set_option maxHeartbeats 4000000
namespace Cs
open PySem L2 PyProof.Rows
def SpHeads : Sp := fun vs H Q _ => ∃ (p : Addr) (n mo : Nat), vs = [.ref p, .int (mo : Nat)] ∧ 1 ≤ mo ∧ mo ≤ 4 ∧ PailAt H p n ∧ n < 1000000 ∧
  ∀ (v : V) (names : List Str) (H' : Hp), 1 ≤ names.length → names.length ≤ mo → names.Nodup → (∀ x ∈ names, x ∈ menuAll) → NmT p H' v names → ExB p H H' → PailAt H' p (n + 5) → Q v H'
section
variable {P : Program} {w : World} {K : PySem.W.Frag} {mg : Str → Option Value} {base : Heap}
theorem sc__law_heads : FnScope ["_law_pail_here", "_law_most", "_law_found", "_law_left", "_law_k"] ["_law_pail_here", "_law_most"] (defScope (topS 48)) := ⟨rfl, rfl, rfl, by decide +kernel, rfl, by decide +kernel, by decide +kernel⟩
theorem ok__law_heads (D : DefAt K mg "_law_heads" (topS 48) ["_law_pail_here", "_law_most"]) (T : Txt mg) (c_law_scoop : C8.Cal P w K mg base 1 "_law_scoop" SpScoop []) : C8.Cal P w K mg base 2 "_law_heads" SpHeads [] := by
  refine D.cal sc__law_heads (fun vs H Q E h => by obtain ⟨p, n, mo, rfl, _⟩ := h; rfl) fun f cdv A outer s H vs Q E hr h => ?_
  obtain ⟨p, n, mo, rfl, hm1, hm4, hp, hn, k⟩ := h
  have nd := sc__law_heads.nd
  refine ⟨_, (pss_cons (ps_par (i := 2) (j := 3) (by rfl) nd rfl rfl (by decide) rfl rfl (pa_cons (pe_lst pa_nil) (pa_cons (pe_lst (pa_cons pe_str (pa_cons pe_str (pa_cons pe_str (pa_cons pe_str (pa_cons pe_str (pa_cons pe_str pa_nil))))))) pa_nil)) (by rfl))
      (pss_cons (ps_for PassesOwn.never rfl (pi_range1 rfl T.range_ (pa_cons (pe_op opAdd pe_int (C8.pe_c c_law_scoop hr (by decide) rfl (pa_cons (pv 0) (pa_cons (pv 1) pa_nil)))) pa_nil)) (pg_name (i := 4) nd rfl (.inl rfl)) (pss_one (ps_expr (pe_bm PySem.F.plainAttrs_list PySem.F.slot_list_append PySem.F.type_list_append mt_append (pv 2) (pa_cons (pe_bm PySem.F.plainAttrs_list PySem.F.slot_list_pop PySem.F.type_list_pop mt_popAt (pv 3) (pa_cons (C8.pe_c c_law_scoop hr (by decide) rfl (pa_cons (pv 0) (pa_cons (pe_callB call_lenA (by rfl) T.len_ (by decide +kernel) (pa_cons (pv 3) pa_nil)) pa_nil))) pa_nil)) pa_nil)))))
      (pss_one (ps_ret (pe_callTy call_tupF (by rfl) T.tuple_ (by decide +kernel) (pa_cons (pv 2) pa_nil)))))), ?_⟩
  refine ⟨Nat.zero_le _, fun lF hF => ?_⟩
  have pF := hp.keep (same_new (o := .lst []) hF)
  refine ⟨len_le (n := 6) rfl (by decide), fun lL hL => ?_⟩
  walk_at "e"
  walk_at "e"
  walk_at "e"
  refine ⟨p, (mo : Nat), n, rfl, by omega, by omega, (pF.keep (same_new hL)), by omega, fun r H1 r0 r1 e1 hp1 => ?_⟩
  refine .inl ⟨_, _, rfl, rfl, ?_⟩
  refine ⟨_, rfl, by omega, by omega, ?_⟩
  have nF : lF ≠ p := hp.has.ne hF
  have nL : lL ≠ p := pF.has.ne hL
  have hL' : H lL = none := upd_new hL
  have nFL : lF ≠ lL := fun z => by
    rw [← z, upd_same] at hL
    cases hL
  have e0 : ExB p H H1 := ((ExB.new hF).trans (ExB.new hL)).trans e1
  refine for_range (fun i σ H' => ∃ u names rest, σ = [some (.ref p), some (.int (mo : Nat)), some (.ref lF), some (.ref lL), u] ∧ ExB p H H' ∧ PailAt H' p (n + 1 + i) ∧ H' lF = some (.lst (names.map V.str)) ∧ H' lL = some (.lst (rest.map V.str)) ∧ names.length = i ∧ Pool 6 names rest)
    ⟨none, [], ["dry", "wet", "a", "z", "sweetest", "none"], rfl, e0, hp1, e1 _ _ nF (by rw [upd_ne nFL]; exact upd_same), e1 _ _ nL upd_same, rfl, ⟨rfl, by decide, by decide⟩⟩ ?_ ?_
  · rintro i σ H' hi ⟨u, names, rest, rfl, eb, hp', hf, hl, hlen, hP⟩
    walk_at "e"
    refine ⟨.inl ⟨rfl, _, SqL.of hf⟩, ?_⟩
    walk_at "e"
    refine ⟨.inl ⟨rfl, _, SqL.of hl⟩, ?_⟩
    walk_at "e"
    walk_at "e"
    refine .inl ⟨lL, _, rfl, .inl (SqL.of hl), ?_⟩
    have hP' := hP.len
    have zr : (rest.map V.str).length = rest.length := List.length_map ..
    refine ⟨p, ((rest.map V.str).length : Nat), n + 1 + i, rfl, by omega, by omega, hp', by omega, fun r' H2 r0' r1' e2 hp2 => ?_⟩
    obtain ⟨j, rfl⟩ : ∃ j : Nat, r' = (j : Nat) := ⟨r'.toNat, by omega⟩
    have hj : j < rest.length := by omega
    have gj : rest[j]? = some rest[j] := List.getElem?_eq_getElem hj
    refine ⟨lL, rest.map V.str, _, j, .str rest[j], rfl, rfl, e2 _ _ nL hl, by omega, by omega, ixn (by omega), by rw [List.getElem?_map, gj]; rfl, ?_⟩
    refine ⟨lF, names.map V.str, _, rfl, rfl, by rw [upd_ne nFL]; exact e2 _ _ nF hf, ?_, ?_⟩
    · rw [List.length_map, hlen]
      exact Nat.lt_of_lt_of_le (by omega : i < 1000) (by decide)
    · have hPs := hP.step gj
      refine ⟨_, names ++ [rest[j]], rest.eraseIdx j, rfl, ((eb.trans e2).putN hL').putN hF, ?_, ?_, ?_, by rw [List.length_append, hlen]; rfl, hPs⟩
      · obtain ⟨a, b, c, c0, c1, c2⟩ := hp2
        exact ⟨a, b, c, c0, by omega, by rw [upd_ne nF.symm, upd_ne nL.symm]; exact c2⟩
      · rw [upd_same, List.map_append]
        rfl
      · rw [upd_ne nFL.symm, upd_same, erase_map]
  · rintro σ H' ⟨u, names, rest, rfl, eb, hp', hf, hl, hlen, hP⟩
    walk_at "e"
    refine ⟨lF, _, rfl, .inl ⟨SqL.of hf, fun t H2 ht s2 fz => ?_⟩⟩
    have hnm : ∀ x ∈ names, x ∈ menuAll := fun x hx => hP.nm x (List.mem_append_left _ hx)
    have z : (names.map V.str).length ≤ 1000 := by
      rw [List.length_map]
      omega
    refine k (.ref t) names _ (by omega) (by omega) (List.nodup_append.mp hP.nd).1 hnm ⟨t, rfl, hp'.has.ne ht, fz, .tup (hp'.has.ne ht) fz.rd z (rp_names fun x hx => menu_name (hnm x hx))⟩ (eb.trans (ExB.of s2)) ((hp'.keep s2).more (by omega))
end
end Cs
set_option maxHeartbeats 4000000
namespace Cs
open PySem L2 PyProof.Rows
theorem lc_spans {p : Addr} {n m g : Nat} {tl : TA} {te : TE} {vs : List Nat} {σ : L2.St} {H1 : Hp} {Q : VK} (hp : PailAt H1 p n) (hn : n + 3 * m < 1000000) (hm : m ≤ 8)
    (hw : ∀ x, wipe ((wipe σ vs).set g (some x)) vs = wipe σ vs) (ht : ∀ R, R [.int (m : Nat)] H1 → tl σ H1 R)
    (hs : ∀ (x : V) (H : Hp) (R : VK) (q : Nat), PailAt H p q → q < 1000000 → (∀ (v : V) (d : PyData) (H' : Hp), isSpan (-10000) 10000 d = true → RpT p H' v d → ExB p H H' → PailAt H' p (q + 3) → R v H') → te ((wipe σ vs).set g (some x)) H R)
    (k : ∀ D xs ds H', H1 D = none → H' D = some (.lst xs) → RpTA p H' xs ds → ds.length = m → (∀ d ∈ ds, isSpan (-10000) 10000 d = true) → ExB p H1 H' → PailAt H' p (n + 3 * m) → Q (.ref D) H') :
    tLc (iRng1 tl) (gName g) tYes te vs σ H1 Q := by
  refine ht _ ⟨_, rfl, by omega, by omega, fun D hD => ?_⟩
  have nD : D ≠ p := hp.has.ne hD
  refine lc_range (fun i H => ∃ xs ds, H D = some (.lst xs) ∧ RpTA p H xs ds ∧ ds.length = i ∧ (∀ d ∈ ds, isSpan (-10000) 10000 d = true) ∧ ExB p H1 H ∧ PailAt H p (n + 3 * i))
    ⟨[], [], upd_same, .nil, rfl, (fun _ h => by cases h), ExB.new hD, hp.put nD⟩ (fun i H hi ⟨xs, ds, h1, h2, h3, h4, h5, h6⟩ => ?_) (fun H ⟨xs, ds, h1, h2, h3, h4, h5, h6⟩ => k D xs ds H hD h1 h2 h3 h4 h5 h6)
  · refine ⟨hw _, ?_⟩
    have hi2 : i < m := hi
    refine hs _ H _ (n + 3 * i) h6 (by omega) fun v d H' s1 s2 s3 s4 => ?_
    have lx := h2.length
    have hD' := s3 D _ nD h1
    refine ⟨xs, hD', Nat.lt_of_lt_of_le (by omega : xs.length < 1000) (by decide), xs ++ [v], ds ++ [d], upd_same, ?_, by rw [List.length_append, h3]; rfl, fun d' hd' => ?_, (h5.trans s3).putN hD, ?_⟩
    · exact RpTA.append ((h2.keep (ExT.of s3)).keep (ExT.put hD')) (.cons (s2.keep (ExT.put hD')) .nil)
    · rcases List.mem_append.mp hd' with h | h
      · exact h4 d' h
      · rw [List.mem_singleton.mp h]
        exact s1
    · exact (s4.more (by omega)).put nD
/-- rows with these names, stretches for so many columns -/
def lineOk (m : Nat) (d : PyData) (x : Str) : Prop := ∃ ss, d = .tuple [.str x, .tuple ss] ∧ ss.length = m ∧ ∀ s ∈ ss, isSpan (-10000) 10000 s = true
inductive Lines (m : Nat) : List PyData → List Str → Prop
  | nil : Lines m [] []
  | snoc {ds : List PyData} {xs : List Str} {d : PyData} {x : Str} (h : Lines m ds xs) (l : lineOk m d x) : Lines m (ds ++ [d]) (xs ++ [x])
theorem Lines.len {m : Nat} {ds : List PyData} {xs : List Str} (h : Lines m ds xs) : ds.length = xs.length := by
  induction h with
  | nil => rfl
  | snoc h l ih => rw [List.length_append, List.length_append, ih]; rfl
theorem pool_perm {names rest : List Str} {k : Nat} {y : Str} (e : rest[k]? = some y) : (names ++ [y] ++ rest.eraseIdx k).Perm (names ++ rest) := by
  rw [List.append_assoc]
  exact (erase_perm e).append_left names
def SpLines : Sp := fun vs H Q _ => ∃ (p : Addr) (n m mo : Nat), vs = [.ref p, .int (m : Nat), .int (mo : Nat)] ∧ m ≤ 4 ∧ 1 ≤ mo ∧ mo ≤ 8 ∧ PailAt H p n ∧ n < 900000 ∧
  ∀ (v : V) (ds : List PyData) (names : List Str) (H' : Hp), 1 ≤ names.length → names.length ≤ mo → names.Nodup → (∀ x ∈ names, x ∈ menuAll) → (∀ x ∈ names, x ≠ "renamed") → Lines m ds names → RpT p H' v (.tuple ds) → ExB p H H' → PailAt H' p (n + 120) → Q v H'
section
variable {P : Program} {w : World} {K : PySem.W.Frag} {mg : Str → Option Value} {base : Heap}
theorem sc__law_lines : FnScope ["_law_pail_here", "_law_many", "_law_most", "_law_found", "_law_left", "_law_k", "_law_name_here", "_law_j"] ["_law_pail_here", "_law_many", "_law_most"] (defScope (topS 49)) := ⟨rfl, rfl, rfl, by decide +kernel, rfl, by decide +kernel, by decide +kernel⟩
theorem ok__law_lines (D : DefAt K mg "_law_lines" (topS 49) ["_law_pail_here", "_law_many", "_law_most"]) (T : Txt mg) (c_law_scoop : C8.Cal P w K mg base 1 "_law_scoop" SpScoop []) (c_law_stretch : C8.Cal P w K mg base 3 "_law_stretch" SpStretch []) :
    C8.Cal P w K mg base 4 "_law_lines" SpLines [] := by
  refine D.cal sc__law_lines (fun vs H Q E h => by obtain ⟨p, n, m, mo, rfl, _⟩ := h; rfl) fun f cdv A outer s H vs Q E hr h => ?_
  obtain ⟨p, n, m, mo, rfl, hm, hm1, hm8, hp, hn, k⟩ := h
  have nd := sc__law_lines.nd
  refine ⟨_, (pss_cons (ps_par (i := 3) (j := 4) (by rfl) nd rfl rfl (by decide) rfl rfl (pa_cons (pe_lst pa_nil) (pa_cons (pe_lst (pa_cons pe_str (pa_cons pe_str (pa_cons pe_str (pa_cons pe_str (pa_cons pe_str (pa_cons pe_str (pa_cons pe_str (pa_cons pe_str (pa_cons pe_str pa_nil)))))))))) pa_nil)) (by rfl))
      (pss_cons (ps_for PassesOwn.never rfl (pi_range1 rfl T.range_ (pa_cons (pe_op opAdd pe_int (C8.pe_c c_law_scoop hr (by decide) rfl (pa_cons (pv 0) (pa_cons (pv 2) pa_nil)))) pa_nil)) (pg_name (i := 5) nd rfl (.inl rfl)) (pss_cons (ps_set (i := 6) nd rfl (.inl rfl) (pe_bm PySem.F.plainAttrs_list PySem.F.slot_list_pop PySem.F.type_list_pop mt_popAt (pv 4) (pa_cons (C8.pe_c c_law_scoop hr (by decide) rfl (pa_cons (pv 0) (pa_cons (pe_callB call_lenA (by rfl) T.len_ (by decide +kernel) (pa_cons (pv 4) pa_nil)) pa_nil))) pa_nil)))
      (pss_one (ps_expr (pe_bm PySem.F.plainAttrs_list PySem.F.slot_list_append PySem.F.type_list_append mt_append (pv 3) (pa_cons (pe_tup (pa_cons (pv 6) (pa_cons (pe_callTy call_tuple_of (by rfl) T.tuple_ (by decide +kernel) (pa_cons (pe_lc (own := [("_law_j", 7)]) rfl nd (pi_range1 rfl T.range_ (pa_cons (pv 1) pa_nil)) (blkOk_by (N := ["_law_pail_here", "_law_many", "_law_most", "_law_found", "_law_left", "_law_k", "_law_name_here", "_law_j"]) (sc := defScope (topS 49)) (by decide +kernel)) (fun _ _ _ _ _ => (pg_name (i := 7) nd rfl (.inl rfl))) (fun _ _ _ _ _ => pts_nil) (fun _ _ _ _ _ => (C8.pe_c c_law_stretch hr (by decide) rfl (pa_cons (pv 0) pa_nil)))) pa_nil)) pa_nil))) pa_nil))))))
      (pss_one (ps_ret (pe_callTy call_tuple_of (by rfl) T.tuple_ (by decide +kernel) (pa_cons (pv 3) pa_nil)))))), ?_⟩
  refine ⟨Nat.zero_le _, fun lF hF => ?_⟩
  have pF := hp.keep (same_new (o := .lst []) hF)
  refine ⟨len_le (n := 9) rfl (by decide), fun lL hL => ?_⟩
  walk_at "e"
  walk_at "e"
  walk_at "e"
  refine ⟨p, (mo : Nat), n, rfl, by omega, by omega, (pF.keep (same_new hL)), by omega, fun r H1 r0 r1 e1 hp1 => ?_⟩
  refine .inl ⟨_, _, rfl, rfl, ?_⟩
  refine ⟨_, rfl, by omega, by omega, ?_⟩
  have nF : lF ≠ p := hp.has.ne hF
  have nL : lL ≠ p := pF.has.ne hL
  have hL' : H lL = none := upd_new hL
  have nFL : lF ≠ lL := fun z => by
    rw [← z, upd_same] at hL
    cases hL
  have e0 : ExB p H H1 := ((ExB.new hF).trans (ExB.new hL)).trans e1
  refine for_range (fun i σ H' => ∃ u1 u2 xs ds names rest, σ = [some (.ref p), some (.int (m : Nat)), some (.int (mo : Nat)), some (.ref lF), some (.ref lL), u1, u2, none] ∧ ExB p H H' ∧ PailAt H' p (n + 1 + 14 * i) ∧ H' lF = some (.lst xs) ∧ RpTA p H' xs ds ∧ Lines m ds names ∧
      H' lL = some (.lst (rest.map V.str)) ∧ names.length = i ∧ Pool 9 names rest ∧ ∀ x ∈ names ++ rest, x ≠ "renamed")
    ⟨none, none, [], [], [], ["rye", "oat", "pea", "a", "dry", "beanbean", "yes", "k", "zz"], rfl, e0, hp1, e1 _ _ nF (by rw [upd_ne nFL]; exact upd_same), .nil, .nil, e1 _ _ nL upd_same, rfl, ⟨rfl, by decide, by decide⟩, by decide⟩ ?_ ?_
  · rintro i σ H' hi ⟨u1, u2, xs, ds, names, rest, rfl, eb, hp', hf, rx, hLn, hl, hlen, hP, hRn⟩
    walk_at "e"
    refine ⟨.inl ⟨rfl, _, SqL.of hl⟩, ?_⟩
    walk_at "e"
    walk_at "e"
    refine .inl ⟨lL, _, rfl, .inl (SqL.of hl), ?_⟩
    have hP' := hP.len
    have zr : (rest.map V.str).length = rest.length := List.length_map ..
    refine ⟨p, ((rest.map V.str).length : Nat), n + 1 + 14 * i, rfl, by omega, by omega, hp', by omega, fun r' H2 r0' r1' e2 hp2 => ?_⟩
    obtain ⟨j, rfl⟩ : ∃ j : Nat, r' = (j : Nat) := ⟨r'.toNat, by omega⟩
    have hj : j < rest.length := by omega
    have gj : rest[j]? = some rest[j] := List.getElem?_eq_getElem hj
    refine ⟨lL, rest.map V.str, _, j, .str rest[j], rfl, rfl, e2 _ _ nL hl, by omega, by omega, ixn (by omega), by rw [List.getElem?_map, gj]; rfl, ?_⟩
    have hl2 := e2 _ _ nL hl
    have hf2 : upd H2 lL (.lst ((rest.map V.str).eraseIdx j)) lF = some (.lst xs) := by
      rw [upd_ne nFL]
      exact e2 _ _ nF hf
    have rx2 := (rx.keep (ExT.of e2)).keep (ExT.put (o := .lst ((rest.map V.str).eraseIdx j)) hl2)
    have hp3 := hp2.put (o := .lst ((rest.map V.str).eraseIdx j)) nL
    have hl3 : upd H2 lL (.lst ((rest.map V.str).eraseIdx j)) lL = some (.lst ((rest.eraseIdx j).map V.str)) := by rw [upd_same, erase_map]
    have eb3 := (eb.trans e2).putN (o := .lst ((rest.map V.str).eraseIdx j)) hL'
    generalize upd H2 lL (.lst ((rest.map V.str).eraseIdx j)) = H3 at *
    walk_at "e"
    refine ⟨.inl ⟨rfl, _, SqL.of hf2⟩, ?_⟩
    walk_at "e"
    dsimp only [tCons, tCB]
    refine lc_spans (p := p) (n := n + 1 + 14 * i + 1) (m := m) hp3 (by omega) (by omega) ?_ ?_ ?_ ?_
    · exact fun _ => rfl
    · exact fun R hR => ⟨_, rfl, hR⟩
    · exact fun x H R q h1 h2 h3 => ⟨_, rfl, p, q, rfl, h1, h2, h3⟩
    intro D' ys ss H4 hD' hys rss hss hall e4 hp4
    refine ⟨D', _, rfl, .inl ⟨SqL.of hys, fun t1 ht1 => ?_⟩⟩
    refine ⟨len_le (n := 2) rfl (by decide), fun t2 ht2 => ?_⟩
    have n1 : t1 ≠ p := hp4.has.ne ht1
    have s1 : Same H4 (upd H4 t1 (.tup ys)) := same_new ht1
    have n2 : t2 ≠ p := (hp4.keep s1).has.ne ht2
    have r1 : RpT p (upd H4 t1 (.tup ys)) (.ref t1) (.tuple ss) := .tup n1 (.inl upd_same) (by rw [rss.length, hss]; omega) (rss.keep (ExT.of (ExB.of s1)))
    have at1 : upd H4 t1 (.tup ys) t1 = some (.tup ys) := upd_same
    generalize upd H4 t1 (.tup ys) = H5 at *
    have s2 : Same H5 (upd H5 t2 (.tup [.str rest[j], .ref t1])) := same_new ht2
    have hPs := hP.step gj
    have hnm := menu_name (hPs.nm rest[j] (by simp))
    have r2 : RpT p (upd H5 t2 (.tup [.str rest[j], .ref t1])) (.ref t2) (.tuple [.str rest[j], .tuple ss]) :=
      .tup n2 (.inl upd_same) (by exact Nat.le_of_ble_eq_true rfl) (.cons (.str _ (Nat.le_trans (name_len hnm) (by decide))) (.cons (r1.keep (ExT.of (ExB.of s2))) .nil))
    generalize upd H5 t2 (.tup [.str rest[j], .ref t1]) = H6 at *
    have e6 : ExB p H3 H6 := e4.trans ((ExB.of s1).trans (ExB.of s2))
    have hf6 := e6 _ _ nF hf2
    have hl6 := e6 _ _ nL hl3
    have rx6 := rx2.keep (ExT.of e6)
    refine ⟨lF, xs, _, rfl, rfl, hf6, ?_, ?_⟩
    · rw [rx.length, hLn.len, hlen]
      exact Nat.lt_of_lt_of_le (by omega : i < 1000) (by decide)
    · refine ⟨_, _, xs ++ [.ref t2], ds ++ [.tuple [.str rest[j], .tuple ss]], names ++ [rest[j]], rest.eraseIdx j, rfl, (eb3.trans e6).putN hF, ((((hp4.keep s1).keep s2).more (by omega)).put nF), upd_same, ?_, hLn.snoc ⟨ss, rfl, hss, hall⟩, ?_, by rw [List.length_append, hlen]; rfl, hPs, fun x hx => hRn x ((pool_perm gj).mem_iff.mp hx)⟩
      · exact RpTA.append (rx6.keep (ExT.put hf6)) (.cons (r2.keep (ExT.put hf6)) .nil)
      · rw [upd_ne nFL.symm]
        exact hl6
  · rintro σ H' ⟨u1, u2, xs, ds, names, rest, rfl, eb, hp', hf, rx, hLn, hl, hlen, hP, hRn⟩
    walk_at "e"
    refine ⟨lF, _, rfl, .inl ⟨SqL.of hf, fun t ht => ?_⟩⟩
    have hnm : ∀ x ∈ names, x ∈ menuAll := fun x hx => hP.nm x (List.mem_append_left _ hx)
    have z : xs.length ≤ 1000 := by
      rw [rx.length, hLn.len]
      omega
    refine k (.ref t) ds names _ (by omega) (by omega) (List.nodup_append.mp hP.nd).1 hnm (fun x hx => hRn x (List.mem_append_left _ hx)) hLn (.tup (hp'.has.ne ht) (.inl upd_same) z (rx.keep (ExT.of (ExB.new ht)))) (eb.trans (ExB.new ht)) ((hp'.keep (same_new ht)).more (by omega))
end
end Cs
set_option maxHeartbeats 4000000
namespace Cs
open PySem L2 PyProof.Rows
theorem Lines.rows {m : Nat} {ds : List PyData} {xs : List Str} (h : Lines m ds xs) (nm : ∀ x ∈ xs, isName (.str x) = true) : ∃ rs : List Rw, ds = rs.map dRw ∧ rs.map (·.1) = xs ∧ ∀ r ∈ rs, RowIn m r := by
  induction h with
  | nil => exact ⟨[], rfl, rfl, fun r hr => by cases hr⟩
  | @snoc ds xs d x h l ih =>
    obtain ⟨rs, rfl, rfl, hr⟩ := ih fun y hy => nm y (List.mem_append_left _ hy)
    obtain ⟨ss, rfl, hl, hs⟩ := l
    have key : ∀ (ss : List PyData), (∀ s ∈ ss, isSpan (-10000) 10000 s = true) → ∃ qs : List (Int × Int), ss = qs.map dSp ∧ ∀ q ∈ qs, -10000 ≤ q.1 ∧ q.1 ≤ q.2 ∧ q.2 ≤ 10000 := by
      intro ss hs
      induction ss with
      | nil => exact ⟨[], rfl, fun q hq => by cases hq⟩
      | cons s ss ih2 =>
        obtain ⟨qs, rfl, hq⟩ := ih2 fun y hy => hs y (List.mem_cons_of_mem _ hy)
        obtain ⟨a, b, rfl, h1, h2, h3⟩ := span_inv (hs s List.mem_cons_self)
        refine ⟨(a, b) :: qs, rfl, fun q hq2 => ?_⟩
        rcases List.mem_cons.mp hq2 with rfl | hq2
        · exact ⟨h1, h2, h3⟩
        · exact hq q hq2
    obtain ⟨qs, rfl, hq⟩ := key ss hs
    refine ⟨rs ++ [(x, qs)], by rw [List.map_append]; rfl, by rw [List.map_append]; rfl, fun r hr2 => ?_⟩
    rcases List.mem_append.mp hr2 with hr2 | hr2
    · exact hr r hr2
    · rw [List.mem_singleton.mp hr2]
      exact ⟨nm x (List.mem_append_right _ List.mem_cons_self), by rw [← hl, List.length_map], hq⟩
end Cs
set_option maxHeartbeats 4000000
/-! How long data are when shown. -/
namespace Cs
open PySem L2 PyProof.Rows
/-- d may be shown within n characters, is at most k deep and holds no list -/
structure Shw (d : PyData) (n k : Nat) : Prop where
  sh : d.showable = true
  dp : d.depth ≤ k
  ln : d.shown.length ≤ n
  nl : noL d = true
theorem Shw.up {d : PyData} {n k n' k' : Nat} (h : Shw d n k) (a : n ≤ n') (b : k ≤ k') : Shw d n' k' := ⟨h.sh, Nat.le_trans h.dp b, Nat.le_trans h.ln a, h.nl⟩
theorem join_len {sep : Str} : ∀ {xs : List Str} {n : Nat}, (∀ x ∈ xs, x.length ≤ n) → (Str.join sep xs).length ≤ (n + sep.length) * xs.length
  | [], n, _ => by simp [Str.join]; decide
  | [x], n, h => by
    have := h x List.mem_cons_self
    show x.length ≤ (n + sep.length) * 1
    omega
  | x :: y :: xs, n, h => by
    have ih := join_len (sep := sep) (xs := y :: xs) (n := n) fun z hz => h z (List.mem_cons_of_mem _ hz)
    have h1 := h x List.mem_cons_self
    show (x ++ sep ++ Str.join sep (y :: xs)).length ≤ _
    rw [Str.length_append, Str.length_append, List.length_cons, Nat.mul_succ]
    omega
theorem from_len : ∀ {xs : List Str} {n k : Nat} {acc : Str}, (∀ x ∈ xs, x.length ≤ n) → (textFrom k acc xs).length ≤ acc.length + (n + 2) * xs.length
  | [], n, k, acc, _ => Nat.le_refl _
  | x :: xs, n, k, acc, h => by
    have h1 := h x List.mem_cons_self
    have c1 : ((", " : Str)).length = 2 := by decide
    have c2 : (("" : Str)).length = 0 := by decide
    have ih := from_len (xs := xs) (n := n) (k := k + 1) (acc := acc ++ (if k > 0 then ", " else "" : String) ++ x) fun z hz => h z (List.mem_cons_of_mem _ hz)
    have l : (acc ++ (if k > 0 then ", " else "" : String) ++ x).length ≤ acc.length + 2 + x.length := by
      rw [Str.length_append, Str.length_append]
      by_cases z : k > 0
      · rw [if_pos z]
        omega
      · rw [if_neg z]
        omega
    show (textFrom (k + 1) (acc ++ (if k > 0 then ", " else "" : String) ++ x) xs).length ≤ _
    rw [List.length_cons, Nat.mul_succ]
    omega
theorem shows_mem : ∀ {es : List PyData} {n k : Nat}, (∀ e ∈ es, Shw e n k) → PyData.showableAll es = true ∧ PyData.depthAll es ≤ k ∧ (∀ x ∈ PyData.shownAll es, x.length ≤ n) ∧ (PyData.shownAll es).length = es.length ∧ noLs es = true
  | [], n, k, _ => ⟨rfl, Nat.zero_le _, (fun _ h => by cases h), rfl, rfl⟩
  | e :: es, n, k, h => by
    obtain ⟨a1, a2, a3, a4, a5⟩ := shows_mem (es := es) fun z hz => h z (List.mem_cons_of_mem _ hz)
    have h1 := h e List.mem_cons_self
    refine ⟨?_, ?_, fun x hx => ?_, ?_, ?_⟩
    · show (e.showable && PyData.showableAll es) = true
      rw [h1.sh, a1]
      rfl
    · rw [PyData.depthAll]
      exact Nat.max_le.mpr ⟨h1.dp, a2⟩
    · rcases List.mem_cons.mp hx with rfl | hx
      · exact h1.ln
      · exact a3 x hx
    · show (e.shown :: PyData.shownAll es).length = _
      rw [List.length_cons, a4, List.length_cons]
    · show (noL e && noLs es) = true
      rw [h1.nl, a5]
      rfl
theorem tup_shw {es : List PyData} {n k m : Nat} (h : ∀ e ∈ es, Shw e n k) (hm : es.length ≤ m) : Shw (.tuple es) ((n + 2) * m + 3) (k + 1) := by
  obtain ⟨a1, a2, a3, a4, a5⟩ := shows_mem h
  refine ⟨a1, by rw [PyData.depth]; omega, ?_, a5⟩
  have j := join_len (sep := (", " : Str)) a3
  have c1 : ((", " : Str)).length = 2 := by decide
  have c2 : (("(" : Str)).length = 1 := by decide
  have c3 : ((",)" : Str)).length = 2 := by decide
  have c4 : ((")" : Str)).length = 1 := by decide
  rw [c1, a4] at j
  have mm := Nat.mul_le_mul_left (n + 2) hm
  show (("(" : Str) ++ Str.join ", " (PyData.shownAll es) ++ (if (PyData.shownAll es).length == 1 then ",)" else ")" : String)).length ≤ _
  rw [Str.length_append, Str.length_append, c2]
  by_cases z : (PyData.shownAll es).length == 1
  · rw [if_pos z, c3]
    omega
  · rw [if_neg z, c4]
    omega
/-- a list at the top -/
theorem lst_show {es : List PyData} {n k m : Nat} (h : ∀ e ∈ es, Shw e n k) (hm : es.length ≤ m) (hk : k < 60) (hn : (n + 2) * m + 2 ≤ 1000000) :
    (PyData.list es).showable = true ∧ topSafe (.list es) = true ∧ (PyData.list es).depth ≤ 60 ∧ (PyData.list es).shown.length ≤ sizeLine := by
  obtain ⟨a1, a2, a3, a4, a5⟩ := shows_mem h
  refine ⟨a1, ?_, by rw [PyData.depth]; omega, ?_⟩
  · show (!PyData.hasDictAll es || noLs es) = true
    rw [a5, Bool.or_true]
  · have j := from_len (k := 0) (acc := ("[" : Str)) a3
    have c2 : (("[" : Str)).length = 1 := by decide
    have c4 : (("]" : Str)).length = 1 := by decide
    have mm := Nat.mul_le_mul_left (n + 2) hm
    rw [c2, a4] at j
    refine Nat.le_trans (m := 1000000) ?_ (by decide)
    show (textFrom 0 "[" (PyData.shownAll es) ++ "]").length ≤ _
    rw [Str.length_append, c4]
    omega
theorem bl_shw (b : Bool) : Shw (.bool b) 5 0 := by cases b <;> exact ⟨rfl, Nat.le_refl 0, by decide, rfl⟩
theorem int_shw {a : Int} (h1 : -1000000000 < a) (h2 : a < 1000000000) : Shw (.int a) 10 0 := by
  refine ⟨?_, by simp [PyData.depth], ?_, rfl⟩
  · show decide (a.natAbs.log2 < 1920) = true
    refine decide_eq_true ?_
    by_cases h0 : a.natAbs = 0
    · rw [h0]
      decide
    · exact (Nat.log2_lt h0).mpr (Nat.lt_of_lt_of_le (show a.natAbs < 2 ^ 30 by omega) (Nat.pow_le_pow_right (by decide) (by decide)))
  · have e := int_text_length_le10 (a := a) (k := 9) (by decide) (by omega)
    show (Str.ofString (toString a)).length ≤ 10
    rw [PySem.ofString_length]
    exact e
end Cs
set_option maxHeartbeats 4000000
/-! what is shown, over data; defs that show; what else is drawn of tables -/
namespace Cs
open PySem L2 L2H PyProof.Rows
mutual
theorem Dn.rpx {N : Addr → Prop} {H : Hp} : ∀ {v : V} {d : PyData}, Dn N H v d → ∃ m : Nat, ∀ p : Addr, m ≤ p → Rp p H v d
  | _, _, .non => ⟨0, fun _ _ => .non⟩
  | _, _, .bl b => ⟨0, fun _ _ => .bl b⟩
  | _, _, .int i => ⟨0, fun _ _ => .int i⟩
  | _, _, .str x h => ⟨0, fun _ _ => .str x h⟩
  | _, _, @Dn.lst _ _ a _ _ n h z r => by
    obtain ⟨m, k⟩ := DnA.rpx r
    exact ⟨max m (a + 1), fun p hp => .lst (fun e => by have : a + 1 ≤ p := Nat.le_trans (Nat.le_max_right _ _) hp; rw [e] at this; exact absurd this (Nat.not_succ_le_self _)) h z (k p (Nat.le_trans (Nat.le_max_left _ _) hp))⟩
  | _, _, @Dn.tup _ _ a _ _ n h z r => by
    obtain ⟨m, k⟩ := DnA.rpx r
    exact ⟨max m (a + 1), fun p hp => .tup (fun e => by have : a + 1 ≤ p := Nat.le_trans (Nat.le_max_right _ _) hp; rw [e] at this; exact absurd this (Nat.not_succ_le_self _)) h z (k p (Nat.le_trans (Nat.le_max_left _ _) hp))⟩
  | _, _, @Dn.dct _ _ a n h => ⟨a + 1, fun p hp => .dct (fun e => by rw [e] at hp; exact absurd hp (Nat.not_succ_le_self _)) h⟩
theorem DnA.rpx {N : Addr → Prop} {H : Hp} : ∀ {vs : List V} {ds : List PyData}, DnA N H vs ds → ∃ m : Nat, ∀ p : Addr, m ≤ p → RpA p H vs ds
  | _, _, .nil => ⟨0, fun _ _ => .nil⟩
  | _, _, .cons h t => by
    obtain ⟨m, k⟩ := Dn.rpx h
    obtain ⟨n, l⟩ := DnA.rpx t
    exact ⟨max m n, fun p hp => .cons (k p (Nat.le_trans (Nat.le_max_left _ _) hp)) (l p (Nat.le_trans (Nat.le_max_right _ _) hp))⟩
end
theorem bl_repr : BiL tReprD fRepr := by
  intro N H vs ds c Q hs e1 e2 o
  unfold fRepr at e1
  split at e1
  · cases e1
    obtain ⟨v, rfl, h⟩ := see1 hs
    obtain ⟨s1, s2, s3, s4, s5⟩ := e2
    have q := o.txt _ rfl s4
    rcases h with h | ⟨y, ev, e, _⟩ | ⟨a, ws, xs, rfl, rfl, h1, h2, h3⟩
    · obtain ⟨m, k⟩ := h.rpx
      exact ⟨m, v, _, rfl, k m (Nat.le_refl _), s1, s2, s3, s4, q⟩
    · subst ev e
      exact ⟨0, _, _, rfl, .str y (s5 y rfl), s1, s2, s3, s4, q⟩
    · obtain ⟨m, k⟩ := h3.rpx
      refine ⟨max m (a + 1), .ref a, _, rfl, .lst (fun e => ?_) h1 h2 (k _ (Nat.le_max_left _ _)), s1, s2, s3, s4, q⟩
      have : a + 1 ≤ max m (a + 1) := Nat.le_max_right _ _
      rw [← e] at this
      exact absurd this (Nat.not_succ_le_self _)
  · cases e1
theorem x_callG {X : Cx} {Ex : Expr} {B : Bool} {R : DR} {a : XA} {sp : Sp} (h : PE X Ex (fun σ H Q => upA a σ H fun vs H1 => sp vs H1 Q fun _ _ _ => False)) (ad : ∀ vs H Q, SpD B R vs H Q (fun _ _ _ => False) → sp vs H Q fun _ _ _ => False) : PE X Ex (up (xCall B R a)) :=
  pe_wk h fun σ H Q q => call_up ad q
section
variable {P : Program} {w : World} {K : PySem.W.Frag} {mg : Str → Option Value} {base : Heap}
theorem DefAt.dlG {x : Str} {st : Stmt} {N ps : List Str} {k : Nat} {B : Bool} {R : DR} (D : DefAt K mg x st ps) (S : FnScope N ps (defScope st)) (hN : ps.length ≤ N.length) (hR : ∀ n rs K, R.run n rs K → rs.length = ps.length ∧ (B || noP rs) = true)
    (hbody : ∀ (f : Addr) (cdv : Value) (A : Around) (outer : List Env) (s : Shared) (H : Hp) (E : XK), (A.deeper (envOfC x (defScope st) s.heap.objs.size f cdv)).guards = some [] → Room k (A.deeper (envOfC x (defScope st) s.heap.objs.size f cdv)) →
      ∃ t, PSs (cxOf CX0 P w K mg base N x (defScope st) f cdv A outer s H E).nox (defBody st) (upS t) ∧ ∀ n rs K, R.run n rs K → t.run (okEnd B K) (rs.map (toAV n) ++ List.replicate (N.length - rs.length) .u)) : CalG P w K mg base (k + 1) x (SpD B R) := by
  refine D.calG S (fun vs H Q E h => ?_) fun f cdv A outer s H vs Q E hg hr h => ?_
  · obtain ⟨p, M, n, rs, _, _, _, _, ag, q⟩ := h
    rw [arg_len ag, (hR _ _ _ q).1]
  obtain ⟨t, h1, h2⟩ := hbody f cdv A outer s H E hg hr
  refine ⟨_, h1, enter h ?_ (fun n rs K q => (hR n rs K q).2) h2⟩
  obtain ⟨p, M, n, rs, _, _, _, _, ag, q⟩ := h
  rw [arg_len ag, (hR _ _ _ q).1]
  exact hN
end
theorem nm_shw {x : Str} (h : isName (.str x) = true) : Shw (.str x) 82 0 := by
  have hl := name_len h
  refine ⟨rfl, by simp [PyData.depth], ?_, rfl⟩
  have hx : ∀ c ∈ x.cps.toList, c < 16 ^ 8 := fun c hc => by
    unfold isName at h
    rw [Bool.and_eq_true, List.all_eq_true] at h
    have := h.2 c hc
    unfold letterC at this
    rw [Bool.and_eq_true, decide_eq_true_eq, decide_eq_true_eq] at this
    exact Nat.lt_of_le_of_lt this.2 (by decide)
  have := StrLaws.reprText_len x hx
  show (reprText x).length ≤ 82
  omega
theorem nms_shw {xs : List Str} (h : ∀ x ∈ xs, isName (.str x) = true) (hl : xs.length ≤ 8) : Shw (dCols xs) ((82 + 2) * 8 + 3) 1 := tup_shw (fun e he => by
  obtain ⟨x, hx, rfl⟩ := List.mem_map.mp he
  exact nm_shw (h x hx)) (by rw [List.length_map]; exact hl)
def RLines : DR := ⟨fun n as K => ∃ m mo : Nat, as = [.p, .d (.int (m : Nat)), .d (.int (mo : Nat))] ∧ m ≤ 4 ∧ 1 ≤ mo ∧ mo ≤ 8 ∧ n < 900000 ∧
  ∀ rs : List Rw, 1 ≤ rs.length → rs.length ≤ mo → (rs.map (·.1)).Nodup → (∀ r ∈ rs, r.1 ∈ menuAll) → (∀ r ∈ rs, RowIn m r) → K (.d (dRows rs)) (n + 120),
  fun h ⟨m, mo, e, a, b, c, d, k⟩ => ⟨m, mo, e, a, b, c, d, fun rs x y z w u => h _ _ (k rs x y z w u)⟩⟩
theorem ad_heads {vs : List V} {H : Hp} {Q : VK} {E : XK} (h : SpD true RHeads vs H Q E) : SpHeads vs H Q E := by
  obtain ⟨p, M, n, as, pm, ph, ml, pt, ag, mo, rfl, h1, h4, hn, k⟩ := h
  obtain ⟨v, w, rfl, a1, a2⟩ := arg2 ag
  cases a1
  cases a2
  refine ⟨p, n, mo, rfl, h1, h4, pt rfl, hn, fun v cs H' l1 l2 nd nm nt ex hp => ?_⟩
  obtain ⟨l, rfl, ne, fz, _⟩ := nt
  have ml' : ∀ a, M a → a = p ∨ Ls H' a := fun a m => by
    by_cases z : a = p
    · exact .inl z
    · rcases ml a m with q | q
      · exact .inl q
      · exact .inr (q.exb z ex)
  exact k cs l1 l2 nd nm _ H' ⟨ex, hp⟩ (fz_stb (no_tup ml' (not_tup hp.lst)) fz (by omega) fun x hx => Nat.le_trans (name_len (menu_name (nm x hx))) (by decide))
theorem exb_nt {M : Addr → Prop} {p : Addr} {H H' : Hp} {n : Nat} (ml : ∀ a, M a → a = p ∨ Ls H a) (ex : ExB p H H') (hp : PailAt H' p n) : ∀ a xs, Rd H' a (.tup xs) → ¬ M a := by
  refine no_tup (p := p) (fun a m => ?_) (not_tup hp.lst)
  by_cases z : a = p
  · exact .inl z
  · rcases ml a m with q | q
    · exact .inl q
    · exact .inr (q.exb z ex)
theorem ad_lines {vs : List V} {H : Hp} {Q : VK} {E : XK} (h : SpD true RLines vs H Q E) : SpLines vs H Q E := by
  obtain ⟨p, M, n, as, pm, ph, ml, pt, ag, m, mo, rfl, h1, h2, h3, hn, k⟩ := h
  obtain ⟨v, w, u, rfl, a1, a2, a3⟩ := arg3 ag
  cases a1
  cases a2
  cases a3
  refine ⟨p, n, m, mo, rfl, h1, h2, h3, pt rfl, hn, fun v ds names H' l1 l2 nd nm _ ln rv ex hp => ?_⟩
  obtain ⟨rs, rfl, rfl, hr⟩ := ln.rows fun x hx => menu_name (nm x hx)
  rw [List.length_map] at l1 l2
  exact k rs l1 l2 nd (fun r hr => nm _ (List.mem_map.mpr ⟨r, hr, rfl⟩)) hr v H' ⟨ex, hp⟩ (RpT.dn (fun a xs _ => exb_nt ml ex hp a xs) rv)
end Cs
set_option maxHeartbeats 4000000
/-! Rules of my own: t[::-1] of a tuple, known whole. -/
namespace HT
open PySem PySem.Spec PyProof.Rows
section
variable {prog : Program} {w : World} {A : Around} {E : Value → Shared → Prop} {s : Shared}
theorem csr_places (n : Nat) : Builtin.Slice.slicePlaces ((n : Int) - 1) (-1) (-1) = n := by
  unfold Builtin.Slice.slicePlaces
  rw [if_neg (show ¬ ((-1 : Int) > 0) by decide)]
  by_cases h : n = 0
  · subst h
    rfl
  · rw [if_pos (show (n : Int) - 1 > -1 by omega), show (- -1 : Int) = 1 by decide, Int.ediv_one]
    omega
theorem csr_pick (xs : Array Value) : ((List.range xs.size).filterMap fun (m : Nat) => xs[(((xs.size : Int) - 1) + (m : Int) * -1).toNat]?).toArray = xs.toList.reverse.toArray := by
  have e : (List.range xs.size).filterMap (fun (m : Nat) => xs[(((xs.size : Int) - 1) + (m : Int) * -1).toNat]?) = ((List.range xs.size).map fun k => xs.size - 1 - k).filterMap (xs[·]?) := by
    rw [List.filterMap_map]
    congr 1
    funext m
    have : (((xs.size : Int) - 1) + (m : Int) * -1).toNat = xs.size - 1 - m := by omega
    rw [this]
    rfl
  rw [e, PySem.W.krv_range, List.filterMap_reverse, PySem.W.krv_all]
theorem csr_applied {sl : Addr} {n : Nat} {t : Tok} {Q : Int × Int × Nat → Shared → Prop} (hs : s.heap.IsSliceOf sl .none .none (.int (-1) t))
    (h : Q ((n : Int) - 1, -1, n) s) : wpAny (model prog w) A (Builtin.Slice.sliceApplied (.ref sl) (pure (n : Int))) Q E s := by
  obtain ⟨os, hos, hcs, hds⟩ := id hs
  unfold Builtin.Slice.sliceApplied Builtin.Slice.sliceFields
  refine wpAny_bind (wpAny_bind (wpAny_field hos hds (x := .none) rfl (wpAny_bind (wpAny_field hos hds (x := .none) rfl (wpAny_bind (wpAny_field hos hds (x := .int (-1) t) rfl (wpAny_pure ?_)))))))
  refine wpAny_bind (slicePart_int ?_)
  show wpAny _ _ (if ((-1 : Int) == 0) = true then _ else _) _ _ s
  rw [if_neg (by decide)]
  refine wpAny_bind (slicePart_none (wpAny_bind (slicePart_none (wpAny_bind (wpAny_pure ?_)))))
  show wpAny _ _ (pure ((n : Int) - 1, (-1 : Int), Builtin.Slice.slicePlaces ((n : Int) - 1) (-1) (-1))) _ _ s
  rw [csr_places]
  exact wpAny_pure h
theorem getItem_tuple_rev {t sl : Addr} {items : Array Value} {tk : Tok} {Q : Value → Shared → Prop} (ht : IsTup s.heap t items) (hs : s.heap.IsSliceOf sl .none .none (.int (-1) tk))
    (h : Q (.ref s.heap.objs.size) { s with heap := s.heap.push { cls := .type "tuple", data := .seq items.toList.reverse.toArray } })
    (hsz : items.size ≤ sizeLine) : wpAny (model prog w) A (getItem (.ref t) (.ref sl)) Q E s := by
  have htake : sizeOk (.seq items.toList.reverse.toArray) := by
    show items.toList.reverse.toArray.size ≤ sizeLine
    rw [List.size_toArray, List.length_reverse, Array.length_toList]
    exact hsz
  obtain ⟨os, hos, hcs, hds⟩ := id hs
  have hTs : s.TypeIs (.ref sl) "slice" := ⟨os, hos, hcs⟩
  unfold getItem
  try with_reducible refine wpAny_holding ?_
  first | refine wpAny_bind (wpAny_pure ?_) | skip
  refine wpAny_bind (wpAny_sequenceKey ht.typeIs (by decide) ?_)
  refine wpAny_bind (wpAny_callSpecial?_slot (name := Str.ofString "__getitem__") ht.typeIs PyProof.Rows.slot_tuple_getitem
    (wpAny_call_entry PyProof.Rows.slot_tuple_getitem ht.typeIs entry_tuple_getitem ?_ (args_tuple_getitem _ _)))
  show wpAny _ _ (Builtin.Tuple.tupleItemsOf (.ref t) >>= _) _ _ s
  refine wpAny_bind (tupleItemsOf_ ht ?_)
  refine wpAny_bind (wpAny_typeOf hTs ?_)
  rw [if_pos (by decide)]
  refine wpAny_bind (csr_applied hs ?_)
  have hno : ¬ ((((items.size : Int) - 1) == 0 && (-1 : Int) == 1 && items.size == items.size) = true) := by
    rw [show ((-1 : Int) == 1) = false by decide, Bool.and_false, Bool.false_and]
    exact Bool.false_ne_true
  show wpAny _ _ (if (((items.size : Int) - 1) == 0 && (-1 : Int) == 1 && items.size == items.size) = true then _ else _) _ _ s
  rw [if_neg hno, csr_pick]
  first
    | exact wpAny_bind (m := Builtin.Tuple.tupleExact _) (wpAny_newObj_type (wpAny_pure ⟨_, rfl, wpAny_pure h⟩) htake)
    | exact wpAny_bind (m := Builtin.Tuple.tupleExact _) (wpAny_newObj_type (wpAny_bind (wpAny_pure (wpAny_pure ⟨_, rfl, wpAny_pure h⟩))) htake)
    | exact wpAny_bind (wpAny_bind (m := Builtin.Tuple.tupleExact _) (wpAny_newObj_type (wpAny_pure (wpAny_pure ⟨_, rfl, wpAny_pure h⟩)) htake))
    | exact wpAny_bind (wpAny_bind (m := Builtin.Tuple.tupleExact _) (wpAny_newObj_type (wpAny_pure ⟨_, rfl, wpAny_pure h⟩) htake))
end
end HT
namespace Cs
open PySem L2 PyProof.Rows
theorem vals_rev : ∀ {vs : List V} {us : List Value}, Vals vs us → Vals vs.reverse us.reverse
  | _, _, .nil => .nil
  | _, _, .cons r t => by
    rw [List.reverse_cons, List.reverse_cons]
    exact (vals_rev t).append (.cons r .nil)
/-- t[::-1] of a tuple: a new one, known whole -/
def tRv (K : PySem.W.Frag) (te : TE) (tst : TO) : TE := fun σ H Q => te σ H fun x H1 => tst σ H1 fun o H2 => o = some (-1) ∧ ∃ a xs, x = .ref a ∧ SqT K H2 a xs ∧ ∀ l H', H2 l = none → Same H2 H' → Fz H' l xs.reverse → Q (.ref l) H'
section
variable {X : Cx} {e : Expr} {te : TE} {st : Option Expr} {tst : TO} {pos p2 : Pos}
theorem pe_rev (he : PE X e te) (hs : PO X st tst) (hsub : ∀ a b : Addr, ∃ ops : List Value, subscripted (.Slice none none st p2) false (.ref a) (.ref b) = operate ops (getItem (.ref a) (.ref b))) : PE X (.Subscript e (.Slice none none st p2) pos) (tRv X.K te tst) := by
  refine ⟨fun pins s σ H Q I h => ?_⟩
  refine Subscript_ (thn (he.run pins s σ H _ I h) fun v s1 ⟨x, H1, I1, r1, q1⟩ => ?_)
  refine wpAny_Slice ?_
  rw [evalPart_none]
  refine wpAny_pure ?_
  refine wpAny_pure ?_
  refine thn (hs.run pins s1 σ H1 _ I1 q1) fun vu s3 ⟨u, H3, I3, pu, q3⟩ => ?_
  obtain ⟨rfl, a, xs, rfl, hx, q⟩ := q3
  cases r1
  cases pu with
  | int i t =>
  have I4 : Inv X pins σ H3 { s3 with heap := s3.heap.push { cls := .type "slice", data := .fields #[.none, .none, .int (-1) t] } } := I3.kept (t' := s3.toks) fun b ob q => Heap.get?_push_of_some _ q
  obtain ⟨its, r, ht, hz⟩ := I4.tuple hx
  have hlen := r.length
  have hsl : ({ s3 with heap := s3.heap.push { cls := .type "slice", data := .fields #[.none, .none, .int (-1) t] } } : Shared).heap.IsSliceOf s3.heap.objs.size .none .none (.int (-1) t) := Heap.IsSliceOf.new ..
  show wpAny (model X.prog X.w) X.A (subscriptTail e (.Slice none none st p2) (.ref a) (.ref s3.heap.objs.size)) (EP X pins σ Q) X.xe { s3 with heap := s3.heap.push { cls := .type "slice", data := .fields #[.none, .none, .int (-1) t] } }
  obtain ⟨ops, hops⟩ := hsub a s3.heap.objs.size
  refine tail_any (ops := ops) ht.typeIs PyProof.Rows.slot_tuple_getitem.lookup (HT.getItem_tuple_rev ht hsl ?_ (by rw [List.size_toArray]; omega)) hops
  generalize ({ s3 with heap := s3.heap.push { cls := .type "slice", data := .fields #[.none, .none, .int (-1) t] } } : Shared) = s4 at *
  have hn : H3 s4.heap.objs.size = none := I4.hok.fresh (Nat.le_refl _)
  have I5 : L2.Inv X pins σ (upd H3 s4.heap.objs.size (.frz { cls := .type "tuple", data := .seq its.reverse.toArray } (.tup xs.reverse))) { s4 with heap := s4.heap.push { cls := .type "tuple", data := .seq its.reverse.toArray } } :=
    I4.laid (t' := s4.toks) (fun b o e => Heap.get?_push_of_some _ e) (Nat.le_refl _) (show ObjOk X.prog X.w _ _ _ (.frz { cls := .type "tuple", data := .seq its.reverse.toArray } (.tup xs.reverse)) from ⟨Heap.get?_push_size s4.heap rfl, by rw [List.length_reverse]; exact hz, its.reverse, vals_rev r, IsTup.new _ _⟩)
  exact ⟨.ref s4.heap.objs.size, _, I5, rfl, q _ _ hn (same_new hn) ⟨_, upd_same, rfl, rfl⟩⟩
end
end Cs
set_option maxHeartbeats 4000000
/-! Texts over data: split, join, removeprefix, one sign in a text, int(text), str(number); range with a step; a try that runs through. -/
namespace Cs
open PySem L2 PyProof.Rows
/-- a method of a text with one argument -/
def xM1 (f : F2) (a b : XE) : XE := ⟨fun ε K => a.run ε fun r ε1 => (∃ z, r.see = some (.str z)) ∧ b.run ε1 fun s ε2 => ∃ d e c, r.see = some d ∧ s.see = some e ∧ f d e = some c ∧ c.1 ∧ K c.2 ε2,
  fun h q => a.mono (fun _ _ ⟨z, q⟩ => ⟨z, b.mono (fun _ _ ⟨d, e, c, a1, a2, a3, a4, k⟩ => ⟨d, e, c, a1, a2, a3, a4, h _ _ k⟩) q⟩) q⟩
def MtL (r : V → List V → Hp → VK → Prop) (f : F2) : Prop := ∀ {N : Addr → Prop} {H : Hp} {x y : V} {d e : PyData} {c : Prop × RV} {Q : VK}, See N H x d → See N H y e → f d e = some c → c.1 → Outs N H (fun r => r = c.2) Q → r x [y] H Q
theorem x_m1 {X : Cx} {E : Expr} {g : V → List V → Hp → VK → Prop} {f : F2} {ta tb : XE} (h : PE X E (tM1 g (up ta) (up tb))) (hl : MtL g f) : PE X E (up (xM1 f ta tb)) :=
  pe_wk h fun σ H Q ⟨Γ, ε, T, R, k⟩ => up1 R k fun r x ε1 T1 H1 ⟨⟨z, ez⟩, g⟩ R1 s1 d1 => ⟨⟨z, (d1.see ez).str.1⟩, up1 R1 g fun s y ε2 T2 H2 ⟨d, e, c, e1, e2, e3, e4, g⟩ R2 s2 d2 =>
    hl ((d1.step R1 s2).see e1) ((d2.early fun a => s1.none R.hp).see e2) e3 e4 (outs R R2 (s1.trans R.hp s2) fun r er v T' H' R' s' d' => by subst er; exact g v T' H' R' s' d')⟩
theorem strs_dn {N : Addr → Prop} {H : Hp} : ∀ {ys : List Str}, (∀ y ∈ ys, y.length ≤ 1000) → DnA N H (ys.map V.str) (ys.map PyData.str)
  | [], _ => .nil
  | y :: ys, h => .cons (.str y (h y List.mem_cons_self)) (strs_dn fun z hz => h z (List.mem_cons_of_mem _ hz))
def fSplit : F2
  | .str a, .str b => some ((b.length == 0) = false ∧ a.length ≤ 900, .f ((Txt.split a b).map PyData.str))
  | _, _ => none
theorem ml_split : MtL (fun x xs H Q => ∃ a b, x = .str a ∧ xs = [.str b] ∧ (b.length == 0) = false ∧ a.length + 2 ≤ sizeLine ∧ rNewStrs (Txt.split a b) H Q) fSplit := by
  intro N H x y d e c Q hx hy e1 e2 o
  unfold fSplit at e1
  split at e1
  · rename_i a b
    cases e1
    obtain ⟨h1, h2⟩ := e2
    have h2 : a.length ≤ 900 := h2
    refine ⟨a, b, hx.str.1, by rw [hy.str.1], h1, sz1000 (by omega), fun p hp => ?_⟩
    have l1 := PyProof.Rows.split_le a b
    refine o.lst p _ _ rfl hp (by rw [List.length_map]; omega) (strs_dn fun y hy => ?_)
    exact Nat.le_trans (PyProof.Rows.part_short hy) (by omega)
  · cases e1
def strsO : List PyData → Option (List Str)
  | [] => some []
  | .str x :: ds => (strsO ds).map (x :: ·)
  | _ => none
theorem strsO_map : ∀ xs : List Str, strsO (xs.map PyData.str) = some xs
  | [] => rfl
  | x :: xs => by
    show (strsO (xs.map PyData.str)).map (x :: ·) = _
    rw [strsO_map xs]
    rfl
theorem dn_strsO {N : Addr → Prop} {H : Hp} : ∀ {vs : List V} {ds : List PyData} {ys : List Str}, DnA N H vs ds → strsO ds = some ys → vs = ys.map V.str ∧ ∀ y ∈ ys, y.length ≤ 1000
  | _, _, _, .nil, e => by cases e; exact ⟨rfl, fun y hy => by cases hy⟩
  | _, _, _, .cons h t, e => by
    cases h <;> first | cases e | skip
    rename_i x hx
    obtain ⟨r, e1, rfl⟩ := Option.map_eq_some_iff.mp e
    obtain ⟨e2, e3⟩ := dn_strsO t e1
    rw [e2]
    exact ⟨rfl, fun y hy => by
      rcases List.mem_cons.mp hy with rfl | hy
      · exact hx
      · exact e3 y hy⟩
def fJoin : F2
  | .str a, .list ds => (strsO ds).map fun ys => (a.length ≤ 10 ∧ (Txt.join a ys).length ≤ 1000, .d (.str (Txt.join a ys)))
  | .str a, .tuple ds => (strsO ds).map fun ys => (a.length ≤ 10 ∧ (Txt.join a ys).length ≤ 1000, .d (.str (Txt.join a ys)))
  | _, _ => none
theorem sum1000 {ys : List Str} {n : Nat} (h : ∀ y ∈ ys, y.length ≤ n) : (ys.map (·.length)).sum ≤ ys.length * n := by
  induction ys with
  | nil => simp
  | cons y ys ih =>
    rw [List.map_cons, List.sum_cons, List.length_cons, Nat.succ_mul]
    have h1 := h y List.mem_cons_self
    have h2 := ih fun z hz => h z (List.mem_cons_of_mem _ hz)
    omega
theorem join_fit {ys : List Str} {a : Str} (h : ∀ y ∈ ys, y.length ≤ 1000) (l : ys.length ≤ 1000) (ha : a.length ≤ 10) : (ys.map (·.length)).sum + ys.length * a.length ≤ 16777216 := by
  have h1 := sum1000 h
  have h2 : ys.length * a.length ≤ 1000 * 10 := Nat.mul_le_mul l ha
  have h3 : ys.length * 1000 ≤ 1000 * 1000 := Nat.mul_le_mul_right _ l
  omega
theorem ml_join {K : PySem.W.Frag} : MtL (fun x xs H Q => ∃ a p, ∃ ys : List Str, x = .str a ∧ xs = [.ref p] ∧ (SqL K H p (ys.map V.str) ∨ SqT K H p (ys.map V.str)) ∧ (ys.map (·.length)).sum + ys.length * a.length ≤ 16777216 ∧ Q (.str (Txt.join a ys)) H) fJoin := by
  intro N H x y d e c Q hx hy e1 e2 o
  unfold fJoin at e1
  split at e1
  · rename_i a ds
    obtain ⟨ys, e3, rfl⟩ := Option.map_eq_some_iff.mp e1
    obtain ⟨h1, h2⟩ := e2
    obtain ⟨b, ws, rfl, h3, h4, h5⟩ := hy.list
    obtain ⟨rfl, h6⟩ := dn_strsO h5 e3
    rw [List.length_map] at h4
    exact ⟨a, b, ys, hx.str.1, rfl, .inl (SqL.of h3), join_fit h6 h4 h1, o.old _ _ rfl (.str _ h2)⟩
  · rename_i a ds
    obtain ⟨ys, e3, rfl⟩ := Option.map_eq_some_iff.mp e1
    obtain ⟨h1, h2⟩ := e2
    obtain ⟨b, ws, rfl, h3, h4, h5, _⟩ := hy.tup
    obtain ⟨rfl, h6⟩ := dn_strsO h5 e3
    rw [List.length_map] at h4
    exact ⟨a, b, ys, hx.str.1, rfl, .inr (SqT.rd h3), join_fit h6 h4 h1, o.old _ _ rfl (.str _ h2)⟩
  · cases e1
def fRmp : F2
  | .str a, .str b => some (a.length ≤ 1000 ∧ (Txt.removeprefix a b).length ≤ 1000, .d (.str (Txt.removeprefix a b)))
  | _, _ => none
theorem ml_rmp : MtL (fun x xs H Q => ∃ a b, x = .str a ∧ xs = [.str b] ∧ a.length ≤ sizeLine ∧ Q (.str (Txt.removeprefix a b)) H) fRmp := by
  intro N H x y d e c Q hx hy e1 e2 o
  unfold fRmp at e1
  split at e1
  · rename_i a b
    cases e1
    exact ⟨a, b, hx.str.1, by rw [hy.str.1], sz1000 e2.1, o.old _ _ rfl (.str _ e2.2)⟩
  · cases e1
/-! one sign in a text -/
def fSign (neg : Bool) : F2
  | .str x, .str z => match x.cps.toList with
    | [c] => some (True, .d (.bool (if neg then !decide (c ∈ z.cps.toList) else decide (c ∈ z.cps.toList))))
    | _ => none
  | _, _ => none
theorem ol_sign : OpL (fun x y H Q => ∃ (c : Nat) (z : Str), x = .str ⟨#[c]⟩ ∧ y = .str z ∧ Q (.bl (decide (c ∈ z.cps.toList))) H) (fSign false) := by
  intro N H x y d e c Q hx hy e1 e2 o
  unfold fSign at e1
  split at e1
  · split at e1
    · rename_i x z l c' hc
      cases e1
      refine ⟨c', z, ?_, hy.str.1, o.old _ _ rfl (.bl _)⟩
      rw [hx.str.1]
      congr 1
      exact Str.ext' (Array.toList_inj.mp hc)
    · cases e1
  · cases e1
theorem ol_nsign : OpL (fun x y H Q => ∃ (c : Nat) (z : Str), x = .str ⟨#[c]⟩ ∧ y = .str z ∧ Q (.bl (!decide (c ∈ z.cps.toList))) H) (fSign true) := by
  intro N H x y d e c Q hx hy e1 e2 o
  unfold fSign at e1
  split at e1
  · split at e1
    · rename_i x z l c' hc
      cases e1
      refine ⟨c', z, ?_, hy.str.1, o.old _ _ rfl (.bl _)⟩
      rw [hx.str.1]
      congr 1
      exact Str.ext' (Array.toList_inj.mp hc)
    · cases e1
  · cases e1
/-! int(text), str(number) -/
def fIntS : FN
  | [.str a] => (PySem.intText? a).map fun n => (a.length ≤ 640, .d (.int n))
  | _ => none
theorem bl_intS : BiL (fun xs H Q => ∃ a n, xs = [.str a] ∧ PySem.intText? a = some n ∧ a.length ≤ 640 ∧ Q (.int n) H) fIntS := by
  intro N H vs ds c Q hs e1 e2 o
  unfold fIntS at e1
  split at e1
  · obtain ⟨n, e3, rfl⟩ := Option.map_eq_some_iff.mp e1
    obtain ⟨v, rfl, h⟩ := see1 hs
    exact ⟨_, n, by rw [h.str.1], e3, e2, o.old _ _ rfl (.int _)⟩
  · cases e1
def fStrI : FN
  | [.int i] => some (i.natAbs.log2 < 1920 ∧ (Str.ofString (toString i)).length ≤ 1000, .d (.str (Str.ofString (toString i))))
  | _ => none
theorem bl_strI : BiL (fun xs H Q => ∃ i : Int, xs = [.int i] ∧ i.natAbs.log2 < 1920 ∧ Q (.str (toString i)) H) fStrI := by
  intro N H vs ds c Q hs e1 e2 o
  unfold fStrI at e1
  split at e1
  · cases e1
    obtain ⟨v, rfl, h⟩ := see1 hs
    exact ⟨_, by rw [h.int], e2.1, o.old _ _ rfl (.str _ e2.2)⟩
  · cases e1
/-! range with a step -/
def rgC (lo c : Int) (n : Nat) : List PyData := (List.range n).map fun (i : Nat) => PyData.int (lo + (i : Int) * c)
theorem it_rngC {p : Addr} {lo c : Int} {n : Nat} : ItOk p (Itc lo c n) (fun _ _ => True) (rgC lo c n) true where
  st := fun _ _ _ _ _ _ _ => trivial
  stop := fun N H _ => by
    show n ≤ (rgC lo c n).length
    unfold rgC
    rw [List.length_map, List.length_range]
    exact Nat.le_refl _
  go := fun N H i d _ _ hd => by
    unfold rgC at hd
    obtain ⟨j, hj, rfl⟩ := mapget hd
    obtain ⟨h1, h2⟩ := List.getElem?_eq_some_iff.mp hj
    rw [List.length_range] at h1
    rw [List.getElem_range] at h2
    subst h2
    refine ⟨h1, fun x H' ⟨e, y⟩ => ?_⟩
    subst e y
    exact ⟨Same.refl _, .int _⟩
def xiR3 (a : XA) : XI := ⟨fun ε K => a.run ε fun rs ε1 => ∃ (i j c : Int) (n : Nat), sees rs = some [.int i, .int j, .int c] ∧ RgC i j c n ∧ K (rgC i c n) true ε1, fun h q => a.mono (fun _ _ ⟨i, j, c, n, e, b, k⟩ => ⟨i, j, c, n, e, b, h _ _ _ k⟩) q⟩
theorem see3 {N : Addr → Prop} {H : Hp} {vs : List V} {d e g : PyData} (h : SeeA N H vs [d, e, g]) : ∃ v w u, vs = [v, w, u] ∧ See N H v d ∧ See N H w e ∧ See N H u g := by
  cases h with
  | cons h t =>
    obtain ⟨w, u, rfl, h1, h2⟩ := see2 t
    exact ⟨_, _, _, rfl, h, h1, h2⟩
theorem xi_rng3 {X : Cx} {tg e e2 e3 : Expr} {p pos : Pos} {b : XA} (hg : Gl X "range") (hm : X.mg "range" = none) (h : PA X [e, e2, e3] (upA b)) (hs : starEach [e, e2, e3] X.env = (false, eval e X.env) :: starEach [e2, e3] X.env := by rfl)
    (hpl : (backTo pos (starEach [e2, e3] X.env)).any (·.1) = false := by rfl) : PI X tg (.Call (.Name "range" p) [e, e2, e3] [] pos) (upI (xiR3 b)) := pi_wk (pi_range3 hg hm h hs hpl) fun σ H R ⟨Γ, ε, T, R0, k⟩ => upA1 R0 k fun r x ε1 T1 H1 ⟨i, j, c, n, e1, b1, g⟩ R1 s1 d1 => by
  obtain ⟨v, w, u, rfl, h1, h2, h3⟩ := see3 (d1.see e1)
  exact ⟨i, j, c, n, by rw [h1.int, h2.int, h3.int], b1, g _ _ T1 H1 R1 s1 it_rngC trivial⟩
/-! a try that runs through -/
theorem xs_thru {X : Cx} {body : List Stmt} {hd : List ExceptHandler} {h0 : ExceptHandler} {pos : Pos} {t : XS} (hb : PSs X.nox body (upS t)) : PS X (.Try body (h0 :: hd) [] [] pos) (upS t) := ps_try_thru0 hb
/-! t[::-1] -/
theorem DnA.rev {N : Addr → Prop} {H : Hp} : ∀ {vs : List V} {ds : List PyData}, DnA N H vs ds → DnA N H vs.reverse ds.reverse
  | _, _, .nil => .nil
  | _, _, .cons h t => by
    rw [List.reverse_cons, List.reverse_cons]
    exact (DnA.rev t).append (.cons h .nil)
def xRv (a : XE) (st : XO) : XE := ⟨fun ε K => a.run ε fun r ε1 => st.run ε1 fun o ε2 => ∃ ds, o = some (-1) ∧ r.see = some (.tuple ds) ∧ K (.d (.tuple ds.reverse)) ε2,
  fun h q => a.mono (fun _ _ q => st.mono (fun _ _ ⟨ds, e1, e2, k⟩ => ⟨ds, e1, e2, h _ _ k⟩) q) q⟩
theorem xe_rv {X : Cx} {K : PySem.W.Frag} {E : Expr} {a : XE} {st : XO} (h : PE X E (tRv K (up a) (upO st))) : PE X E (up (xRv a st)) :=
  pe_wk h fun σ H Q ⟨Γ, ε, T, R, k⟩ => up1 R k fun r x ε1 T1 H1 g R1 s1 d1 => upO1 R1 g fun o ε2 T2 H2 ⟨ds, e1, e2, k⟩ R2 s2 => by
    obtain ⟨b, vs, rfl, h1, h2, h3, _⟩ := ((d1.step R1 s2).see e2).tup
    refine ⟨e1, b, vs, rfl, SqT.rd h1, fun l H3 hl s3 fz => ?_⟩
    have sA := s1.trans R.hp s2
    exact k _ T2 H3 (R2.same s3) (sA.same s3) (.tup (R2.not_x hl) fz.rd (by rw [List.length_reverse]; exact h2) (h3.rev.go (Fit2.same s3)))
end Cs
set_option maxHeartbeats 4000000
/-! Texts of numbers, and what is told of them. -/
namespace Cs
open PySem L2 PyProof.Rows TL
/-- the text of a number -/
def it (i : Int) : Str := Str.ofString (toString i)
def sgnL (i : Int) : List Nat := if i < 0 then 45 :: numL (-i).toNat else numL i.toNat
theorem tl_it (i : Int) : tl (it i) = sgnL i := by
  unfold sgnL it
  by_cases h : i < 0
  · rw [if_pos h, toString_neg h]
    show (Str.ofString _).cps.toList = _
    rw [signs_ofString, String.toList_append, List.map_append]
    have e : (0 - i) = (((-i).toNat : Nat) : Int) := by omega
    rw [e]
    have := tl_num (-i).toNat
    rw [← this]
    show _ = 45 :: (Str.ofString _).cps.toList
    rw [signs_ofString]
    rfl
  · rw [if_neg h]
    have e : i = ((i.toNat : Nat) : Int) := by omega
    conv => lhs; rw [e]
    exact tl_num i.toNat
theorem it_int {i : Int} (h1 : -100000 < i) (h2 : i < 100000) : intText? (it i) = some i ∧ (it i).length ≤ 6 := by
  have hl : (it i).length ≤ 6 := by
    rw [len_tl, tl_it]
    unfold sgnL
    split
    · have := numL_len (n := (-i).toNat) (k := 5) (by decide) (by omega)
      rw [List.length_cons]
      omega
    · have := numL_len (n := i.toNat) (k := 5) (by decide) (by omega)
      omega
  refine ⟨?_, hl⟩
  have ht := tl_it i
  unfold sgnL at ht
  split at ht
  · rename_i h
    have e := PySem.intText_neg (x := it i) (cs := numL (-i).toNat) ht (numL_digits _) (numL_ne _) (by omega)
    rw [numL_val] at e
    rw [e]
    congr 1
    omega
  · rename_i h
    have e := PySem.intText_digits (x := it i) (by rw [show (it i).cps.toList = _ from ht]; exact numL_digits _) (by rw [show (it i).cps.toList = _ from ht]; exact numL_ne _) (by omega)
    rw [show (it i).cps.toList = _ from ht, numL_val] at e
    rw [e]
    congr 1
    omega
theorem rmp_hit {x : Str} {cs : List Nat} (h : tl x = 45 :: cs) : tl (Txt.removeprefix x "-") = cs := by
  have hl : x.length = cs.length + 1 := by rw [len_tl, h]; rfl
  have hs : Builtin.Str.subAt x "-" 0 = true := by
    rw [StrLaws.subAt_eq, show x.cps.toList = _ from h]
    rfl
  unfold Txt.removeprefix
  rw [if_pos hs]
  show tl (if x.length - 1 == x.length then x else _) = cs
  rw [if_neg (by rw [hl]; simp), ]
  show (Builtin.Str.strSub x _ x.length).cps.toList = cs
  rw [StrLaws.strSub_toList, show x.cps.toList = _ from h, hl]
  show List.take (cs.length + 1 - 1) cs = cs
  rw [List.take_of_length_le (by omega)]
theorem rmp_no {x : Str} {c : Nat} {cs : List Nat} (h : tl x = c :: cs) (n : c ≠ 45) : Txt.removeprefix x "-" = x := by
  have hs : Builtin.Str.subAt x "-" 0 = false := by
    rw [StrLaws.subAt_eq, show x.cps.toList = _ from h]
    show ((List.take 1 (c :: cs)) == [45]) = false
    rw [List.take_succ_cons, List.take_zero]
    simpa using n
  unfold Txt.removeprefix
  rw [if_neg (by rw [hs]; exact Bool.false_ne_true)]
  rfl
/-- the digits of a number's text -/
theorem it_digits {i : Int} (h1 : -100000 < i) (h2 : i < 100000) : 1 ≤ (Txt.removeprefix (it i) "-").length ∧ (Txt.removeprefix (it i) "-").length ≤ 5 ∧ ∀ c ∈ tl (Txt.removeprefix (it i) "-"), 48 ≤ c ∧ c ≤ 57 := by
  have ht := tl_it i
  unfold sgnL at ht
  have key : ∃ n : Nat, n < 100000 ∧ tl (Txt.removeprefix (it i) "-") = numL n := by
    split at ht
    · exact ⟨_, by omega, rmp_hit ht⟩
    · refine ⟨i.toNat, by omega, ?_⟩
      cases q : numL i.toNat with
      | nil => exact absurd q (numL_ne _)
      | cons c cs =>
        rw [rmp_no (ht.trans q) (fun z => numL_free (n := i.toNat) (s := 45) (.inl (by decide)) (by rw [q, ← z]; exact List.mem_cons_self)), ht, q]
  obtain ⟨n, hn, e⟩ := key
  rw [len_tl, e]
  have := numL_len (n := n) (k := 5) (by decide) (by omega)
  have ne := numL_ne n
  refine ⟨List.length_pos_iff.mpr ne, this, numL_digits n⟩
theorem sign_digit : ∀ c : Nat, 48 ≤ c → c ≤ 57 → decide (c ∈ tl ("0123456789" : Str)) = true := by
  intro c h1 h2
  have : ∀ k : Fin 58, 48 ≤ k.val → decide (k.val ∈ tl ("0123456789" : Str)) = true := by decide +kernel
  exact this ⟨c, by omega⟩ h1
end Cs
set_option maxHeartbeats 4000000
/-! Pages: what is split of them. -/
namespace Cs
open PySem L2 L2H PyProof.Rows TL
theorem nm_chars {x : Str} (h : isName (.str x) = true) : ∀ c ∈ tl x, 97 ≤ c ∧ c ≤ 122 := fun c hc => by
  unfold isName at h
  rw [Bool.and_eq_true, List.all_eq_true] at h
  have := h.2 c hc
  unfold letterC at this
  rw [Bool.and_eq_true, decide_eq_true_eq, decide_eq_true_eq] at this
  exact this
theorem it_chars (i : Int) : ∀ c ∈ tl (it i), 45 ≤ c ∧ c ≤ 57 := fun c hc => by
  rw [tl_it] at hc
  unfold sgnL at hc
  split at hc
  · rcases List.mem_cons.mp hc with rfl | hc
    · omega
    · have := numL_digits _ c hc
      omega
  · have := numL_digits _ c hc
    omega
theorem join_chars {y : Str} {p : Nat → Prop} (hy : ∀ c ∈ tl y, p c) : ∀ {xs : List Str}, (∀ x ∈ xs, ∀ c ∈ tl x, p c) → ∀ c ∈ tl (Str.join y xs), p c
  | [], _, c, hc => by cases hc
  | [x], h, c, hc => h x List.mem_cons_self c hc
  | x :: z :: r, h, c, hc => by
    have hc : c ∈ tl (x ++ y ++ Str.join y (z :: r)) := hc
    rw [tl_append, tl_append, List.mem_append, List.mem_append] at hc
    rcases hc with (hc | hc) | hc
    · exact h x List.mem_cons_self c hc
    · exact hy c hc
    · exact join_chars hy (fun w hw => h w (List.mem_cons_of_mem _ hw)) c hc
theorem txt_join (y : Str) (xs : List Str) : Txt.join y xs = Str.join y xs := join_eq y xs
/-- the words of stretches -/
def wds : List (Int × Int) → List Str
  | [] => []
  | q :: qs => it q.1 :: it q.2 :: wds qs
def nums : List (Int × Int) → List Int
  | [] => []
  | q :: qs => q.1 :: q.2 :: nums qs
theorem wds_it : ∀ {qs : List (Int × Int)}, wds qs = (nums qs).map it
  | [] => rfl
  | q :: qs => by rw [wds, nums, List.map_cons, List.map_cons, wds_it]
theorem wds_len : ∀ {qs : List (Int × Int)}, (wds qs).length = 2 * qs.length
  | [] => rfl
  | q :: qs => by
    rw [wds, List.length_cons, List.length_cons, wds_len, List.length_cons]
    omega
theorem nums_len : ∀ {qs : List (Int × Int)}, (nums qs).length = 2 * qs.length
  | [] => rfl
  | q :: qs => by
    rw [nums, List.length_cons, List.length_cons, nums_len, List.length_cons]
    omega
theorem nums_at : ∀ {qs : List (Int × Int)} {k : Nat} {q : Int × Int}, qs[k]? = some q → (nums qs).drop (2 * k) = q.1 :: q.2 :: nums (qs.drop (k + 1))
  | [], k, q, h => by simp at h
  | p :: qs, 0, q, h => by
    cases h
    rfl
  | p :: qs, k + 1, q, h => by
    have := nums_at (qs := qs) (k := k) (q := q) h
    rw [show 2 * (k + 1) = 2 * k + 1 + 1 by omega, nums, List.drop_succ_cons, List.drop_succ_cons, this, List.drop_succ_cons]
theorem nums_mem : ∀ {qs : List (Int × Int)} {i : Int}, i ∈ nums qs → ∃ q ∈ qs, i = q.1 ∨ i = q.2
  | q :: qs, i, h => by
    rw [nums] at h
    rcases List.mem_cons.mp h with rfl | h
    · exact ⟨q, List.mem_cons_self, .inl rfl⟩
    · rcases List.mem_cons.mp h with rfl | h
      · exact ⟨q, List.mem_cons_self, .inr rfl⟩
      · obtain ⟨p, hp, e⟩ := nums_mem h
        exact ⟨p, List.mem_cons_of_mem _ hp, e⟩
theorem stT_wds : ∀ {q : Int × Int} {qs : List (Int × Int)}, stT (q :: qs) = Str.join " " (wds (q :: qs))
  | q, [] => by
    unfold stT
    rw [txt_join]
    show spT q = it q.1 ++ " " ++ it q.2
    unfold spT
    rw [Str.append_assoc]
    rfl
  | q, p :: qs => by
    have ih := stT_wds (q := p) (qs := qs)
    unfold stT at ih ⊢
    rw [txt_join] at ih ⊢
    show spT q ++ " " ++ Str.join " " ((p :: qs).map spT) = it q.1 ++ " " ++ (it q.2 ++ " " ++ Str.join " " (wds (p :: qs)))
    rw [ih]
    unfold spT
    rw [Str.append_assoc, Str.append_assoc, Str.append_assoc, Str.append_assoc, Str.append_assoc]
    rfl
theorem rwT_wds {r : Rw} (h : r.2 ≠ []) : rwT r = Str.join " " (r.1 :: wds r.2) := by
  obtain ⟨x, qs⟩ := r
  cases qs with
  | nil => exact absurd rfl h
  | cons q qs =>
    show x ++ (" " ++ stT (q :: qs)) = x ++ " " ++ Str.join " " (wds (q :: qs))
    rw [stT_wds, Str.append_assoc]
theorem tl_sp : tl (" " : Str) = [32] := rfl
theorem tl_nl : tl ("\n" : Str) = [10] := rfl
theorem split_row {r : Rw} (h : r.2 ≠ []) (hn : isName (.str r.1) = true) : Txt.split (rwT r) " " = r.1 :: wds r.2 := by
  rw [rwT_wds h, ← txt_join]
  refine split_join tl_sp (by decide +kernel) (by simp) fun p hp => ?_
  rcases List.mem_cons.mp hp with rfl | hp
  · intro z
    have := nm_chars hn 32 z
    omega
  · rw [wds_it] at hp
    obtain ⟨i, _, rfl⟩ := List.mem_map.mp hp
    intro z
    have := it_chars i 32 z
    omega
theorem split_cols {cs : List Str} (h : cs ≠ []) (hn : ∀ x ∈ cs, isName (.str x) = true) : Txt.split (Txt.join " " cs) " " = cs :=
  split_join tl_sp (by decide +kernel) h fun p hp z => by
    have := nm_chars (hn p hp) 32 z
    omega
theorem split_page {cs : List Str} {rs : List Rw} (g : Good cs rs) : Txt.split (pageT cs rs) "\n" = Txt.join " " cs :: rs.map rwT := by
  unfold pageT
  refine split_join tl_nl (by decide +kernel) (by simp) fun p hp => ?_
  have sp : ∀ c ∈ tl (" " : Str), c ≠ 10 := by decide
  rcases List.mem_cons.mp hp with rfl | hp
  · intro z
    rw [txt_join] at z
    exact join_chars (p := fun c => c ≠ 10) sp (fun x hx c hc => by
      have := nm_chars (g.cnm x hx) c hc
      omega) 10 z rfl
  · obtain ⟨r, hr, rfl⟩ := List.mem_map.mp hp
    intro z
    have ne : r.2 ≠ [] := fun e => by
      have := g.rl r hr
      rw [e] at this
      have := g.c1
      simp at *
      omega
    rw [rwT_wds ne] at z
    refine join_chars (p := fun c => c ≠ 10) sp (fun x hx c hc => ?_) 10 z rfl
    rcases List.mem_cons.mp hx with rfl | hx
    · have := nm_chars (g.rnm r hr) c hc
      omega
    · rw [wds_it] at hx
      obtain ⟨i, _, rfl⟩ := List.mem_map.mp hx
      have := it_chars i c hc
      omega
theorem rwT_len {r : Rw} (hn : isName (.str r.1) = true) (hl : r.2.length ≤ 4) (hs : ∀ q ∈ r.2, -10000 ≤ q.1 ∧ q.1 ≤ q.2 ∧ q.2 ≤ 10000) : (rwT r).length ≤ 65 := by
  have w1 := name_len hn
  have w2 := stT_len hl hs
  have l3 : ((" " : Str)).length = 1 := by decide
  unfold rwT
  rw [Str.length_append, Str.length_append]
  omega
theorem page_len {cs : List Str} {rs : List Rw} (g : Good cs rs) : (pageT cs rs).length ≤ 700 := by
  have c4 := g.c4
  have r8 := g.r8
  have l3 : ((" " : Str)).length = 1 := by decide
  have l4 : (("\n" : Str)).length = 1 := by decide
  have z2 := join_lenT (y := " ") (xs := cs) (b := 8) fun x hx => name_len (g.cnm x hx)
  rw [l3] at z2
  have z := join_lenT (y := "\n") (xs := Txt.join " " cs :: rs.map rwT) (b := 65) fun x hx => by
    rcases List.mem_cons.mp hx with rfl | hx
    · omega
    · obtain ⟨r, hr, rfl⟩ := List.mem_map.mp hx
      obtain ⟨q1, q2, q3⟩ := g.row hr
      exact rwT_len q1 q2 q3
  rw [l4, List.length_cons, List.length_map] at z
  unfold pageT
  omega
end Cs
set_option maxHeartbeats 4000000
/-! Tables as objects, over data: len, str, bool, ==, !=, stretch, made by keywords. -/
namespace Cs
open PySem L2 L2H PyProof.Rows TL
local macro_rules | `(tactic| walk_at "goD3") => `(tactic| try dsimp only [gName, tSeq, tAsg, tRet, tLst, tCons, tOp, tTup, tCall, tNil, tC, tDrop, tCB, tPar, tNext, tM1, tJs, tAndV])
/-- special methods of the class at C -/
structure SpcT (K : PySem.W.Frag) (C fl fs fe : Addr) : Prop where
  len : PySem.W.findIn K (.ref C) "__len__" = some (some (.ref fl))
  lenf : PySem.W.isFn K (.ref fl) = true
  str : PySem.W.findIn K (.ref C) "__str__" = some (some (.ref fs))
  strf : PySem.W.isFn K (.ref fs) = true
  eq : PySem.W.findIn K (.ref C) "__eq__" = some (some (.ref fe))
  eqf : PySem.W.isFn K (.ref fe) = true
  ne : PySem.W.findIn K (.ref C) "__ne__" = some (some (.builtin "object.__ne__"))
  bo : PySem.W.findIn K (.ref C) "__bool__" = some none
  ob : PySem.W.subIn K (.ref C) (.type "object") = some true
/-- no data is of the class at C -/
def NoIns (K : PySem.W.Frag) (C : Addr) : Prop := ∀ d : PyData, PySem.W.kitOne K (.type (tyD d)) (.ref C) = some false
def SpEqA (C : Addr) : Sp := fun vs H Q _ => (∃ (p t u : Addr) (cs : List Str) (rs : List Rw) (cs2 : List Str) (rs2 : List Rw), vs = [.ref t, .ref u] ∧ TabD C p H t cs rs ∧ TabD C p H u cs2 rs2 ∧ Tidy cs rs ∧ Tidy cs2 rs2 ∧ Q (.bl (sameT cs rs cs2 rs2)) H) ∨
  ∃ (p t : Addr) (v : V) (d : PyData), vs = [.ref t, v] ∧ Rp p H v d ∧ Q (.bl false) H
section
variable {P : Program} {w : World} {K : PySem.W.Frag} {mg : Str → Option Value} {base : Heap} {C : Addr}
theorem sc_t_eqA : FnScope ["self", "other"] ["self", "other"] (defScope (inClass (topS 33) 7)) := ⟨rfl, rfl, rfl, by decide +kernel, rfl, by decide +kernel, by decide +kernel⟩
theorem ok_t_eqA {f : Addr} {fd : FuncData} {q : Str} (F : FunD K "__eq__" q (defArgs (inClass (topS 33) 7)) (defBody (inClass (topS 33) 7)) (defScope (inClass (topS 33) 7)) [] [] f fd) (TC : TabC K C) (T : Txt mg) (G : TabG mg C) (NI : NoIns K C) : FnOk P w K mg base CX0 1 f fd ["self", "other"] (SpEqA C) := by
  refine F.ok sc_t_eqA (fun vs H Q E h => by rcases h with ⟨_, _, _, _, _, _, _, rfl, _⟩ | ⟨_, _, _, _, rfl, _⟩ <;> rfl) fun cdv A outer s H vs Q E hr h => ?_
  have nd := sc_t_eqA.nd
  have hu64 := hr.units
  refine ⟨_, PSs.nox (pss_one (ps_ret (pe_and (pe_callB call_isi (by rfl) T.isinstance_ (by decide +kernel) (pa_cons (pv 1) (pa_cons (C8.pe_gc rfl G.v_Table) pa_nil))) (pe_and (pe_cmpR (opEq hu64) (pe_fld (pv 0) rfl) (pe_fld (pv 1) rfl) (nomark _)) (pe_one (pe_cmpR (opEq hu64) (pe_fld (pv 0) rfl) (pe_fld (pv 1) rfl) (nomark _))))))), ?_⟩
  rcases h with ⟨p, t, u, cs, rs, cs2, rs2, rfl, ht, hu, td, td2, k⟩ | ⟨p, t, v, d, rfl, rv, k⟩
  · obtain ⟨dx, vc, vr, h1, h2, h3⟩ := ht
    obtain ⟨dy, wc, wr, j1, j2, j3⟩ := hu
    walk_at "goD3"
    refine ⟨_, rfl, _, _, _, .ref C, true, rfl, .own _, .base (.ins j1 TC.c TC.ha TC.hn TC.ht TC.hm), TC.ki, true, rfl, iteT ?_⟩
    refine ⟨_, rfl, t, C, dx, _, vc, rfl, h1, TC.c, TC.n1, rfl, _, rfl, u, C, dy, _, wc, rfl, j1, TC.c, TC.n1, rfl, ?_⟩
    refine .inr ⟨_, _, h2.dp, j2.dp, td.c, td2.c, _, rfl, ?_⟩
    have fin : ∀ b, sameT cs rs cs2 rs2 = b → Q (.bl b) H := fun b e => e ▸ k
    cases e : (dCols cs).eqv (dCols cs2) with
    | false => exact iteF (fin _ (by unfold sameT; rw [e]; rfl))
    | true =>
      refine iteT ⟨_, rfl, t, C, dx, _, vr, rfl, h1, TC.c, TC.n2, rfl, _, rfl, u, C, dy, _, wr, rfl, j1, TC.c, TC.n2, rfl, ?_⟩
      exact .inr ⟨_, _, h3.dp, j3.dp, td.r, td2.r, fin _ (by unfold sameT; rw [e]; rfl)⟩
  · walk_at "goD3"
    exact ⟨_, rfl, _, _, _, _, false, rfl, .own _, rv.ty, NI d, false, rfl, iteF k⟩
end
/-! ### over data -/
theorem TabI.sld {C : Addr} {cs : List Str} {rs : List Rw} : Sld (TabI C cs rs) := fun x H H' h k => by
  obtain ⟨t, dx, vc, vr, rfl, h1, ⟨l, vs, rfl, fz, hl, d⟩, h3⟩ := h
  have dc : Dn NF H (.ref l) (dCols cs) := .tup (fun z => z) fz.rd hl d
  have fz' : Fz H' l vs := fz.keep fun o e => by
    obtain ⟨o2, e2, _⟩ := fz
    rw [e2] at e
    cases e
    exact k _ _ ⟨fun xs z => (by cases z), fun xs z => (by cases z)⟩ e2
  refine ⟨t, dx, _, vr, rfl, k _ _ ⟨fun xs z => (by cases z), fun xs z => (by cases z)⟩ h1, ⟨l, vs, rfl, fz', hl, ?_⟩, dn_sld imm_rows h3 k⟩
  have ev := dn_strs d
  subst ev
  have : ∀ {xs : List Str}, DnA NF H (xs.map V.str) (xs.map PyData.str) → DnA NF H' (xs.map V.str) (xs.map PyData.str) := by
    intro xs
    induction xs with
    | nil => exact fun _ => .nil
    | cons x xs ih =>
      intro q
      cases q with
      | cons q1 q2 =>
        cases q1 with
        | str _ hx => exact .cons (.str x hx) (ih q2)
  exact this d
theorem TabJ.sld {C : Addr} {cs : List Str} {rs : List Rw} : Sld (TabJ C cs rs) := fun x H H' h k => by
  obtain ⟨t, dx, vc, vr, rfl, h1, h2, h3⟩ := h
  exact ⟨t, dx, vc, vr, rfl, k _ _ ⟨fun xs z => (by cases z), fun xs z => (by cases z)⟩ h1, dn_sld imm_cols h2 k, dn_sld imm_rows h3 k⟩
def xLenO (C : Addr) (a : XA) : XE := ⟨fun ε K => a.run ε fun rs ε1 => ∃ P cs rows, rs = [.o P] ∧ (∀ v H, P v H → TabJ C cs rows v H) ∧ Good cs rows ∧ K (.d (.int (rows.length : Nat))) ε1, fun h q => a.mono (fun _ _ ⟨P, cs, rows, e, a, g, k⟩ => ⟨P, cs, rows, e, a, g, h _ _ k⟩) q⟩
def xStrO (C : Addr) (a : XA) : XE := ⟨fun ε K => a.run ε fun rs ε1 => ∃ P cs rows, rs = [.o P] ∧ (∀ v H, P v H → TabJ C cs rows v H) ∧ Good cs rows ∧ K (.d (.str (pageT cs rows))) ε1, fun h q => a.mono (fun _ _ ⟨P, cs, rows, e, a, g, k⟩ => ⟨P, cs, rows, e, a, g, h _ _ k⟩) q⟩
def xBoolO (C : Addr) (a : XA) : XE := ⟨fun ε K => a.run ε fun rs ε1 => ∃ P cs rows, rs = [.o P] ∧ (∀ v H, P v H → TabJ C cs rows v H) ∧ Good cs rows ∧ K (.d (.bool true)) ε1, fun h q => a.mono (fun _ _ ⟨P, cs, rows, e, a, g, k⟩ => ⟨P, cs, rows, e, a, g, h _ _ k⟩) q⟩
def xOwn (neg : Bool) (C : Addr) (a b : XE) : XE := ⟨fun ε K => a.run ε fun r ε1 => b.run ε1 fun s ε2 => ∃ P cs rs z, r = .o P ∧ (∀ v H, P v H → TabJ C cs rs v H) ∧ Good cs rs ∧
    ((∃ P2 cs2 rs2, s = .o P2 ∧ (∀ v H, P2 v H → TabJ C cs2 rs2 v H) ∧ Good cs2 rs2 ∧ z = sameT cs rs cs2 rs2) ∨ (∃ P2 d, s = .o P2 ∧ (∀ v H, P2 v H → Dn NF H v d) ∧ z = false)) ∧ K (.d (.bool (if neg then !z else z))) ε2,
  fun h q => a.mono (fun _ _ q => b.mono (fun _ _ ⟨P, cs, rs, z, e1, e2, g, e3, k⟩ => ⟨P, cs, rs, z, e1, e2, g, e3, h _ _ k⟩) q) q⟩
section
variable {X : Cx} {Ex : Expr} {C : Addr} {E : XK} {a : XA}
theorem x_lenO (h : PE X Ex (tCB (rLenI C (SpLn C) E) (upA a))) : PE X Ex (up (xLenO C a)) :=
  pe_wk h fun σ H Q ⟨Γ, ε, T, R0, k⟩ => upA1 R0 k fun rs vs ε1 T1 H1 ⟨P, cs, rows, e, hP, g, k⟩ R1 s1 d1 => by
    subst e
    obtain ⟨v, rfl, d⟩ := den1 d1
    have d : Stb (Mx Γ ε1 T1 σ) H1 P v := d
    obtain ⟨t, rfl, td, ht, nt⟩ := (hP v H1 d.now).d
    obtain ⟨dx, vc, vr, h1, h2, h3⟩ := id td
    have := g.r8
    exact ⟨t, dx, _, rfl, h1, t, t, cs, rows, rfl, td, rows.length, rfl, by omega, k _ T1 H1 R1 s1 (.int _)⟩
theorem x_boolO (h : PE X Ex (tCB (rBoolI C (SpLn C) E) (upA a))) : PE X Ex (up (xBoolO C a)) :=
  pe_wk h fun σ H Q ⟨Γ, ε, T, R0, k⟩ => upA1 R0 k fun rs vs ε1 T1 H1 ⟨P, cs, rows, e, hP, g, k⟩ R1 s1 d1 => by
    subst e
    obtain ⟨v, rfl, d⟩ := den1 d1
    have d : Stb (Mx Γ ε1 T1 σ) H1 P v := d
    obtain ⟨t, rfl, td, ht, nt⟩ := (hP v H1 d.now).d
    obtain ⟨dx, vc, vr, h1, h2, h3⟩ := id td
    have := g.r8
    have r1 := g.r1
    have e : (rows.length != 0) = true := by
      rw [bne_iff_ne]
      omega
    refine ⟨t, dx, _, rfl, h1, t, t, cs, rows, rfl, td, rows.length, rfl, by omega, ?_⟩
    rw [e]
    exact k _ T1 H1 R1 s1 (.bl _)
theorem x_strO (h : PE X Ex (tCB (rStrI C (SpStr C) E) (upA a))) : PE X Ex (up (xStrO C a)) :=
  pe_wk h fun σ H Q ⟨Γ, ε, T, R0, k⟩ => upA1 R0 k fun rs vs ε1 T1 H1 ⟨P, cs, rows, e, hP, g, k⟩ R1 s1 d1 => by
    subst e
    obtain ⟨v, rfl, d⟩ := den1 d1
    have d : Stb (Mx Γ ε1 T1 σ) H1 P v := d
    obtain ⟨t, rfl, td, ht, nt⟩ := (hP v H1 d.now).d
    obtain ⟨dx, vc, vr, h1, h2, h3⟩ := id td
    exact ⟨t, dx, _, rfl, h1, t, t, cs, rows, rfl, td, g, fun H' s => ⟨_, rfl, k _ T1 H' (R1.same s) (s1.same s) (.str _ (Nat.le_trans (page_len g) (by decide)))⟩⟩
theorem own_eqA {neg : Bool} {ta tb : XE} {σ : L2.St} {H : Hp} {Q : VK} (h : up (xOwn neg C ta tb) σ H Q) : tOp (rEqA neg C (SpEqA C) E) (up ta) (up tb) σ H Q := by
  obtain ⟨Γ, ε, T, R, k⟩ := h
  refine up2 R k fun r s x y ε2 T2 H2 ⟨P, cs, rs, z, e1, hP, g, e3, kk⟩ R2 s2 d1 d2 => ?_
  subst e1
  have d1 : Stb (Mx Γ ε2 T2 σ) H2 P x := d1
  obtain ⟨t, rfl, td, ht, nt⟩ := (hP x H2 d1.now).d
  obtain ⟨dx, vc, vr, h1, h2, h3⟩ := id td
  have fin := kk (.bl (if neg then !z else z)) T2 H2 R2 s2 (.bl _)
  rcases e3 with ⟨P2, cs2, rs2, e4, hP2, g2, e5⟩ | ⟨P2, d, e4, hP2, e5⟩
  · subst e4 e5
    have d2 : Stb (Mx Γ ε2 T2 σ) H2 P2 y := d2
    obtain ⟨u, dy, wc, wr, rfl, j1, j2, j3⟩ := hP2 y H2 d2.now
    have hu : TabD C t H2 u cs2 rs2 := ⟨dy, wc, wr, j1, j2.rpt (ins_not h1) imm_cols, j3.rpt (ins_not h1) imm_rows⟩
    exact ⟨t, dx, _, rfl, h1, .inr ⟨u, dy, _, rfl, j1⟩, .inl ⟨t, t, u, cs, rs, cs2, rs2, rfl, td, hu, g.tidy, g2.tidy, _, rfl, fin⟩⟩
  · subst e4 e5
    have d2 : Stb (Mx Γ ε2 T2 σ) H2 P2 y := d2
    have dn := hP2 y H2 d2.now
    obtain ⟨m, rp⟩ := dn.rpx
    exact ⟨t, dx, _, rfl, h1, .inl ⟨m, d, rp m (Nat.le_refl _)⟩, .inr ⟨m, t, y, d, rfl, rp m (Nat.le_refl _), _, rfl, fin⟩⟩
theorem x_own {neg : Bool} {ta tb : XE} (h : PE X Ex (tOp (rEqA neg C (SpEqA C) E) (up ta) (up tb))) : PE X Ex (up (xOwn neg C ta tb)) := pe_wk h fun _ _ _ q => own_eqA q
theorem xt_own {neg : Bool} {ta tb : XE} (h : PT X Ex (tTest (tOp (rEqA neg C (SpEqA C) E) (up ta) (up tb)))) : PT X Ex (upT (xTest (xOwn neg C ta tb))) := xt_of (tTest_wk h fun _ _ _ q => own_eqA q)
end
/-! ### stretch -/
def RSx (C : Addr) : DR := ⟨fun _ as K => ∃ (P : V → Hp → Prop) (cs : List Str) (rs : List Rw) (r : Rw) (y : Str) (i j : Nat) (q : Int × Int), as = [.o P, .d (.str r.1), .d (.str y)] ∧ (∀ v H, P v H → TabI C cs rs v H) ∧ Good cs rs ∧ rs[i]? = some r ∧ cs[j]? = some y ∧ r.2[j]? = some q ∧ K (.d (dSp q)) 0,
  fun h ⟨P, cs, rs, r, y, i, j, q, e, a, b, c, d, f, k⟩ => ⟨P, cs, rs, r, y, i, j, q, e, a, b, c, d, f, h _ _ k⟩⟩
theorem ad_sx {C : Addr} {vs : List V} {H : Hp} {Q : VK} {E : XK} (h : SpD false (RSx C) vs H Q E) : SpSx C vs H Q E := by
  obtain ⟨p, M, n, as, pm, ph, ml, _, ag, P, cs, rs, r, y, i, j, q, rfl, hP, g, hi, hj, hq, k⟩ := h
  obtain ⟨v, w, u, rfl, h1, h2, h3⟩ := arg3 ag
  cases h2
  cases h3
  have h1 : Stb M H P v := h1
  obtain ⟨t, rfl, td, tf, ht, nt⟩ := (hP _ _ h1.now).f
  exact ⟨t, t, cs, rs, r, y, i, j, q, rfl, ht, td, tf, g, hi, hj, hq, fun v H' s rv => k v H' s (RpT.dn (fun a xs _ => back ml ph s a xs) rv)⟩
/-- an own method by keywords alone; they stand the other way round -/
def xMethK (C : Addr) (m : Str) (R : DR) (o : XE) (a : XA) : XE := ⟨fun ε K => o.run ε fun r ε1 => ∃ P, r = .o P ∧ InsM C m P ∧ a.run ε1 fun rs ε2 => ∃ rs', kas rs = some rs' ∧ R.run 0 (.o P :: rs'.reverse) fun r n' => okRes r = true ∧ K r ε2,
  fun h q => o.mono (fun _ _ ⟨P, e, i, q⟩ => ⟨P, e, i, a.mono (fun _ _ ⟨rs, e1, w⟩ => ⟨rs, e1, R.mono (fun _ _ k => ⟨k.1, h _ _ k.2⟩) w⟩) q⟩) q⟩
theorem x_methK {X : Cx} {Ex : Expr} {C : Addr} {m : Str} {R : DR} {o : XE} {a : XA} {E : XK} {sp : Sp} {n : Nat} (h : PE X Ex (tMethK C m n sp (fun vs zs => vs ++ zs.reverse) E (up o) (upA a))) (hm : ∀ k rs K, R.run k rs K → rs.length = n + 1) (ad : ∀ vs H Q, SpD false R vs H Q E → sp vs H Q E) : PE X Ex (up (xMethK C m R o a)) :=
  pe_wk h fun σ H Q ⟨Γ, ε, T, R0, k⟩ => up1 R0 k fun r x ε1 T1 H1 ⟨P, er, im, g⟩ R1 s1 d1 => by
    subst er
    have hP : P x H1 := d1 H1 fun _ _ _ h => h
    obtain ⟨b, dx, fs, rfl, hb, hl⟩ := im x H1 hP
    refine ⟨b, dx, fs, rfl, hb, hl, upA1 R1 g fun rs vs ε2 T2 H2 ⟨rs', e1, w⟩ R2 s2 d2 => ?_⟩
    have dd : DenA Γ ε2 T2 σ H (.o P :: rs) (.ref b :: vs) H2 := .cons (d1.step R1 s2) (d2.early fun a => s1.none R0.hp) (fun xs a e => nomatch e)
    have e1' : kas (.o P :: rs) = some (.o P :: rs') := by
      show (kas rs).map _ = _
      rw [e1]
      rfl
    have lw := hm _ _ _ w
    rw [List.length_cons, List.length_reverse] at lw
    have ll := arg_len (kas_arg R0 R2 (s1.trans R0.hp s2) dd e1')
    rw [List.length_cons, List.length_cons] at ll
    refine ⟨by omega, ?_⟩
    refine ad _ H2 Q (call_core (B := false) (n := 0) (rs2 := .o P :: rs'.reverse) (vs2 := .ref b :: vs.reverse) (K := fun r ε' => ∀ v T' H', Rep Γ ε' T' σ H' → Stp Γ ε T ε' T' σ H H' → Den Γ ε' T' σ H r v H' → Q v H') R0 R2 (s1.trans R0.hp s2) dd e1' (fun h => ?_) nofun w fun r ε' v T' H' w R' s' d' => w v T' H' R' s' d')
    cases h with
    | cons h t => exact .cons h (argA_rev t)
/-! ### Table(rows = .., columns = ..) -/
def xTabK (C : Addr) (a : XA) : XE := ⟨fun ε K => a.run ε fun rs ε1 => ∃ cs rows, kas rs = some [.d (dRows rows), .o (WhP (cs.map PyData.str))] ∧ Good cs rows ∧ K (.o (TabI C cs rows)) ε1, fun h q => a.mono (fun _ _ ⟨cs, rows, e, g, k⟩ => ⟨cs, rows, e, g, h _ _ k⟩) q⟩
theorem x_tabK {X : Cx} {Ex : Expr} {C : Addr} {a : XA} {E : XK} {n : Nat} (h : PE X Ex (tMakeK C 0 n (SpTO C) (fun vs zs => vs ++ zs.reverse) E tNil (upA a))) (hn : n = 2 := by rfl) : PE X Ex (up (xTabK C a)) :=
  pe_wk h fun σ H Q ⟨Γ, ε, T, R0, k⟩ => upA1 R0 k fun rs vs ε1 T1 H1 ⟨cs, rows, e, g, kk⟩ R1 s1 d1 => by
    have ag := kas_arg R0 R1 s1 d1 e
    have R2 := R1.less (T' := T) s1.t
    obtain ⟨vr, vc, rfl, h2, h1⟩ := arg2 ag
    refine ⟨rfl, hn.symm, fun x dx hx hd hne => ?_⟩
    have h1 : Stb (Mx Γ ε1 T σ) H1 (WhP (cs.map PyData.str)) vc := h1
    have h2 : Dn (Mx Γ ε1 T σ) H1 vr (dRows rows) := h2
    obtain ⟨l, vs, e2, fz, hl, d⟩ := h1.now
    subst e2
    have s : Same H1 (upd (upd H1 dx (.own x)) x (.ins C dx [])) := fun b o hb => by
      rw [upd_ne (ne_of_none hb hx), upd_ne (ne_of_none hb hd)]
      exact hb
    have hdx : upd (upd H1 dx (.own x)) x (.ins C dx []) dx = some (.own x) := by rw [upd_ne hne, upd_same]
    have nd : ∀ xs, ¬ Rd (upd (upd H1 dx (.own x)) x (.ins C dx [])) dx (.tup xs) := fun xs r => by
      rcases r with r | ⟨u, r⟩ <;> (rw [hdx] at r; cases r)
    have dc : Dn NF H1 (.ref l) (dCols cs) := .tup (fun z => z) fz.rd hl d
    have dr : Dn NF H1 vr (dRows rows) := h2.imm (fun _ _ _ z => z) imm_rows
    refine ⟨dx, x, dx, _, vr, cs, rows, rfl, upd_same, fun z => hne z.symm, (dc.go (Fit2.same s)).rpt nd imm_cols, (dr.go (Fit2.same s)).rpt nd imm_rows, g, fun H2 ex ea => ⟨rfl, ?_⟩⟩
    have s2 : Same H1 H2 := fun b o hb => ex b o (ne_of_none hb hx) (s _ _ hb)
    have R3 := R2.same s2
    exact kk _ T H2 R3 (s1.drop.same s2) (TabI.stb R3.lists R3.hp ⟨x, dx, _, vr, rfl, ea, ⟨l, vs, rfl, fz.keep fun o h => s2 _ _ h, hl, d.go (Fit2.same s2)⟩, dr.go (Fit2.same s2)⟩)
end Cs
set_option maxHeartbeats 4000000
local macro_rules | `(tactic| walk_at "xg") => `(tactic| try dsimp only [Cs.xRet, Cs.xRetN, Cs.xOp, Cs.xUn, Cs.xV, Cs.xB, Cs.xC, Cs.xCall, Cs.xCons, Cs.xNil, Cs.xBi, Cs.xSeq, Cs.xSet, Cs.xSets, Cs.xIfS, Cs.xTest, Cs.xTup, Cs.xLst, Cs.xAndV, Cs.xOrV, Cs.xNotV, Cs.xNot, Cs.xAndT, Cs.xOrT, Cs.xIf, Cs.xSl, Cs.xNoPart, Cs.xPart, Cs.xiL, Cs.xiB, Cs.xiT, Cs.xiR1, Cs.xiR2, Cs.xiS, Cs.xiZ, Cs.xiE, Cs.xgN, Cs.xgT, Cs.xgNil, Cs.xgCons, Cs.xYes, Cs.xDrop, Cs.xApp, Cs.xPopS, Cs.xPopA, Cs.xAsg, Cs.xNext, Cs.xNev, Cs.xChain, Cs.xIsi, Cs.xRaw, Cs.okEnd, Cs.toAV, Cs.setP, Cs.aftP, Cs.xCallK, Cs.xMeth, Cs.xProp, Cs.xTab, Cs.xW, Cs.xM1, Cs.xRv, Cs.xiR3, Cs.xTupW, Cs.xLenO, Cs.xStrO, Cs.xBoolO, Cs.xOwn, Cs.xMethK, Cs.xTabK, Cs.xLstO, Cs.xiO, Cs.elA, Cs.turnO, Cs.xWp, List.map, List.replicate, List.length_cons, List.length_nil, List.cons_append, List.nil_append, List.set_cons_succ, List.set_cons_zero, Nat.add_sub_cancel, Nat.sub_self, Nat.reduceSub, Nat.reduceAdd, eq_self, ↓reduceIte])
local macro_rules | `(tactic| walk_at "xw") => `(tactic| try dsimp only [Cs.lcTurn, Cs.wipeA, List.set_cons_succ, List.set_cons_zero])
local macro_rules | `(tactic| walk_at "x") => `(tactic| first
  | (with_reducible refine Eq.mpr (if_pos ?_) ?_; exact rfl)
  | (with_reducible refine Eq.mpr (if_neg ?_) ?_; exact Bool.false_ne_true)
  | refine ⟨_, rfl, ?_⟩
  | refine ⟨rfl, ?_⟩
  | refine ⟨_, _, rfl, rfl, True.intro, ?_⟩
  | refine ⟨_, _, _, rfl, rfl, rfl, True.intro, ?_⟩
  | refine ⟨_, rfl, by exact Nat.le_of_ble_eq_true rfl, ?_⟩
  | refine ⟨by exact Nat.le_of_ble_eq_true rfl, ?_⟩
  | refine ⟨_, _, _, _, rfl, rfl, rfl, rfl, ?_⟩
  | refine ⟨_, _, rfl, ?_⟩
  | refine ⟨⟨_, rfl⟩, ?_⟩
  | refine ⟨_, _, rfl, fun _ => rfl, ?_⟩
  | refine ⟨_, 0, rfl, (fun z => (nomatch z)), ?_⟩
  | refine ⟨_, fun _ => rfl, ?_⟩
  | refine ⟨0, (fun z => (nomatch z)), ?_⟩
  | fail "x")
local macro_rules | `(tactic| walk_at "xs") => `(tactic| repeat' (walk_at "xg"; walk_at "x"))
local macro_rules | `(tactic| walk_at "sets") => `(tactic| (intro vs σ H Q hl hq; first
  | exact (match vs, hl, hq with | [_], _, q => ⟨_, _, rfl, rfl, q⟩)
  | exact (match vs, hl, hq with | [_, _], _, q => ⟨_, _, rfl, _, _, rfl, rfl, q⟩)
  | exact (match vs, hl, hq with | [_, _, _], _, q => ⟨_, _, rfl, _, _, rfl, _, _, rfl, rfl, q⟩)
  | fail "sets"))
/-! The law's page. -/
namespace Cs
open PySem L2 L2H PyProof.Rows TL
section
variable {P : Program} {w : World} {K : PySem.W.Frag} {mg : Str → Option Value} {base : Heap} {C : Addr}
def RPg : DR := ⟨fun _ as K => ∃ (cs : List Str) (rs : List Rw), as = [.o (WhP (cs.map PyData.str)), .d (dRows rs)] ∧ Good cs rs ∧ K (.d (.str (pageT cs rs))) 0, fun h ⟨cs, rs, e, a, k⟩ => ⟨cs, rs, e, a, h _ _ k⟩⟩
end
end Cs
set_option maxHeartbeats 4000000
/-! tuple(zip(t, l)): the pairs are kept. -/
namespace CsZip
open PySem
open PySem.Sem (wp)
theorem nq {a b : Nat} (h : a < b ∨ b < a) : @Ne Addr a b := fun e => by
  have e : a = b := e
  omega
theorem zip_no_len : typeLookup (.type "zip") "__len__" = pure none := by rw [typeLookup_type, builtinLookup_eq_fast]; kernel_rfl
theorem zip_no_hint : typeLookup (.type "zip") "__length_hint__" = pure none := by rw [typeLookup_type, builtinLookup_eq_fast]; kernel_rfl
theorem bB_at {t : Bool} {l : Addr} {xs : Array Value} {h h' : Heap} (b : bB t l xs h) (k : ∀ o, h.get? l = some o → h'.get? l = some o) : bB t l xs h' := by
  cases t with
  | true => obtain ⟨o, e, r⟩ := (show h.IsTuple l xs from b); exact ⟨o, k o e, r⟩
  | false => obtain ⟨o, e, r⟩ := (show h.IsList l xs from b); exact ⟨o, k o e, r⟩
theorem jB_at {t : Bool} {i l : Addr} {n : Nat} {h h' : Heap} (b : jB t i l n h) (k : ∀ o, h.get? i = some o → h'.get? i = some o) : jB t i l n h' := by
  cases t with
  | true => exact Heap.IsTupleIter.at b k
  | false => exact Heap.IsListIter.at b k
theorem jB_has {t : Bool} {i l : Addr} {n : Nat} {h : Heap} (b : jB t i l n h) : ∃ o, h.get? i = some o := by
  cases t with
  | true => obtain ⟨o, e, _⟩ := (show h.IsTupleIter i l n from b); exact ⟨o, e⟩
  | false => obtain ⟨o, e, _⟩ := (show h.IsListIter i l n from b); exact ⟨o, e⟩
section
variable {prog : Program} {w : World} {A : Around} {E : Value → Shared → Prop} {s : Shared} {z P O T i j l m : Addr} {f : Bool} {oT : Obj} {k n : Nat} {xs ys : Array Value} {x y a b : Value} {J1 J2 : Nat → Heap → Prop} {B1 B2 : Heap → Prop}
theorem stepH {Q : Value → Shared → Prop} (D : ZipApart z P O i j l m) (S1 : Src i l J1 B1 xs) (S2 : Src j m J2 B2 ys) (hz : IsZipHeld s.heap z P O T f) (hT : s.heap.get? T = some oT) (hP : IsPair s.heap P (.ref i) (.ref j)) (g1 : J1 k s.heap) (g2 : J2 n s.heap) (c1 : B1 s.heap) (c2 : B2 s.heap)
    (ex : xs[k]? = some x) (ey : ys[n]? = some y)
    (K : ∀ h', IsZipHeld h' z P O T true → J1 (k + 1) h' → J2 (n + 1) h' → IsPair h' s.heap.objs.size x y → h'.objs.size = s.heap.objs.size + 1 → (∀ c o, c ≠ z → c ≠ i → c ≠ j → s.heap.get? c = some o → h'.get? c = some o) →
      Q (.ref s.heap.objs.size) { s with heap := h' }) : wpAny (model prog w) A (Builtin.«zip.__next__» ⟨[.ref z], []⟩) (fun r t => ∃ v, r = .done (.ret v) ∧ Q v t) E s := by
  show wpAny _ _ (field (.ref z) 2 >>= _) _ _ s
  refine wpAny_bind (wpAny_field hz rfl (x := .bool false) rfl (show wpAny _ _ (field (.ref z) 3 >>= _) _ _ s from wpAny_bind (wpAny_field hz rfl (x := .ref P) rfl (wpAny_bind (wpAny_seqItems hP rfl ?_)))))
  refine (show wpAny _ _ (Builtin.SmallTypes.ownedTupleIsFree (.ref z) >>= _) _ _ s from wpAny_bind (wpAny_tupleHeld_zip hz hT fun h1 z1 t1 => ?_))
  simp only [Bool.false_eq_true, if_false]
  refine wpAny_bind ?_
  rw [← Array.forIn_toList]
  simp only [List.forIn_cons, List.forIn_nil]
  refine wpAny_bind (wpAny_bind (wpAny_holding (show wpAny _ _ (Builtin.SmallTypes.nextOf (.ref i) >>= _) _ _ _ from wpAny_bind (S1.go (s := { s with heap := h1 }) (S1.jx g1 t1.extBut D.i1z) (S1.bx c1 t1.extBut D.l1z) ex fun h2 u2 t2 => wpAny_pure (wpAny_pure ?_)))))
  refine wpAny_bind (wpAny_bind (wpAny_holding (show wpAny _ _ (Builtin.SmallTypes.nextOf (.ref j) >>= _) _ _ _ from wpAny_bind (S2.go (s := { s with heap := h2 }) (S2.jx (S2.jx g2 t1.extBut D.i2z) t2.extBut D.i12.symm) (S2.bx (S2.bx c2 t1.extBut D.l2z) t2.extBut D.l2i1) ey fun h3 u3 t3 => wpAny_pure (wpAny_pure (wpAny_pure ?_))))))
  show wpAny _ _ (newTuple [x, y] >>= _) _ _ _
  refine wpAny_bind (wpAny_newTuple ?_)
  have hsz : h3.objs.size = s.heap.objs.size := by rw [t3.1, t2.1, t1.1]
  have z3 : IsZipHeld h3 z P O T true := t3.extBut _ _ D.i2z.symm (t2.extBut _ _ D.i1z.symm z1)
  have hk : ∀ c o, c ≠ z → c ≠ i → c ≠ j → s.heap.get? c = some o → h3.get? c = some o := fun c o c1 c2 c3 e => t3.extBut _ _ c3 (t2.extBut _ _ c2 (t1.extBut _ _ c1 e))
  have v1 : J1 (k + 1) h3 := S1.jx u2 t3.extBut D.i12
  refine wpAny_pure ⟨_, rfl, ?_⟩
  show Q (.ref h3.objs.size) _
  have hp : IsPair (h3.push { cls := .type "tuple", data := .seq #[x, y] }) h3.objs.size x y := Heap.get?_push_size _ rfl
  have hz4 : (h3.push { cls := .type "tuple", data := .seq #[x, y] }).objs.size = h3.objs.size + 1 := Heap.size_push ..
  rw [hsz] at hp hz4 ⊢
  exact K _ (Heap.get?_push_of_some _ z3) (S1.ja v1 fun o e => Heap.get?_push_of_some _ e) (S2.ja u3 fun o e => Heap.get?_push_of_some _ e) hp hz4 fun c o c1 c2 c3 e => Heap.get?_push_of_some _ (hk c o c1 c2 c3 e)
theorem lastH {Q : Fin → Shared → Prop} (nh : A.handled = none) (D : ZipApart z P O i j l m) (S1 : Src i l J1 B1 xs) (S2 : Src j m J2 B2 ys) (hz : IsZipHeld s.heap z P O T f) (hT : s.heap.get? T = some oT) (hP : IsPair s.heap P (.ref i) (.ref j)) (g1 : J1 k s.heap) (g2 : J2 n s.heap) (c1 : B1 s.heap) (c2 : B2 s.heap)
    (ends : xs[k]? = none ∨ ys[n]? = none) (K : ∀ h' e, (∀ c o, c ≠ z → c ≠ i → c ≠ j → s.heap.get? c = some o → h'.get? c = some o) → (∃ o, h'.get? e = some o ∧ o.cls = .type "StopIteration") → E (.ref e) { s with heap := h' }) :
    wpAny (model prog w) A (Builtin.«zip.__next__» ⟨[.ref z], []⟩) Q E s := by
  show wpAny _ _ (field (.ref z) 2 >>= _) _ _ s
  refine wpAny_bind (wpAny_field hz rfl (x := .bool false) rfl (show wpAny _ _ (field (.ref z) 3 >>= _) _ _ s from wpAny_bind (wpAny_field hz rfl (x := .ref P) rfl (wpAny_bind (wpAny_seqItems hP rfl ?_)))))
  refine (show wpAny _ _ (Builtin.SmallTypes.ownedTupleIsFree (.ref z) >>= _) _ _ s from wpAny_bind (wpAny_tupleHeld_zip hz hT fun h1 z1 t1 => ?_))
  simp only [Bool.false_eq_true, if_false]
  refine wpAny_bind ?_
  rw [← Array.forIn_toList]
  simp only [List.forIn_cons, List.forIn_nil]
  refine wpAny_bind (wpAny_bind (wpAny_holding (show wpAny _ _ (Builtin.SmallTypes.nextOf (.ref i) >>= _) _ _ _ from ?_)))
  cases ex : xs[k]? with
  | none =>
    refine wpAny_bind (S1.fin (s := { s with heap := h1 }) nh (S1.jx g1 t1.extBut D.i1z) (S1.bx c1 t1.extBut D.l1z) ex fun h2 e t2 he => ?_)
    exact K h2 e (fun c o d1 d2 _ q => t2 _ _ d2 (t1.extBut _ _ d1 q)) he
  | some x =>
    have ey : ys[n]? = none := ends.resolve_left fun q => by rw [ex] at q; cases q
    refine wpAny_bind (S1.go (s := { s with heap := h1 }) (S1.jx g1 t1.extBut D.i1z) (S1.bx c1 t1.extBut D.l1z) ex fun h2 u2 t2 => wpAny_pure (wpAny_pure ?_))
    refine wpAny_bind (wpAny_bind (wpAny_holding (show wpAny _ _ (Builtin.SmallTypes.nextOf (.ref j) >>= _) _ _ _ from wpAny_bind (S2.fin (s := { s with heap := h2 }) nh (S2.jx (S2.jx g2 t1.extBut D.i2z) t2.extBut D.i12.symm) (S2.bx (S2.bx c2 t1.extBut D.l2z) t2.extBut D.l2i1) ey fun h3 e t3 he => ?_))))
    exact K h3 e (fun c o d1 d2 d3 q => t3 _ _ d3 (t2.extBut _ _ d2 (t1.extBut _ _ d1 q))) he
theorem nextH {Q : Option Value → Shared → Prop} (D : ZipApart z P O i j l m) (S1 : Src i l J1 B1 xs) (S2 : Src j m J2 B2 ys) (hz : IsZipHeld s.heap z P O T f) (hT : s.heap.get? T = some oT) (hP : IsPair s.heap P (.ref i) (.ref j)) (g1 : J1 k s.heap) (g2 : J2 n s.heap) (c1 : B1 s.heap) (c2 : B2 s.heap)
    (ex : xs[k]? = some x) (ey : ys[n]? = some y)
    (K : ∀ h', IsZipHeld h' z P O T true → J1 (k + 1) h' → J2 (n + 1) h' → IsPair h' s.heap.objs.size x y → h'.objs.size = s.heap.objs.size + 1 → (∀ c o, c ≠ z → c ≠ i → c ≠ j → s.heap.get? c = some o → h'.get? c = some o) →
      Q (some (.ref s.heap.objs.size)) { s with heap := h' }) : wpAny (model prog w) A (pyNext (.ref z)) Q E s := by
  have ty : s.TypeIs (.ref z) "zip" := ⟨_, hz, rfl⟩
  unfold pyNext
  exact wpAny_bind (wpAny_attempt (wpAny_callSpecial?_slot (name := Str.ofString "__next__") ty F.slot_zip_next (wpAny_call_entry F.slot_zip_next ty F.entry_zip_next
    (stepH D S1 S2 hz hT hP g1 g2 c1 c2 ex ey fun h' a1 a2 a3 a4 a5 a6 => wpAny_pure (K h' a1 a2 a3 a4 a5 a6)) (F.args_zip_next_1 _))))
theorem stopH {Q : Option Value → Shared → Prop} (nh : A.handled = none) (D : ZipApart z P O i j l m) (S1 : Src i l J1 B1 xs) (S2 : Src j m J2 B2 ys) (hz : IsZipHeld s.heap z P O T f) (hT : s.heap.get? T = some oT) (hP : IsPair s.heap P (.ref i) (.ref j)) (g1 : J1 k s.heap) (g2 : J2 n s.heap) (c1 : B1 s.heap) (c2 : B2 s.heap)
    (ends : xs[k]? = none ∨ ys[n]? = none) (K : ∀ h', (∀ c o, c ≠ z → c ≠ i → c ≠ j → s.heap.get? c = some o → h'.get? c = some o) → Q none { s with heap := h' }) : wpAny (model prog w) A (pyNext (.ref z)) Q E s := by
  have ty : s.TypeIs (.ref z) "zip" := ⟨_, hz, rfl⟩
  unfold pyNext
  refine wpAny_bind (wpAny_attempt (wpAny_callSpecial?_slot (name := Str.ofString "__next__") ty F.slot_zip_next (wpAny_call_entry F.slot_zip_next ty F.entry_zip_next (lastH nh D S1 S2 hz hT hP g1 g2 c1 c2 ends fun h' e hk ⟨o, ho, hc⟩ => ?_) (F.args_zip_next_1 _))))
  exact wpAny_bind (wpAny_isInstance (T := "StopIteration") (b := true) ⟨o, ho, hc⟩ isSubtype_stop (wpAny_pure (K _ hk)))
end
abbrev Prs (h : Heap) (T : Addr) (a b : Value) : Prop := IsPair h T a b
/-- what stands while the pairs are gathered: N: the size of the heap h0 before -/
structure Gz (h0 : Heap) (N : Nat) (t u : Bool) (l m : Addr) (xs ys : Array Value) (i : Nat) (acc : Array Value) (h : Heap) : Prop where
  kp : ∀ c o, h0.get? c = some o → h.get? c = some o
  P : IsPair h (N + 2) (.ref N) (.ref (N + 1))
  j1 : jB t N l i h
  j2 : jB u (N + 1) m i h
  z : (IsZip h (N + 4) (N + 2) (N + 3) .none ∧ ∃ a b, IsPair h (N + 3) a b) ∨ ∃ (T : Nat) (f : Bool) (oT : Obj), IsZipHeld h (N + 4) (N + 2) (N + 3) T f ∧ h.get? T = some oT ∧ N + 6 ≤ T
  ac : acc.size = i
  ps : ∀ (k : Nat) (v : Value), acc[k]? = some v → ∃ (p : Nat) (x y : Value), v = Value.ref p ∧ N + 6 ≤ p ∧ IsPair h p x y ∧ xs[k]? = some x ∧ ys[k]? = some y
  nd : ∀ (k k' : Nat) (v : Value), acc[k]? = some v → acc[k']? = some v → k = k'
  S : ∃ c, h.get? (N + 5) = some { cls := .type "list", dict := none, data := .seq acc c, slots := #[] }
  sz : N + 6 ≤ h.objs.size
section
variable {prog : Program} {w : World} {A : Around} {E : Value → Shared → Prop} {h0 : Heap} {t u : Bool} {l m : Addr} {xs ys : Array Value}
/-- the pair that came is put in -/
theorem Gz.put {N i : Nat} {acc : Array Value} {h h' : Heap} {p : Nat} {x y : Value} (D : ZipApart (N + 4) (N + 2) (N + 3) N (N + 1) l m) (b0 : ∀ (c : Nat) (o : Obj), h0.get? c = some o → c < N) (g : Gz h0 N t u l m xs ys i acc h) (hp : p = h.objs.size) (p0 : IsPair h' p x y) (ex : xs[i]? = some x) (ey : ys[i]? = some y)
    (k1 : jB t N l (i + 1) h') (k2 : jB u (N + 1) m (i + 1) h') (hz : ∃ (T : Nat) (f : Bool) (oT : Obj), IsZipHeld h' (N + 4) (N + 2) (N + 3) T f ∧ h'.get? T = some oT ∧ N + 6 ≤ T) (ss : h'.objs.size = h.objs.size + 1)
    (kk : ∀ c o, c ≠ N + 4 → c ≠ N + 3 → c ≠ N → c ≠ N + 1 → h.get? c = some o → h'.get? c = some o) : Gz h0 N t u l m xs ys (i + 1) (acc.push (.ref p)) (h'.update (N + 5) (Obj.mapSeq (·.push (.ref p)))) := by
  obtain ⟨c0, hS⟩ := g.S
  have hS' := kk _ _ (nq (by omega)) (nq (by omega)) (nq (by omega)) (nq (by omega)) hS
  have oth : ∀ c o, c ≠ N + 5 → h'.get? c = some o → (h'.update (N + 5) (Obj.mapSeq (·.push (.ref p)))).get? c = some o := fun c o hc e => (Heap.get?_update_other _ _ (Ne.symm hc)).trans e
  have all : ∀ c o, c ≠ N + 5 → c ≠ N + 4 → c ≠ N + 3 → c ≠ N → c ≠ N + 1 → h.get? c = some o → (h'.update (N + 5) (Obj.mapSeq (·.push (.ref p)))).get? c = some o := fun c o q1 q2 q3 q4 q5 e => oth c o q1 (kk c o q2 q3 q4 q5 e)
  have sz := g.sz
  refine ⟨fun c o e => ?_, all _ _ (nq (by omega)) (nq (by omega)) (nq (by omega)) (nq (by omega)) (nq (by omega)) g.P, jB_at k1 fun o e => oth _ o (nq (by omega)) e, jB_at k2 fun o e => oth _ o (nq (by omega)) e, ?_, by rw [Array.size_push, g.ac], fun k v e => ?_, fun k k' v e e' => ?_, ⟨_, Heap.get?_update_self _ hS' rfl⟩, ?_⟩
  · have := b0 c o e
    exact all c o (nq (by omega)) (nq (by omega)) (nq (by omega)) (nq (by omega)) (nq (by omega)) (g.kp c o e)
  · obtain ⟨T, f, oT, e1, e2, e3⟩ := hz
    exact .inr ⟨T, f, oT, oth _ _ (nq (by omega)) e1, oth _ _ (nq (by omega)) e2, e3⟩
  · rw [Array.getElem?_push, g.ac] at e
    split at e
    · rename_i q
      subst q
      cases e
      exact ⟨p, x, y, rfl, by omega, oth _ _ (nq (by omega)) p0, ex, ey⟩
    · obtain ⟨p', x', y', e1, e2, e3, e4, e5⟩ := g.ps k v e
      exact ⟨p', x', y', e1, e2, all _ _ (nq (by omega)) (nq (by omega)) (nq (by omega)) (nq (by omega)) (nq (by omega)) e3, e4, e5⟩
  · have old : ∀ k : Nat, acc[k]? = some (Value.ref p) → False := fun k e => by
      obtain ⟨p', x', y', e1, e2, e3, _⟩ := g.ps k _ e
      cases e1
      have q : p < h.objs.size := Heap.lt_size e3
      omega
    rw [Array.getElem?_push, g.ac] at e e'
    split at e
    · split at e'
      · omega
      · cases e
        exact (old _ e').elim
    · split at e'
      · cases e'
        exact (old _ e).elim
      · exact g.nd k k' v e e'
  · rw [Heap.size_update]
    omega
/-- what is left when all is gathered -/
structure Gf (h0 : Heap) (N : Nat) (xs ys : Array Value) (acc : Array Value) (h : Heap) : Prop where
  kp : ∀ c o, h0.get? c = some o → h.get? c = some o
  ac : acc.size = min xs.size ys.size
  ps : ∀ (k : Nat) (v : Value), acc[k]? = some v → ∃ (p : Nat) (x y : Value), v = Value.ref p ∧ N + 6 ≤ p ∧ IsPair h p x y ∧ xs[k]? = some x ∧ ys[k]? = some y
  nd : ∀ (k k' : Nat) (v : Value), acc[k]? = some v → acc[k']? = some v → k = k'
  S : ∃ c, h.get? (N + 5) = some { cls := .type "list", dict := none, data := .seq acc c, slots := #[] }
theorem zip_loop {R : Result → Shared → Prop} {N : Nat} {res : Value} (D : ZipApart (N + 4) (N + 2) (N + 3) N (N + 1) l m) (hh : A.handled = none) (b0 : ∀ (c : Nat) (o : Obj), h0.get? c = some o → c < N) (c1 : bB t l xs h0) (c2 : bB u m ys h0) (hn : min xs.size ys.size ≤ 1000) :
    ∀ (k i : Nat) (s : Shared) (acc : Array Value), min xs.size ys.size - i = k → i ≤ min xs.size ys.size → Gz h0 N t u l m xs ys i acc s.heap → (∀ h' acc', Gf h0 N xs ys acc' h' → R (.ok (.ret res)) { s with heap := h' }) →
    codeAny (model prog w) A (.builtin "list.extend.loop" ⟨[.ref (N + 5), .ref (N + 4), res], []⟩) R s := by
  have S1 := src t N l xs
  have S2 := src u (N + 1) m ys
  have hh1 : A.in1.handled = none := hh
  intro k
  induction k with
  | zero =>
    intro i s acc hk hi g hR
    have hin : i = min xs.size ys.size := by omega
    subst hin
    refine codeAny_builtin F.entry_extend_loop ?_
    rw [Around.under_plainId F.plain_extend_loop _]
    show wpAny _ A.in1 (pyNext (.ref (N + 4)) >>= _) _ _ s
    have hend : xs[min xs.size ys.size]? = none ∨ ys[min xs.size ys.size]? = none := by
      rcases Nat.le_total xs.size ys.size with h | h
      · exact .inl (Array.getElem?_eq_none (by rw [Nat.min_eq_left h]; exact Nat.le_refl _))
      · exact .inr (Array.getElem?_eq_none (by rw [Nat.min_eq_right h]; exact Nat.le_refl _))
    have d1 : bB t l xs s.heap := bB_at c1 fun o e => g.kp _ o e
    have d2 : bB u m ys s.heap := bB_at c2 fun o e => g.kp _ o e
    have fin : ∀ h', (∀ c o, c ≠ N + 4 → c ≠ N + 3 → c ≠ N → c ≠ N + 1 → s.heap.get? c = some o → h'.get? c = some o) → R (.ok (.ret res)) { s with heap := h' } := fun h' kk => by
      refine hR h' acc ⟨fun c o e => ?_, g.ac, fun k v e => ?_, g.nd, ?_⟩
      · have := b0 c o e
        exact kk c o (nq (by omega)) (nq (by omega)) (nq (by omega)) (nq (by omega)) (g.kp c o e)
      · obtain ⟨p, x, y, e1, e2, e3, e4⟩ := g.ps k v e
        exact ⟨p, x, y, e1, e2, kk _ _ (nq (by omega)) (nq (by omega)) (nq (by omega)) (nq (by omega)) e3, e4⟩
      · obtain ⟨c, e⟩ := g.S
        exact ⟨c, kk _ _ (nq (by omega)) (nq (by omega)) (nq (by omega)) (nq (by omega)) e⟩
    rcases g.z with ⟨hz, a, b, hO⟩ | ⟨T, f, oT, hz, hT, _⟩
    · exact wpAny_bind (stop_ hh1 D S1 S2 hz g.P hO g.j1 g.j2 d1 d2 hend fun h' kk => wpAny_pure (fin h' fun c o q1 q2 q3 q4 e => kk c o q1 q2 q3 q4 e))
    · exact wpAny_bind (stopH hh1 D S1 S2 hz hT g.P g.j1 g.j2 d1 d2 hend fun h' kk => wpAny_pure (fin h' fun c o q1 q2 q3 q4 e => kk c o q1 q3 q4 e))
  | succ k ih =>
    intro i s acc hk hi g hR
    have hlt : i < min xs.size ys.size := by omega
    have ex := Array.getElem?_eq_getElem (xs := xs) (i := i) (by omega)
    have ey := Array.getElem?_eq_getElem (xs := ys) (i := i) (by omega)
    refine codeAny_builtin F.entry_extend_loop ?_
    rw [Around.under_plainId F.plain_extend_loop _]
    show wpAny _ A.in1 (pyNext (.ref (N + 4)) >>= _) _ _ s
    have d1 : bB t l xs s.heap := bB_at c1 fun o e => g.kp _ o e
    have d2 : bB u m ys s.heap := bB_at c2 fun o e => g.kp _ o e
    have sz := g.sz
    have ac := g.ac
    have sl : (1000 : Nat) ≤ sizeLine := by rw [sizeLine_eq]; decide
    have tail : ∀ h' : Heap, Gz h0 N t u l m xs ys (i + 1) (acc.push (.ref s.heap.objs.size)) (h'.update (N + 5) (Obj.mapSeq (·.push (.ref s.heap.objs.size)))) → codeAny (model prog w) A (.builtin "list.extend.loop" ⟨[.ref (N + 5), .ref (N + 4), res], []⟩) R { s with heap := h'.update (N + 5) (Obj.mapSeq (·.push (.ref s.heap.objs.size))) } := fun h' g' =>
      ih (i + 1) _ _ (by omega) hlt g' fun h'' acc' gf => hR h'' acc' gf
    obtain ⟨c0, hS⟩ := id g.S
    rcases g.z with ⟨hz, a, b, hO⟩ | ⟨T, f, oT, hz, hT, lT⟩
    · refine wpAny_bind (next D S1 S2 hz g.P hO g.j1 g.j2 d1 d2 ex ey fun h' a1 _ a3 a4 a5 a6 kk => ?_)
      have g' := g.put D b0 rfl a5 ex ey a3 a4 ⟨_, _, _, a1, a5, sz⟩ a6 kk
      have hS' := kk _ _ (nq (by omega)) (nq (by omega)) (nq (by omega)) (nq (by omega)) hS
      show wpAny _ A.in1 (updateSeq (N + 5) (·.push (.ref s.heap.objs.size)) >>= _) _ _ _
      exact wpAny_bind (wpAny_updateSeq hS' rfl (wpAny_pure ⟨plainId_quiet F.plain_extend_loop _, tail h' g'⟩) (by omega) (by rw [Array.size_push]; omega))
    · refine wpAny_bind (nextH D S1 S2 hz hT g.P g.j1 g.j2 d1 d2 ex ey fun h' a1 a3 a4 a5 a6 kk => ?_)
      have g' := g.put D b0 rfl a5 ex ey a3 a4 ⟨_, _, _, a1, kk _ _ (nq (by omega)) (nq (by omega)) (nq (by omega)) hT, lT⟩ a6 fun c o q1 _ q3 q4 e => kk c o q1 q3 q4 e
      have hS' := kk _ _ (nq (by omega)) (nq (by omega)) (nq (by omega)) hS
      show wpAny _ A.in1 (updateSeq (N + 5) (·.push (.ref s.heap.objs.size)) >>= _) _ _ _
      exact wpAny_bind (wpAny_updateSeq hS' rfl (wpAny_pure ⟨plainId_quiet F.plain_extend_loop _, tail h' g'⟩) (by omega) (by rw [Array.size_push]; omega))
end
section
variable {prog : Program} {w : World} {A : Around} {E : Value → Shared → Prop} {s : Shared} {t u : Bool} {l m : Addr} {xs ys : Array Value}
/-- what a fresh zip looks like, made at a heap of size N -/
structure Zz (h0 : Heap) (N : Nat) (t u : Bool) (l m : Addr) (h : Heap) : Prop where
  kp : ∀ c o, h0.get? c = some o → h.get? c = some o
  z : IsZip h (N + 4) (N + 2) (N + 3) .none
  P : IsPair h (N + 2) (.ref N) (.ref (N + 1))
  O : IsPair h (N + 3) .none .none
  j1 : jB t N l 0 h
  j2 : jB u (N + 1) m 0 h
  sz : h.objs.size = N + 5
theorem call_zipS {prog : Program} {w : World} {A : Around} {E : Value → Shared → Prop} {s : Shared} {t u : Bool} {l m : Addr} {xs ys : Array Value} {Q : Value → Shared → Prop} (ne : t ≠ u) (e1 : bB t l xs s.heap) (e2 : bB u m ys s.heap)
    (k : ∀ h', Zz s.heap s.heap.objs.size t u l m h' → Q (.ref (s.heap.objs.size + 4)) { s with heap := h' }) : wpAny (model prog w) A (call (.type "zip") [.ref l, .ref m]) Q E s := by
  refine callType_new F.called_zip (by decide) (F.typeCall_zip_2 _ _) (F.newCall_zip_2 _ _) (fun obj => F.args_object_init_3 obj _ _) F.entry_zip_new (made t u ne l m xs ys) ⟨e1, e2, ?_⟩
  have n1 : (hp1 t s.heap l).objs.size = s.heap.objs.size + 1 := Heap.size_push ..
  have n2 : (hp1 u (hp1 t s.heap l) m).objs.size = s.heap.objs.size + 2 := by rw [Heap.size_push, n1]
  have n3 : (hp3 t u s.heap l m).objs.size = s.heap.objs.size + 3 := by rw [Heap.size_push, n2]
  have n4 : (hp4 t u s.heap l m).objs.size = s.heap.objs.size + 4 := by rw [Heap.size_push, n3]
  have q5 : (hp5 t u s.heap l m).get? (hp4 t u s.heap l m).objs.size = some _ := Heap.get?_push_size _ rfl
  have q4 : (hp5 t u s.heap l m).get? (hp3 t u s.heap l m).objs.size = some _ := Heap.get?_push_of_some _ (Heap.get?_push_size _ rfl)
  have q3 : (hp5 t u s.heap l m).get? (hp1 u (hp1 t s.heap l) m).objs.size = some _ := Heap.get?_push_of_some _ (Heap.get?_push_of_some _ (Heap.get?_push_size _ rfl))
  have q2 : (hp5 t u s.heap l m).get? (hp1 t s.heap l).objs.size = some _ := Heap.get?_push_of_some _ (Heap.get?_push_of_some _ (Heap.get?_push_of_some _ (Heap.get?_push_size _ rfl)))
  have q1 : (hp5 t u s.heap l m).get? s.heap.objs.size = some _ := Heap.get?_push_of_some _ (Heap.get?_push_of_some _ (Heap.get?_push_of_some _ (Heap.get?_push_of_some _ (Heap.get?_push_size _ rfl))))
  show _ ∧ _
  rw [n2, n3, n4] at q5
  rw [n1, n2] at q3
  rw [n3] at q4
  rw [n1] at q2
  rw [n4]
  refine ⟨⟨_, q5, rfl⟩, k _ ⟨fun c o x => Heap.get?_push_of_some _ (Heap.get?_push_of_some _ (Heap.get?_push_of_some _ (Heap.get?_push_of_some _ (Heap.get?_push_of_some _ x)))), q5, q3, q4, ?_, ?_, by rw [Heap.size_push, n4]⟩⟩
  · cases t <;> exact ⟨_, q1, rfl, rfl⟩
  · cases u <;> exact ⟨_, q2, rfl, rfl⟩
theorem collect_zip {h0 : Heap} {N : Nat} {Q : List Value → Shared → Prop} (D : ZipApart (N + 4) (N + 2) (N + 3) N (N + 1) l m) (hh : A.handled = none) (b0 : ∀ (c : Nat) (o : Obj), h0.get? c = some o → c < N) (c1 : bB t l xs h0) (c2 : bB u m ys h0) (hn : min xs.size ys.size ≤ 1000) (hz : Zz h0 N t u l m s.heap)
    (hQ : ∀ h' acc, Gf h0 N xs ys acc h' → Q acc.toList { s with heap := h' }) : wpAny (model prog w) A (collect (.ref (N + 4))) Q E s := by
  have es := hz.sz
  unfold collect
  refine wpAny_bind (wpAny_runValue (codeAny_builtin F.entry_proto_collect ?_))
  rw [Around.under_plainId F.plain_proto_collect _]
  show wpAny _ A.in1 (newList [] >>= fun l' => again (.builtin "list.__iadd__" ⟨[l', .ref (N + 4)], []⟩)) _ _ s
  refine wpAny_bind (wpAny_newObj_type ?_)
  refine wpAny_pure ⟨plainId_quiet F.plain_list_iadd _, codeAny_builtin F.entry_list_iadd ?_⟩
  rw [Around.under_plainId F.plain_list_iadd _, es]
  have hS1 : (s.heap.push { cls := .type "list", data := .seq ([] : List Value).toArray }).get? (N + 5) = some { cls := .type "list", data := .seq ([] : List Value).toArray } := es ▸ Heap.get?_push_size _ rfl
  have old : ∀ c o, s.heap.get? c = some o → (s.heap.push { cls := .type "list", data := .seq ([] : List Value).toArray }).get? c = some o := fun c o e => Heap.get?_push_of_some _ e
  have ss : (s.heap.push { cls := .type "list", data := .seq ([] : List Value).toArray }).objs.size = N + 6 := by rw [Heap.size_push, es]
  generalize s.heap.push { cls := .type "list", data := .seq ([] : List Value).toArray } = p1 at hS1 old ss ⊢
  have ty : ∀ tk, ({ s with heap := p1, toks := tk } : Shared).TypeIs (.ref (N + 4)) "zip" := fun tk => ⟨_, old _ _ hz.z, rfl⟩
  have h1 : Builtin.List.listSameRef (.ref (N + 5)) (.ref (N + 4)) = false := by
    simp only [Builtin.List.listSameRef, beq_eq_false_iff_ne]
    exact nq (by omega)
  show wpAny _ A.in1 (Builtin.List.listExtendWith (.ref (N + 5)) (.ref (N + 4)) (.ref (N + 5))) _ _ _
  unfold Builtin.List.listExtendWith
  refine wpAny_bind (wpAny_typeOf (ty _) ?_)
  have h2 : (Value.type "zip" == Value.type "list") = false := by decide
  have h3 : (Value.type "zip" == Value.type "tuple") = false := by decide
  simp only [h1, h2, h3, Bool.or_false, Bool.false_eq_true, if_false]
  refine wpAny_bind (wpAny_pyIter_zip (old _ _ hz.z) ?_)
  refine wpAny_bind (wpAny_holding ?_)
  unfold Builtin.List.listLengthHint
  refine wpAny_bind (wpAny_specialOf (ty _) zip_no_len ?_)
  show wpAny _ A.in1 (specialOf (Value.ref (N + 4)) (Str.ofString "__length_hint__") >>= _) _ _ _
  refine wpAny_bind (wpAny_specialOf (ty _) zip_no_hint ?_)
  refine wpAny_pure ?_
  show wpAny _ A.in1 (rule "list.extend.makes-room" >>= fun _ => Builtin.List.listTouch (.ref (N + 5)) >>= fun _ =>
    again (.builtin "list.extend.loop" ⟨[.ref (N + 5), .ref (N + 4), .ref (N + 5)], []⟩)) _ _ _
  refine wpAny_bind (wpAny_rule ?_)
  refine wpAny_bind ?_
  show wpAny _ A.in1 (updateSeq (N + 5) (·.push .none) >>= fun _ => updateSeq (N + 5) (·.pop)) _ _ _
  refine wpAny_bind (wpAny_updateSeq hS1 rfl ?_)
  have hS2 := Heap.get?_update_self (Obj.mapSeq (·.push Value.none)) hS1 rfl
  refine wpAny_updateSeq hS2 rfl ?_
  have hS3 := Heap.get?_update_self (Obj.mapSeq (·.pop)) hS2 rfl
  have oth : ∀ c o, s.heap.get? c = some o → ((p1.update (N + 5) (Obj.mapSeq (·.push Value.none))).update (N + 5) (Obj.mapSeq (·.pop))).get? c = some o := fun c o e => by
    have lt : @LT.lt Nat _ c s.heap.objs.size := Heap.lt_size e
    have ne : @Ne Addr (N + 5) c := nq (by omega)
    exact (Heap.get?_update_other _ _ ne).trans ((Heap.get?_update_other _ _ ne).trans (old c o e))
  have g0 : Gz h0 N t u l m xs ys 0 #[] ((p1.update (N + 5) (Obj.mapSeq (·.push Value.none))).update (N + 5) (Obj.mapSeq (·.pop))) := by
    refine ⟨fun c o e => oth c o (hz.kp c o e), oth _ _ hz.P, jB_at hz.j1 fun o e => oth _ o e, jB_at hz.j2 fun o e => oth _ o e, .inl ⟨oth _ _ hz.z, _, _, oth _ _ hz.O⟩, rfl, fun k v e => by simp at e, fun k k' v e => by simp at e, ⟨_, hS3⟩, ?_⟩
    rw [Heap.size_update, Heap.size_update, ss]
    exact Nat.le_refl _
  refine wpAny_pure ⟨plainId_quiet F.plain_extend_loop _, zip_loop D hh b0 c1 c2 hn _ 0 _ #[] rfl (Nat.zero_le _) g0 fun h' acc gf => ?_⟩
  obtain ⟨c, hS⟩ := gf.S
  show wpAny _ A (load (N + 5) >>= _) _ _ _
  refine wpAny_bind (wpAny_load hS ?_)
  exact wpAny_pure (hQ h' acc gf)
theorem call_tuple_zip {h0 : Heap} {N : Nat} {Q : Value → Shared → Prop} (D : ZipApart (N + 4) (N + 2) (N + 3) N (N + 1) l m) (hh : A.handled = none) (b0 : ∀ (c : Nat) (o : Obj), h0.get? c = some o → c < N) (c1 : bB t l xs h0) (c2 : bB u m ys h0) (hn : min xs.size ys.size ≤ 1000) (hz : Zz h0 N t u l m s.heap)
    (hQ : ∀ h' acc, Gf h0 N xs ys acc h' → Q (.ref h'.objs.size) { s with heap := h'.push { cls := .type "tuple", data := .seq acc } }) : wpAny (model prog w) A (call (.type "tuple") [.ref (N + 4)]) Q E s := by
  refine callType_codes (Q₁ := fun obj s₁ => s₁.TypeIs obj "tuple" ∧ Q obj s₁) F.called_tuple (F.typeCall_tuple_1 _) F.entry_object_init ?_ fun obj s₁ h₁ => ?_
  · refine codeAny_of_tree ?_
    show wpAny _ A.in1.in1 (do checkBuiltinCall "tuple.__new__" ⟨[.type "tuple", .ref (N + 4)], []⟩; again (.builtin "tuple.__new__" ⟨[.type "tuple", .ref (N + 4)], []⟩)) _ _ s
    refine wpAny_bind (wpAny_of_eq (F.newCall_tuple_1 _) (wpAny_pure ⟨plainId_quiet F.plain_tuple_new _, codeAny_builtin F.entry_tuple_new ?_⟩))
    rw [Around.under_plainId F.plain_tuple_new _]
    have hsub := sub_tuple_self
    have hinit := init_tuple_lookup
    have hmh := madeHere_tuple
    have hTI : s.TypeIs (.ref (N + 4)) "zip" := ⟨_, hz.z, rfl⟩
    have hh1 : A.in1.in1.handled = none := hh
    wp_walk using wpAny_typeOf hTI, collect_zip (A := A.in1.in1) D hh1 b0 c1 c2 hn hz
    intro h' acc gf
    show wpAny _ _ (Builtin.Tuple.tupleExact acc.toList.toArray >>= fun v => ret v) _ _ _
    unfold Builtin.Tuple.tupleExact
    have sl : (1000 : Nat) ≤ sizeLine := by rw [sizeLine_eq]; decide
    have ac := gf.ac
    refine wpAny_bind (wpAny_newObj_type ?_ (by show acc.toList.toArray.size ≤ sizeLine; simp only [Array.toArray_toList]; omega))
    refine wpAny_pure ?_
    have e : acc.toList.toArray = acc := by simp
    rw [e]
    exact ⟨⟨_, Heap.get?_push_size _ rfl, rfl⟩, hQ h' acc gf⟩
  · exact ⟨h₁.1, F.args_object_init_2 obj _, object_init_meets F.called_tuple.init.lookup F.called_tuple.made (by decide) prog w A.in1 _ s₁ ⟨h₁.1, rfl, h₁.2⟩⟩
end
end CsZip
namespace L2
open PySem PySem.Spec PyProof.Rows
section
variable {X : Cx} {pins : List (Addr × Obj)} {σ : St} {H : Hp} {s : Shared}
/-- some new pairs tracked, the heap cut to them -/
theorem Inv.lays {h' : Heap} (I : Inv X pins σ H s) (k : ∀ b u, s.heap.get? b = some u → h'.get? b = some u) : ∀ (ps : List (Addr × V × V)), (∀ q ∈ ps, s.heap.get? q.1 = none ∧ H q.1 = none ∧ ∃ x y, CsZip.Prs h' q.1 x y ∧ RelV q.2.1 x ∧ RelV q.2.2 y) → (ps.map (·.1)).Nodup →
    ∃ (G : Heap) (H' : Hp), Inv X pins σ H' { s with heap := G } ∧ (∀ b u, G.get? b = some u → h'.get? b = some u) ∧ (∀ b, (∀ q ∈ ps, q.1 ≠ b) → s.heap.get? b = none → G.get? b = none) ∧ (∀ b, (∀ q ∈ ps, q.1 ≠ b) → H' b = H b) ∧ ∀ q ∈ ps, H' q.1 = some (.tup [q.2.1, q.2.2])
  | [], _, _ => ⟨s.heap, H, I, k, fun b _ e => e, fun b _ => rfl, fun q hq => nomatch hq⟩
  | q :: ps, hq, nd => by
    rw [List.map_cons, List.nodup_cons] at nd
    obtain ⟨G, H', I', g1, g2, g3, g4⟩ := Inv.lays I k ps (fun r hr => hq r (List.mem_cons_of_mem _ hr)) nd.2
    obtain ⟨q1, q2, x, y, q3, rx, ry⟩ := hq q List.mem_cons_self
    have nq : ∀ r ∈ ps, r.1 ≠ q.1 := fun r hr e => nd.1 (e ▸ List.mem_map_of_mem hr)
    obtain ⟨G2, m1, m2⟩ := restrict h' fun b => (G.get? b).isSome || decide (b = q.1)
    have kk : ∀ b u, G.get? b = some u → G2.get? b = some u := fun b u e => by
      rw [m1 b (by rw [e]; rfl)]
      exact g1 b u e
    have e0 : G2.get? q.1 = some { cls := .type "tuple", data := .seq #[x, y] } := by
      rw [m1 q.1 (by rw [decide_eq_true rfl, Bool.or_true])]
      exact q3
    have hn : H' q.1 = none := by rw [g3 q.1 nq]; exact q2
    have I2 : Inv X pins σ (upd H' q.1 (.tup [q.2.1, q.2.2])) { s with heap := G2 } := Inv.laidN (s := { s with heap := G }) (t' := s.toks) I' kk (g2 q.1 nq q1) hn ⟨Nat.le_of_ble_eq_true (by rw [sizeLine_eq]; rfl), [x, y], .cons rx (.cons ry .nil), ⟨_, e0, rfl, _, rfl⟩⟩
    refine ⟨G2, _, I2, fun b u e => ?_, fun b hb e => ?_, fun b hb => ?_, fun r hr => ?_⟩
    · by_cases z : ((G.get? b).isSome || decide (b = q.1)) = true
      · rw [← m1 b z]
        exact e
      · rw [m2 b (Bool.eq_false_iff.mpr z)] at e
        cases e
    · refine m2 b ?_
      rw [g2 b (fun r hr => hb r (List.mem_cons_of_mem _ hr)) e, decide_eq_false fun z => hb q List.mem_cons_self z.symm]
      rfl
    · rw [upd_ne fun z => hb q List.mem_cons_self z.symm]
      exact g3 b fun r hr => hb r (List.mem_cons_of_mem _ hr)
    · rcases List.mem_cons.mp hr with rfl | hr
      · exact upd_same
      · rw [upd_ne (nq r hr)]
        exact g4 r hr
end
end L2
namespace Cs
open PySem PySem.Spec L2 PyProof.Rows
theorem pairs_of {N : Nat} {h : Heap} : ∀ (zs : List Value) (xs ys : List V) (its its2 : List Value), Vals xs its → Vals ys its2 → zs.length = xs.length → xs.length = ys.length →
    (∀ (k : Nat) (v : Value), zs[k]? = some v → ∃ (p : Nat) (x y : Value), v = Value.ref p ∧ N + 6 ≤ p ∧ CsZip.Prs h p x y ∧ its[k]? = some x ∧ its2[k]? = some y) →
    ∃ ps : List (Addr × V × V), ps.length = xs.length ∧ Vals (ps.map fun q => V.ref q.1) zs ∧ ∀ (k : Nat) (q : Addr × V × V), ps[k]? = some q → @LE.le Nat _ (N + 6) q.1 ∧ (∃ x y, CsZip.Prs h q.1 x y ∧ RelV q.2.1 x ∧ RelV q.2.2 y) ∧ xs[k]? = some q.2.1 ∧ ys[k]? = some q.2.2 ∧ zs[k]? = some (Value.ref q.1)
  | [], [], [], _, _, _, _, _, _, _ => ⟨[], rfl, .nil, fun k q e => by simp at e⟩
  | z :: zs, x :: xs, y :: ys, _, _, .cons rx tx, .cons ry ty, l1, l2, hz => by
    obtain ⟨ps, p1, p2, p3⟩ := pairs_of zs xs ys _ _ tx ty (Nat.succ.inj l1) (Nat.succ.inj l2) fun k v e => hz (k + 1) v e
    obtain ⟨p, x', y', rfl, hp, pr, ex, ey⟩ := hz 0 z rfl
    cases ex
    cases ey
    refine ⟨(p, x, y) :: ps, by rw [List.length_cons, List.length_cons, p1], .cons rfl p2, fun k q e => ?_⟩
    cases k with
    | zero =>
      cases e
      exact ⟨hp, ⟨_, _, pr, rx, ry⟩, rfl, rfl, rfl⟩
    | succ k => exact p3 k q e
  | [], _ :: _, _, _, _, _, _, l1, _, _ => by cases l1
  | _ :: _, [], _, _, _, _, _, l1, _, _ => by cases l1
  | _, [], _ :: _, _, _, _, _, _, l2, _ => by cases l2
  | _, _ :: _, [], _, _, _, _, _, l2, _ => by cases l2
/-- tuple(zip(e, e2)) of a tuple and a list, or a list and a tuple -/
def tTz (K : PySem.W.Frag) (t u : Bool) (ta : TA) : TE := fun σ H Q => ta σ H fun vs H1 => ∃ (a b : Addr) (xs ys : List V), vs = [.ref a, .ref b] ∧ SqB K t H1 a xs ∧ SqB K u H1 b ys ∧ xs.length = ys.length ∧ xs.length ≤ 1000 ∧
  ∀ (H' : Hp) (p : Addr) (zs : List V), (∀ b o, H1 b = some o → H' b = some o) → H1 p = none → H' p = some (.tup zs) → zs.length = xs.length → (∀ (i : Nat) (z x y : V), zs[i]? = some z → xs[i]? = some x → ys[i]? = some y → ∃ q, z = .ref q ∧ H1 q = none ∧ H' q = some (.tup [x, y])) → Q (.ref p) H'
section
variable {X : Cx}
theorem pe_tz {e e2 : Expr} {ta : TA} {p p2 pos pos2 : Pos} (t u : Bool) (ne : t ≠ u) (hc : X.calm = true) (hg : Gl X "tuple") (hm : X.mg "tuple" = none) (hg2 : Gl X "zip") (hm2 : X.mg "zip" = none) (ha : PA X [e, e2] ta)
    (hs : starEach [e, e2] X.env = (false, eval e X.env) :: starEach [e2] X.env := by rfl) (hpl : (backTo pos2 (starEach [e2] X.env)).any (·.1) = false := by rfl)
    (hs1 : starEach [.Call (.Name "zip" p2) [e, e2] [] pos2] X.env = (false, eval (.Call (.Name "zip" p2) [e, e2] [] pos2) X.env) :: starEach [] X.env := by rfl) (hpl1 : (backTo pos (starEach [] X.env)).any (·.1) = false := by rfl) :
    PE X (.Call (.Name "tuple" p) [.Call (.Name "zip" p2) [e, e2] [] pos2] [] pos) (tTz X.K t u ta) := by
  refine ⟨fun pins s σ H Q I h => ?_⟩
  have hh := I.ok.hd hc
  refine wpAny_Call_Name_kw (ld_blt I hg hm (by decide +kernel : bootBuiltins "tuple" = some (.type "tuple")) ?_ (by decide) (by decide))
  refine PyProof.Rows.callWith_type1 ?_ hs1 hpl1
  rw [hs1]
  show wpAny _ _ (spliced ((false, eval (.Call (.Name "zip" p2) [e, e2] [] pos2) X.env) :: backTo pos (starEach [] X.env))) _ _ s
  refine Calls.spliced_cons ?_
  refine wpAny_Call_Name_kw (ld_blt I hg2 hm2 PyProof.Rows.boot_zip ?_ (by decide) (by decide))
  refine PyProof.Rows.callWith_type1 (thn (ha.run pos2 pins s σ H _ I h) fun us s1 ⟨vs, H1, I1, r1, a, b, xs, ys, ev, qx, qy, le, lx, q⟩ => ?_) hs hpl
  subst ev
  obtain ⟨u1, us2, rfl, r, rr⟩ : ∃ u1 us2, us = u1 :: us2 ∧ RelV (.ref a) u1 ∧ Vals [.ref b] us2 := by
    cases r1 with
    | cons r rr => exact ⟨_, _, rfl, r, rr⟩
  obtain ⟨u2, rfl, r'⟩ := rr.one
  cases r
  cases r'
  obtain ⟨its, rv, p1, la⟩ := seqB I1 qx
  obtain ⟨its2, rv2, p2, lb⟩ := seqB I1 qy
  have b0 : ∀ (c : Nat) (o : Obj), s1.heap.get? c = some o → c < s1.heap.objs.size := fun c o e => Heap.lt_size e
  have D := PySem.W.ktu_apart s1.heap.objs.size a b la lb
  have li : its.length = xs.length := rv.length.symm
  have li2 : its2.length = ys.length := rv2.length.symm
  refine CsZip.call_zipS ne p1 p2 fun h' hz => ?_
  refine Calls.spliced_nil ?_
  have mn : min its.toArray.size its2.toArray.size = xs.length := by
    rw [List.size_toArray, List.size_toArray, li, li2, ← le, Nat.min_self]
  refine CsZip.call_tuple_zip (s := { s1 with heap := h' }) D hh b0 p1 p2 (by rw [mn]; exact lx) hz fun h2 acc gf => ?_
  have ac := gf.ac
  rw [mn] at ac
  obtain ⟨ps, lps, vz, hps⟩ := pairs_of (N := s1.heap.objs.size) (h := h2) acc.toList xs ys its its2 rv rv2 (by rw [Array.length_toList]; exact ac) le fun k v e => by
    rw [Array.getElem?_toList] at e
    obtain ⟨p, x, y, e1, e2, e3, e4, e5⟩ := gf.ps k v e
    exact ⟨p, x, y, e1, e2, e3, by rw [← List.getElem?_toArray]; exact e4, by rw [← List.getElem?_toArray]; exact e5⟩
  have pu : ∀ c o, h2.get? c = some o → (h2.push { cls := .type "tuple", data := .seq acc }).get? c = some o := fun c o e => Heap.get?_push_of_some _ e
  have new : ∀ (c : Nat), s1.heap.objs.size ≤ c → s1.heap.get? c = none ∧ H1 c = none := fun c hc => by
    have e : s1.heap.get? c = none := by
      cases e : s1.heap.get? c with
      | none => rfl
      | some o => exact absurd (b0 c o e) (Nat.not_lt.mpr hc)
    exact ⟨e, I1.hok.fresh hc⟩
  have mem : ∀ q ∈ ps, s1.heap.objs.size + 6 ≤ q.1 ∧ ∃ x y, CsZip.Prs h2 q.1 x y ∧ RelV q.2.1 x ∧ RelV q.2.2 y := fun q hq => by
    obtain ⟨k, hk, e⟩ := List.getElem_of_mem hq
    obtain ⟨a1, a2, _⟩ := hps k q (by rw [← e]; exact List.getElem?_eq_getElem hk)
    exact ⟨a1, a2⟩
  have nd : (ps.map (·.1)).Nodup := by
    refine List.pairwise_iff_getElem.mpr fun i j hi hj lt e => ?_
    rw [List.length_map] at hi hj
    rw [List.getElem_map, List.getElem_map] at e
    obtain ⟨_, _, _, _, z1⟩ := hps i _ (List.getElem?_eq_getElem hi)
    obtain ⟨_, _, _, _, z2⟩ := hps j _ (List.getElem?_eq_getElem hj)
    rw [Array.getElem?_toList] at z1 z2
    rw [← e] at z2
    have := gf.nd i j _ z1 z2
    omega
  have tn := new h2.objs.size (by
    have z := gf.S
    obtain ⟨c, z⟩ := z
    have q : @LT.lt Nat _ (s1.heap.objs.size + 5) h2.objs.size := Heap.lt_size z
    omega)
  obtain ⟨G, H', I', g1, g2, g3, g4⟩ := L2.Inv.lays (h' := h2.push { cls := .type "tuple", data := .seq acc }) I1 (fun b o e => pu b o (gf.kp b o e)) ps (fun q hq => by
    obtain ⟨a1, x, y, a2, a3⟩ := mem q hq
    have := new q.1 (by omega)
    exact ⟨this.1, this.2, x, y, pu _ _ a2, a3⟩) nd
  have nt : ∀ q ∈ ps, q.1 ≠ h2.objs.size := fun q hq => by
    obtain ⟨_, x, y, a2, _⟩ := mem q hq
    have z : @LT.lt Nat _ q.1 h2.objs.size := Heap.lt_size a2
    exact CsZip.nq (.inl z)
  have ht : (h2.push { cls := .type "tuple", data := .seq acc }).get? h2.objs.size = some { cls := .type "tuple", data := .seq acc } := Heap.get?_push_size _ rfl
  have ea : acc.toList.toArray = acc := by simp
  have I2 : L2.Inv X pins σ (upd H' h2.objs.size (.tup (ps.map fun q => V.ref q.1))) { s1 with heap := h2.push { cls := .type "tuple", data := .seq acc } } := L2.Inv.laidN (s := { s1 with heap := G }) (t' := s1.toks) I' g1 (g2 _ nt tn.1) (by rw [g3 _ nt]; exact tn.2) ⟨by
    rw [List.length_map, lps, sizeLine_eq]; omega, acc.toList, vz, ⟨_, ht, rfl, _, by rw [ea]⟩⟩
  refine ⟨.ref h2.objs.size, _, I2, rfl, q _ _ _ (fun b o e => ?_) tn.2 upd_same (by rw [List.length_map, lps]) fun i z x y e1 e2 e3 => ?_⟩
  · have nb : ∀ q ∈ ps, q.1 ≠ b := fun q hq z => by
      obtain ⟨a1, _⟩ := mem q hq
      have := (new q.1 (by omega)).2
      rw [z, e] at this
      cases this
    rw [upd_ne (fun z => by rw [z, tn.2] at e; cases e), g3 b nb]
    exact e
  · rw [List.getElem?_map] at e1
    obtain ⟨r, er, rfl⟩ := Option.map_eq_some_iff.mp e1
    obtain ⟨a1, _, a3, a4, _⟩ := hps i r er
    rw [e2] at a3
    rw [e3] at a4
    cases a3
    cases a4
    have hr := List.mem_of_getElem? er
    refine ⟨r.1, rfl, (new r.1 (by omega)).2, ?_⟩
    rw [upd_ne (nt r hr)]
    exact g4 r hr
end
end Cs
set_option maxHeartbeats 4000000
/-! Over data: while, tuple * n, tuple(zip(..)), is not of bools, two clauses of a comprehension. -/
namespace Cs
open PySem PySem.Spec L2 PyProof.Rows
/-! ### while -/
def xWhile (c : XT) (b : XS) : XS := ⟨fun D ε => ∃ W : Nat → List AV → Prop, (∃ m, W m ε) ∧ ∀ m e, W m e → c.run e fun t e1 => if t = true then b.run { D with nx := fun e2 => ∃ m2, m2 < m ∧ W m2 e2, ct := fun e2 => ∃ m2, m2 < m ∧ W m2 e2, bk := D.nx } e1 else D.nx e1,
  fun {D D' ε} h1 h2 h3 h4 ⟨W, w0, ws⟩ => ⟨W, w0, fun m e w => c.mono (fun t e1 q => by
    split at q
    · rw [if_pos (by assumption)]
      exact b.mono (D := { D with nx := fun e2 => ∃ m2, m2 < m ∧ W m2 e2, ct := fun e2 => ∃ m2, m2 < m ∧ W m2 e2, bk := D.nx }) (D' := { D' with nx := fun e2 => ∃ m2, m2 < m ∧ W m2 e2, ct := fun e2 => ∃ m2, m2 < m ∧ W m2 e2, bk := D'.nx }) (fun _ h => h) h2 h1 (fun _ h => h) q
    · rw [if_neg (by assumption)]
      exact h1 _ q) (ws m e w)⟩⟩
theorem xs_while {X : Cx} {c : Expr} {body : List Stmt} {pos : Pos} {t : XT} {b : XS} (hp : PassesOwn (model X.prog X.w) X.A X.env X.xe) (hc : PT X c (upT t)) (hb : PSs X body (upS b)) : PS X (.While c body [] pos) (upS (xWhile t b)) := ps_wk (ps_while hp hc hb) fun D σ H ⟨Γ, ε, R, W, ⟨m0, w0⟩, ws⟩ => by
  refine ⟨fun m σ H => ∃ e, Rep Γ e TN σ H ∧ W m e, ⟨m0, ε, R, w0⟩, ?_⟩
  rintro m σ1 H1 ⟨e, R1, w⟩
  refine upT1 R1 (ws m e w) fun b1 e1 T1 H2 g R2 s2 => ?_
  split at g
  · rw [if_pos (by assumption)]
    refine ⟨fun σ' H' => ∃ e2 m2, Rep Γ e2 TN σ' H' ∧ m2 < m ∧ W m2 e2, fun σ' H' ⟨e2, m2, R', l, w'⟩ => ⟨m2, l, e2, R', w'⟩, Γ, e1, R2.nil, ?_⟩
    exact b.mono (D := { upD Γ D with nx := fun e2 => ∃ m2, m2 < m ∧ W m2 e2, ct := fun e2 => ∃ m2, m2 < m ∧ W m2 e2, bk := (upD Γ D).nx }) (fun e2 ⟨m2, l, w'⟩ σ' H' R' => ⟨e2, m2, R', l, w'⟩) (fun _ _ q => q) (fun _ q => q) (fun e2 ⟨m2, l, w'⟩ σ' H' R' => ⟨e2, m2, R', l, w'⟩) g
  · rw [if_neg (by assumption)]
    exact g σ1 H2 R2.nil
/-! ### is not of bools -/
def fIsNB : F2
  | .bool a, .bool b => some (True, .d (.bool (!decide (a = b))))
  | _, _ => none
theorem ol_isnb : OpL (fun x y H Q => ∃ a b, x = .bl a ∧ y = .bl b ∧ Q (.bl (!decide (a = b))) H) fIsNB := by
  intro N H x y d e c Q hx hy e1 e2 o
  unfold fIsNB at e1
  split at e1
  · cases e1
    rw [hx.bl, hy.bl]
    exact ⟨_, _, rfl, rfl, o.old _ _ rfl (.bl _)⟩
  · cases e1
/-! ### tuple * n -/
theorem tuple_mul1 (l : Addr) (items : Array Value) (n : Nat) (dd : Option Addr) (sl : Array (Option Value)) (u : Tok) (ne : items.isEmpty = false) :
    Meets (Builtin.«tuple.__mul__» ⟨[.ref l, .int 1 u], []⟩) (fun _ R s => s.heap.get? l = some { cls := .type "tuple", dict := dd, data := .seq items n, slots := sl } ∧ R (.ok (.ret (Value.ref l))) s) :=
  .of_wp fun prog w A R s h => by
    obtain ⟨hp, g, d, tk, os⟩ := s
    obtain ⟨hl, h⟩ := h
    have f1 := AutoSeq1.idx_int
    have c1 : (items.isEmpty || (1 : Int) == 1) = true := by rw [ne]; rfl
    have c0 : (decide ((1 : Int) < -(2 ^ 63)) || decide ((1 : Int) ≥ 2 ^ 63)) = false := by decide
    wp_walk using wpAny_loadPart' hl
    exact ⟨_, rfl, h⟩
def rRepT1 (K : PySem.W.Frag) : R2 := fun x y H Q => ∃ l xs, x = .ref l ∧ y = .int 1 ∧ SqT K H l xs ∧ xs ≠ [] ∧ xs.length ≤ 1000 ∧ Q (.ref l) H
theorem op_repT1 {X : Cx} : OpR X (binaryOp .Mult) (rRepT1 X.K) := by
  intro pins s σ H x y v u Q I rx ry h
  obtain ⟨l, xs, rfl, rfl, hT, hne, hz, q⟩ := h
  cases rx
  obtain ⟨t, rfl⟩ := ry
  obtain ⟨its, r, ⟨⟨cls, dd, data, sl⟩, ho, hc, n, hd⟩, hs⟩ := I.tuple hT
  simp only at hc hd
  subst hc hd
  have hle : its.length = xs.length := r.length.symm
  have hi : its.toArray.isEmpty = false := by
    cases its with
    | nil => exact absurd (List.eq_nil_of_length_eq_zero hle.symm) hne
    | cons a b => rfl
  exact wpAny_binaryOp_repeat_ref (T := "tuple") (U := "int") (by decide) ⟨_, ho, rfl⟩ (fun s' => typeIs_int s' 1 t) noFill_tuple_mul F.fills_int_mul F.slot_int_rmul repeat_tuple F.slot_int_index.lookup
    (call_meets F.slot_int_rmul (typeIs_int s 1 t) F.entry_int_rmul (F.args_int_rmul_2 _ _) (int_rmul_tuple 1 t l its.toArray n dd sl)
      ⟨ho, rfl, ⟨_, ho, rfl⟩, call_meets F.slot_tuple_mul ⟨_, ho, rfl⟩ F.entry_tuple_mul (F.args_tuple_mul_2 _ _) (tuple_mul1 l its.toArray n dd sl t hi) ⟨ho, ⟨.ref l, H, I, rfl, q⟩⟩⟩)
def fMulT : F2
  | .tuple xs, .int k => some (1 ≤ k ∧ xs ≠ [] ∧ xs.length * k.toNat ≤ 1000, .d (.tuple (List.replicate k.toNat xs).flatten))
  | _, _ => none
def gMulT (K : PySem.W.Frag) : R2 := fun x y H Q => rRepT K x y H Q ∨ rRepT1 K x y H Q
def opMulT {X : Cx} : OpR X (binaryOp .Mult) (gMulT X.K) := op_repT.or op_repT1
theorem ol_mulT {K : PySem.W.Frag} : OpL (gMulT K) fMulT := by
  intro N H x y d e c Q hx hy e1 e2 o
  unfold fMulT at e1
  split at e1
  · rename_i xs k
    cases e1
    obtain ⟨k1, ne, hz⟩ := e2
    obtain ⟨a, vs, rfl, h1, h2, h3, h4⟩ := hx.tup
    rw [hy.int]
    have ln := h3.length
    have nv : vs ≠ [] := fun z => ne (List.eq_nil_of_length_eq_zero (by rw [← ln, z]; rfl))
    have l1 : 1 ≤ xs.length := by
      cases xs with
      | nil => exact absurd rfl ne
      | cons _ _ => exact Nat.succ_le_succ (Nat.zero_le _)
    have kb : k.toNat ≤ 1000 := Nat.le_trans (Nat.le_mul_of_pos_left _ l1) hz
    by_cases e : k = 1
    · subst e
      refine .inr ⟨a, vs, rfl, rfl, SqT.rd h1, nv, h2, o.old _ _ rfl ?_⟩
      rw [show (1 : Int).toNat = 1 from rfl, List.replicate_one, List.flatten_cons, List.flatten_nil, List.append_nil]
      exact h4
    · refine .inl ⟨a, k, vs, rfl, rfl, SqT.rd h1, nv, by omega, by omega, h2, fun p hp => o.tup p _ _ rfl hp ?_ (h3.rep k.toNat)⟩
      rw [flat_len, ln]
      exact hz
  · cases e1
/-! ### tuple(zip(..)) -/
def xTz (a : XA) : XE := ⟨fun ε K => a.run ε fun rs ε1 => ∃ xs ys, sees rs = some [.tuple xs, .list ys] ∧ xs.length = ys.length ∧ xs.length ≤ 1000 ∧ K (.d (.tuple (zipD xs ys))) ε1, fun h q => a.mono (fun _ _ ⟨xs, ys, e, l1, l2, k⟩ => ⟨xs, ys, e, l1, l2, h _ _ k⟩) q⟩
theorem zip_dn {N : Addr → Prop} {H1 H' : Hp} (n0 : ∀ b, H1 b = none → ¬ N b) (kp : ∀ b o, H1 b = some o → H' b = some o) : ∀ {zs vs ws : List V} {xs ys : List PyData}, DnA N H1 vs xs → DnA N H1 ws ys → zs.length = vs.length → vs.length = ws.length →
    (∀ (i : Nat) (z x y : V), zs[i]? = some z → vs[i]? = some x → ws[i]? = some y → ∃ q, z = .ref q ∧ H1 q = none ∧ H' q = some (.tup [x, y])) → DnA N H' zs (zipD xs ys)
  | [], [], [], _, _, .nil, .nil, _, _, _ => .nil
  | z :: zs, v :: vs, w :: ws, _, _, .cons h t, .cons h' t', l1, l2, k => by
    obtain ⟨q, rfl, e1, e2⟩ := k 0 _ _ _ rfl rfl rfl
    have f : Fit2 N N H1 H' := ⟨fun _ h => .inl h, fun b o _ h => kp b o h⟩
    exact .cons (.tup (n0 q e1) (.inl e2) (by exact Nat.le_of_ble_eq_true rfl) (.cons (h.go f) (.cons (h'.go f) .nil))) (zip_dn n0 kp t t' (Nat.succ.inj l1) (Nat.succ.inj l2) fun i z x y e1 e2 e3 => k (i + 1) z x y e1 e2 e3)
  | [], _ :: _, _, _, _, _, _, l1, _, _ => by cases l1
  | _ :: _, [], _, _, _, _, _, l1, _, _ => by cases l1
  | _, [], _ :: _, _, _, _, _, _, l2, _ => by cases l2
  | _, _ :: _, [], _, _, _, _, _, l2, _ => by cases l2
theorem x_tz {X : Cx} {Ex : Expr} {a : XA} (h : PE X Ex (tTz X.K true false (upA a))) : PE X Ex (up (xTz a)) :=
  pe_wk h fun σ H Q ⟨Γ, ε, T, R, k⟩ => upA1 R k fun rs vs ε1 T1 H1 ⟨xs, ys, e, l1, l2, g⟩ R1 s1 d1 => by
    obtain ⟨v, w, rfl, h1, h2⟩ := see2 (d1.see e)
    obtain ⟨a, vs, rfl, r1, z1, t1, _⟩ := h1.tup
    obtain ⟨b, ws, rfl, r2, z2, t2⟩ := h2.list
    have lv := t1.length
    have lw := t2.length
    refine ⟨a, b, vs, ws, rfl, SqT.rd r1, SqL.of r2, by omega, by omega, fun H' p zs kp hp hz lz hzs => ?_⟩
    have sm : Same H1 H' := fun b o h => kp b o h
    refine g (.ref p) _ H' (R1.same sm) (s1.same sm) ?_
    exact .tup (R1.not_x hp) (.inl hz) (by omega) (zip_dn (fun b hb => R1.not_x hb) kp t1 t2 (by omega) (by omega) hzs)
/-! ### [p for ns in t for p in ns] -/
def xFl (i0 i1 : Nat) (t : XE) : XE := ⟨fun ε K => t.run ε fun r ε1 => ∃ dss : List (List PyData), r.see = some (.tuple (dss.map PyData.tuple)) ∧ dss.flatten.length ≤ 1000 ∧ (i0 < ε1.length ∧ i1 < ε1.length) ∧ K (.f dss.flatten) ε1, fun h q => t.mono (fun _ _ ⟨d, e, l, z, k⟩ => ⟨d, e, l, z, h _ _ k⟩) q⟩
theorem fl_data {N : Addr → Prop} {H : Hp} : ∀ {xs : List V} {dss : List (List PyData)}, DnA N H xs (dss.map PyData.tuple) → ∃ yss : List (List V), yss.length = xs.length ∧ (∀ (k : Nat) (x : V), xs[k]? = some x → ∃ a ys, x = .ref a ∧ Rd H a (.tup ys) ∧ yss[k]? = some ys) ∧ DnA N H yss.flatten dss.flatten
  | _, [], .nil => ⟨[], rfl, fun k x e => by simp at e, .nil⟩
  | x :: xs, ds :: dss, .cons h t => by
    obtain ⟨yss, l, p, q⟩ := fl_data t
    cases h with
    | @tup a ys _ n r z s =>
      refine ⟨ys :: yss, by rw [List.length_cons, List.length_cons, l], fun k x e => ?_, s.append q⟩
      cases k with
      | zero =>
        cases e
        exact ⟨a, ys, rfl, r, rfl⟩
      | succ k => exact p k x e
theorem take_flat {α : Type} {yss : List (List α)} {i : Nat} {ys : List α} (h : yss[i]? = some ys) : (yss.take (i + 1)).flatten = (yss.take i).flatten ++ ys := by
  rw [List.take_succ, h, List.flatten_append]
  simp
theorem fl_core {K : PySem.W.Frag} {i0 i1 : Nat} {t : XE} {vs : List Nat} {σ : L2.St} {H : Hp} {Q : VK} (h0 : i0 ∈ vs) (h1 : i1 ∈ vs) (h : up (xFl i0 i1 t) σ H Q) : tLc2 (iTup K (up t)) (gName i0) tYes (iTup K (tVar i0)) (gName i1) tYes (tVar i1) vs [i1] σ H Q := by
  obtain ⟨Γ, ε, T, R, k⟩ := h
  refine up1 R k fun r x ε1 T1 H1 ⟨dss, e1, hl, ⟨z0, z1⟩, g⟩ R1 s1 d1 => ?_
  obtain ⟨a, xs, rfl, hr, zx, dx, _⟩ := (d1.see e1).tup
  obtain ⟨yss, ly, hy, dy⟩ := fl_data dx
  have lf : yss.flatten.length ≤ 1000 := by rw [dy.length]; exact hl
  refine ⟨a, rfl, ⟨xs, SqT.rd hr⟩, fun D hD => ?_⟩
  have ln := R1.ln
  have keep : ∀ {H2 : Hp} {b : Addr} {o : HO}, (∀ b o, b ≠ D → H1 b = some o → H2 b = some o) → Rd H1 b o → Rd H2 b o := fun {H2 b o} kk hb => rd_keep (fun u q => kk _ u (fun z => by rw [z, hD] at q; cases q) q) hb
  refine ⟨fun i m H2 => m = xs.length - i ∧ i ≤ xs.length ∧ H2 D = some (.lst (yss.take i).flatten) ∧ ∀ b o, b ≠ D → H1 b = some o → H2 b = some o, ⟨xs.length, by simp, Nat.zero_le _, upd_same, fun b o nb e => by rw [upd_ne nb]; exact e⟩, ?_⟩
  rintro i m H2 ⟨rfl, hi, hd, kk⟩
  by_cases lt : i < xs.length
  · have ex := List.getElem?_eq_getElem lt
    obtain ⟨b, ys, eb, hb, ey⟩ := hy i _ ex
    refine .inr ⟨⟨xs, _, SqT.rd (keep kk hr), ex⟩, fun H' => H' D = some (.lst (yss.take (i + 1)).flatten) ∧ ∀ b o, b ≠ D → H1 b = some o → H' b = some o, fun H' q => ⟨_, by omega, rfl, lt, q.1, q.2⟩, ?_⟩
    rintro x H3 ⟨rfl, hx⟩
    have e2 := hx xs (SqT.rd (keep kk hr))
    rw [ex] at e2
    cases e2
    rw [eb]
    refine ⟨by rw [wipe_set_mem h0, wipe_back], ?_⟩
    show (∃ v, ((wipe σ vs).set i0 (some (V.ref b)))[i0]? = some (some v) ∧ ∃ a, v = .ref a ∧ (∃ xs, SqT K H3 a xs) ∧ _)
    refine ⟨.ref b, List.getElem?_set_self (by rw [wipe_length]; omega), b, rfl, ⟨ys, SqT.rd (keep kk hb)⟩, ?_⟩
    refine ⟨fun j n H4 => n = ys.length - j ∧ j ≤ ys.length ∧ H4 D = some (.lst ((yss.take i).flatten ++ ys.take j)) ∧ ∀ b o, b ≠ D → H1 b = some o → H4 b = some o, ⟨ys.length, by simp, Nat.zero_le _, by rw [List.take_zero, List.append_nil]; exact hd, kk⟩, ?_⟩
    rintro j n H4 ⟨rfl, hj, hd4, kk4⟩
    have lt2 : ((yss.take i).flatten ++ ys).length ≤ 1000 := by
      rw [← take_flat ey]
      refine Nat.le_trans ?_ lf
      have := (List.take_append_drop (i + 1) yss).symm
      rw [this, List.flatten_append, List.length_append]
      rw [List.take_append_drop]
      exact Nat.le_add_right _ _
    by_cases ltj : j < ys.length
    · have ej := List.getElem?_eq_getElem ltj
      refine .inr ⟨⟨ys, _, SqT.rd (keep kk4 hb), ej⟩, fun H' => H' D = some (.lst ((yss.take i).flatten ++ ys.take (j + 1))) ∧ ∀ b o, b ≠ D → H1 b = some o → H' b = some o, fun H' q => ⟨_, by omega, rfl, ltj, q.1, q.2⟩, ?_⟩
      rintro y H5 ⟨rfl, hyy⟩
      have e3 := hyy ys (SqT.rd (keep kk4 hb))
      rw [ej] at e3
      cases e3
      refine ⟨by rw [wipe_set_mem (List.mem_singleton.mpr rfl), wipe_back], ?_⟩
      refine ⟨_, List.getElem?_set_self (by rw [wipe_length, List.length_set, wipe_length]; omega), _, hd4, ?_, ?_, fun b o nb e => by rw [upd_ne nb]; exact kk4 b o nb e⟩
      · rw [List.length_append, List.length_take]
        have : (1000 : Nat) ≤ sizeLine := by rw [sizeLine_eq]; decide
        rw [List.length_append] at lt2
        omega
      · rw [upd_same, List.append_assoc, List.take_succ, ej]
        rfl
    · have ej : j = ys.length := by omega
      subst ej
      refine .inl ⟨⟨ys, SqT.rd (keep kk4 hb), Nat.le_refl _⟩, ?_, kk4⟩
      rw [hd4, take_flat ey, List.take_length]
  · have ei : i = xs.length := by omega
    subst ei
    refine .inl ⟨⟨xs, SqT.rd (keep kk hr), Nat.le_refl _⟩, ?_⟩
    rw [List.take_of_length_le (by omega)] at hd
    have RT : Rep Γ ε1 (fun b => T1 b ∨ b = D) σ (upd H1 D (.lst yss.flatten)) := R1.temp hD
    have sm : Same (upd H1 D (.lst yss.flatten)) H2 := fun b o e => by
      by_cases nb : b = D
      · subst nb
        rw [upd_same] at e
        cases e
        exact hd
      · rw [upd_ne nb] at e
        exact kk b o nb e
    have sn : Same H1 H2 := fun b o e => sm _ _ (same_new (o := .lst yss.flatten) hD _ _ e)
    have RT2 := RT.same sm
    have f : Fit2 (Mx Γ ε1 T1 σ) (Mx Γ ε1 (fun b => T1 b ∨ b = D) σ) H1 H2 := ⟨fun b z => by
      rcases z with z | z | z | rfl
      · exact .inl (.inl z)
      · exact .inl (.inr (.inl z))
      · exact .inl (.inr (.inr z))
      · exact .inr hD, fun b o _ e => sn b o e⟩
    refine g _ _ H2 RT2 ⟨fun b o n e => sn _ _ (s1.k b o n e), RT2.hp, RT2.tz, fun b z => .inl (s1.t b z), fun b z => ?_⟩ ⟨D, yss.flatten, rfl, s1.none R.hp hD, .inr rfl, hd, lf, dy.go f⟩
    rcases f.m b z with q | q
    · exact s1.m b q
    · exact .inr (s1.none R.hp q)
theorem xe_fl {X : Cx} {iter : Expr} {x0 x1 : Str} {p0 p1 q0 q1 : Pos} {scope : Scope} {own : List (Str × Nat)} {pos : Pos} {t : XE} (i0 i1 : Nat) (hc : X.calm = true) (hN : X.N.Nodup) (hi : PE X iter (up t)) (ok : BlkOk X.N X.env.scope scope own) (h0 : i0 ∈ own.map (·.2)) (h1 : i1 ∈ own.map (·.2))
    (hg : ∀ (s : Shared) (H : Hp) (C : Addr) (cl : List (Str × Addr)) (fp : List Addr), PG (X.blk s H scope (compEnvC scope cl C X.env) fp) (.Name x0 p0) (gName i0))
    (hv : ∀ (s : Shared) (H : Hp) (C : Addr) (cl : List (Str × Addr)) (fp : List Addr), PE (X.blk s H scope (compEnvC scope cl C X.env) fp) (.Name x0 q0) (tVar i0))
    (hg1 : ∀ (s : Shared) (H : Hp) (C : Addr) (cl : List (Str × Addr)) (fp : List Addr), PG (X.blk s H scope (compEnvC scope cl C X.env) fp) (.Name x1 p1) (gName i1))
    (hv1 : ∀ (s : Shared) (H : Hp) (C : Addr) (cl : List (Str × Addr)) (fp : List Addr), PE (X.blk s H scope (compEnvC scope cl C X.env) fp) (.Name x1 q1) (tVar i1)) (hs : ∀ x, foldedSetIterable iter X.env x = pure x := by intro _; rfl) :
    PE X (.ListComp (.Name x1 q1) [⟨.Name x0 p0, iter, [], 0⟩, ⟨.Name x1 p1, .Name x0 q0, [], 0⟩] scope pos) (up (xFl i0 i1 t)) :=
  pe_wk (pe_lc2 hc hN (pi_tup hi) ok (fun i hi => by rw [List.mem_singleton.mp hi]; exact h1) hg (fun _ _ _ _ _ => pts_nil) (fun s H C cl fp => pi_tup (hv s H C cl fp)) hg1 (fun _ _ _ _ _ => pts_nil) hv1 hs) fun _ _ _ h => fl_core h0 h1 h
end Cs
set_option maxHeartbeats 4000000
/-! «a or b» of tuples -/
namespace Cs
open PySem L2 L2H PyProof.Rows
def tOrT (K : PySem.W.Frag) (ta tb : TE) : TE := fun σ H Q => ta σ H fun x H1 => ∃ k, TruV K x H1 k ∧ if k = true then Q x H1 else tb σ H1 Q
section
variable {X : Cx} {a b : Expr} {rest : List Expr} {pos : Pos} {ta tb : TE}
theorem pe_orT (ha : PE X a ta) (hb : PE X (.BoolOp .Or (b :: rest) pos) tb) : PE X (.BoolOp .Or (a :: b :: rest) pos) (tOrT X.K ta tb) := by
  refine ⟨fun pins s σ H Q I h => ?_⟩
  refine BoolOp_or (thn (ha.run pins s σ H _ I h) fun v s1 ⟨x, H1, I1, r1, k, e, q1⟩ => ?_)
  refine thn (tru_ok pins s1 σ H1 x v (fun c H2 => c = k ∧ H2 = H1) I1 r1 ⟨k, e, rfl, rfl⟩) fun c s2 ⟨H2, I2, ec, eH⟩ => ?_
  subst ec eH
  cases c with
  | true =>
    rw [if_pos rfl] at q1
    exact ⟨x, _, I2, r1, q1⟩
  | false =>
    rw [if_neg (by decide)] at q1
    exact hb.run pins s2 σ _ Q I2 q1
end
@[irreducible] def xOrT2 (a b : XE) : XE := ⟨fun ε K => a.run ε fun r ε1 => ∃ ds, r.see = some (.tuple ds) ∧ if ds.isEmpty = false then K r ε1 else b.run ε1 K, fun h q => a.mono (fun r _ ⟨c, e, k⟩ => ⟨c, e, by
  split at k
  · rw [if_pos (by assumption)]
    exact h _ _ k
  · rw [if_neg (by assumption)]
    exact b.mono h k⟩) q⟩
theorem xOrT2_run {a b : XE} {ε : List AV} {K : RV → List AV → Prop} : (xOrT2 a b).run ε K = a.run ε fun r ε1 => ∃ ds, r.see = some (.tuple ds) ∧ if ds.isEmpty = false then K r ε1 else b.run ε1 K := by
  unfold xOrT2
  rfl
theorem xe_orT {X : Cx} {a b : Expr} {rest : List Expr} {pos : Pos} {ta tb : XE} (h : PE X a (up ta)) (k : PE X (.BoolOp .Or (b :: rest) pos) (up tb)) : PE X (.BoolOp .Or (a :: b :: rest) pos) (up (xOrT2 ta tb)) :=
  pe_wk (pe_orT h k) fun σ H Q ⟨Γ, ε, T, R, q⟩ => up1 R (xOrT2_run ▸ q) fun r x ε1 T1 H1 ⟨ds, e, g⟩ R1 s1 d1 => by
    obtain ⟨p, vs, e1, e2, e3, e4, e5⟩ := (d1.see e).tup
    have lv := e4.length
    refine ⟨!vs.isEmpty, ?_, ?_⟩
    · rw [e1]
      exact .inr (.inl ⟨vs, SqT.rd e2, rfl⟩)
    · have em : vs.isEmpty = ds.isEmpty := by
        cases vs <;> cases ds <;> first | rfl | (simp at lv)
      rw [em]
      split at g
      · rename_i z
        rw [z]
        exact g _ T1 H1 R1 s1 d1
      · rename_i z
        rw [Bool.not_eq_false] at z
        rw [z]
        exact up_contE R R1 s1 g
/-- (a, b, ..) = a list of that length -/
def xgU (gs : XGs) : XG := ⟨gs.is, fun d ε K => ∃ ds, d = .list ds ∧ gs.run ds ε K, fun h ⟨ds, e, k⟩ => ⟨ds, e, gs.mono h k⟩, fun ⟨ds, e, k⟩ => gs.prog k⟩
theorem xg_u {X : Cx} {K : PySem.W.Frag} {tg : Expr} {gs : XGs} (h : PG X tg (gUnl K gs.len (upGs gs))) : PG X tg (upG (xgU gs)) := pg_wk h fun v σ H Q ⟨Γ, ε, T, d, R, dn, ds, e, k⟩ => by
  subst e
  cases dn with
  | @lst a xs _ n h z r => exact ⟨a, xs, rfl, SqL.of h, by rw [r.length]; exact gs.lenOk k, Γ, ε, T, ds, R, r, k⟩
end Cs
set_option maxHeartbeats 4000000
/-! k04: what is heard of a Table that cannot be made -/
namespace Cs
open PySem PySem.Spec L2 L2H PyProof.Rows LamX
def idxD : Option Nat → PyData
  | none => .none
  | some i => .int ((i : Nat) : Int)
def XTb : DE := ⟨fun as K => ∃ (dc dr : PyData) (n : Nat) (e : Option Nat), as = [.d dc, .d dr] ∧ tabErr dc dr = some (n, e) ∧ K n (idxD e), fun h ⟨dc, dr, n, e, ea, he, k⟩ => ⟨dc, dr, n, e, ea, he, h _ _ k⟩⟩
theorem tabErr_lt {dc dr : PyData} {n : Nat} {e : Option Nat} (h : tabErr dc dr = some (n, e)) : n < 2 := by
  unfold tabErr at h
  split at h
  · cases h
    decide
  · split at h
    · obtain ⟨_, _, z⟩ := Option.map_eq_some_iff.mp h
      cases z
      decide
    · cases h
theorem ad_tb {xc : Nat → Addr} {C x dx : Addr} {vs : List V} {H : Hp} {Q : VK} {E : XK} (hx : H x = none) (hd : H dx = none) (h : SpR xc XTb vs H E) : SpTI xc (.ref x :: vs) (upd (upd H dx (.own x)) x (.ins C dx [])) Q E := by
  obtain ⟨p, M, as, pm, ph, ml, ag, dc, dr, n, e, rfl, he, k⟩ := h
  obtain ⟨vc, vr, rfl, h1, h2⟩ := arg2 ag
  have h1 : Dn M H vc dc := h1
  have h2 : Dn M H vr dr := h2
  have s : Same H (upd (upd H dx (.own x)) x (.ins C dx [])) := fun b o hb => by
    rw [upd_ne (ne_of_none hb hx), upd_ne (ne_of_none hb hd)]
    exact hb
  have n2 := tabErr_lt he
  refine ⟨p, x, vc, vr, dc, dr, n, e, rfl, (h1.rp pm).keep (ExB.of s), (h2.rp pm).keep (ExB.of s), he, fun dd H' hdd s2 at' => ?_⟩
  refine k dd (idxV e) H' (s.trans s2) (by rw [at']; unfold fldOf; rw [if_pos n2]) ?_
  cases e with
  | none => exact .non
  | some i => exact .int _
section
variable {X : Cx} {Ex : Expr} {C P : Addr} {tb : List (Addr × Str)} {a : XA} {cl : Str → Addr} {xc : Nat → Addr}
theorem x_hdT (hx : ∀ n, NSx n → ExW X.K cl (xc n) n) (hP : ∃ q ∈ tb, q.1 = P) (h : PE X Ex (tLam3 tb P (TTh X.K cl) fun E => tMake C (SpTI xc) [] E (upA a))) : PE X Ex (up (xHdC false tb XTb a)) :=
  pe_wk h fun σ H Q ⟨Γ, ε, T, R00, ht, k⟩ => by
    have htb := R00.tbs ht
    subst htb
    refine ⟨R00.tz, fun H0 ex tz0 E Q' hE hB => ?_⟩
    obtain ⟨R0, s0⟩ := R00.lam hP ex tz0
    refine upA1 R0 k fun rs vs ε2 T2 H2 ⟨rs', e1, w⟩ R2 s2 d2 => fun x dx hnx hnd hne => ?_
    rw [List.append_nil]
    exact ad_tb hnx hnd (hd_core hx R0 R2 s2 d2 e1 (fun h => h) w (fun r ε' v T' H' w R' s' d' => w v T' H' R' (s0.trans R00.hp s') (d'.early fun a => s0.none R00.hp)) hE)
theorem x_hdTK {n : Nat} (hx : ∀ n, NSx n → ExW X.K cl (xc n) n) (hP : ∃ q ∈ tb, q.1 = P) (h : PE X Ex (tLam3 tb P (TTh X.K cl) fun E => tMakeK C 0 n (SpTI xc) (fun vs zs => vs ++ zs.reverse) E tNil (upA a))) (hn : n = 2 := by rfl) : PE X Ex (up (xHdC true tb XTb a)) :=
  pe_wk h fun σ H Q ⟨Γ, ε, T, R00, ht, k⟩ => by
    have htb := R00.tbs ht
    subst htb
    refine ⟨R00.tz, fun H0 ex tz0 E Q' hE hB => ?_⟩
    obtain ⟨R0, s0⟩ := R00.lam hP ex tz0
    refine upA1 R0 k fun rs vs ε2 T2 H2 ⟨rs', e1, w⟩ R2 s2 d2 => ?_
    have sp : SpR xc XTb vs.reverse H2 E := hd_core (rs2 := rs'.reverse) (vs2 := vs.reverse) hx R0 R2 s2 d2 e1 (fun h => argA_rev h) w (fun r ε' v T' H' w R' s' d' => w v T' H' R' (s0.trans R00.hp s') (d'.early fun a => s0.none R00.hp)) hE
    have lv : vs.length = n := by
      obtain ⟨p, M, as, _, _, _, ag, _, _, _, _, rfl, _⟩ := sp
      have := arg_len ag
      rw [List.length_reverse] at this
      rw [hn, this]
      rfl
    exact ⟨rfl, lv, fun x dx hnx hnd hne => ad_tb hnx hnd sp⟩
end
end Cs
set_option maxHeartbeats 4000000
local macro_rules | `(tactic| walk_at "xg") => `(tactic| try dsimp only [Cs.xRet, Cs.xRetN, Cs.xOp, Cs.xUn, Cs.xV, Cs.xB, Cs.xC, Cs.xCall, Cs.xCons, Cs.xNil, Cs.xBi, Cs.xSeq, Cs.xSet, Cs.xSets, Cs.xIfS, Cs.xTest, Cs.xTup, Cs.xLst, Cs.xAndV, Cs.xOrV, Cs.xNotV, Cs.xNot, Cs.xAndT, Cs.xOrT, Cs.xIf, Cs.xSl, Cs.xNoPart, Cs.xPart, Cs.xiL, Cs.xiB, Cs.xiT, Cs.xiR1, Cs.xiR2, Cs.xiS, Cs.xiZ, Cs.xiE, Cs.xgN, Cs.xgT, Cs.xgNil, Cs.xgCons, Cs.xYes, Cs.xDrop, Cs.xApp, Cs.xPopS, Cs.xPopA, Cs.xAsg, Cs.xNext, Cs.xNev, Cs.xChain, Cs.xIsi, Cs.xRaw, Cs.okEnd, Cs.toAV, Cs.setP, Cs.aftP, Cs.xCallK, Cs.xMeth, Cs.xProp, Cs.xTab, Cs.xW, Cs.xM1, Cs.xRv, Cs.xiR3, Cs.xTupW, Cs.xLenO, Cs.xStrO, Cs.xBoolO, Cs.xOwn, Cs.xMethK, Cs.xTabK, Cs.xLstO, Cs.xiO, Cs.elA, Cs.turnO, Cs.xWp, Cs.xFl, Cs.xTz, Cs.xWhile, Cs.xTabJ, Cs.toAVL, Cs.xHdM, Cs.xHdMK, Cs.xHdC, Cs.xCallL, Cs.xDct, Cs.xgU, List.map, List.replicate, List.length_cons, List.length_nil, List.cons_append, List.nil_append, List.set_cons_succ, List.set_cons_zero, Nat.add_sub_cancel, Nat.sub_self, Nat.reduceSub, Nat.reduceAdd, eq_self, ↓reduceIte])
local macro_rules | `(tactic| walk_at "xw") => `(tactic| try dsimp only [Cs.lcTurn, Cs.wipeA, List.set_cons_succ, List.set_cons_zero])
local macro_rules | `(tactic| walk_at "x") => `(tactic| first
  | (with_reducible refine Eq.mpr (if_pos ?_) ?_; exact rfl)
  | (with_reducible refine Eq.mpr (if_neg ?_) ?_; exact Bool.false_ne_true)
  | refine ⟨_, rfl, ?_⟩
  | refine ⟨rfl, ?_⟩
  | refine ⟨_, _, rfl, rfl, True.intro, ?_⟩
  | refine ⟨_, _, _, rfl, rfl, rfl, True.intro, ?_⟩
  | refine ⟨_, rfl, by exact Nat.le_of_ble_eq_true rfl, ?_⟩
  | refine ⟨by exact Nat.le_of_ble_eq_true rfl, ?_⟩
  | refine ⟨_, _, _, _, rfl, rfl, rfl, rfl, ?_⟩
  | refine ⟨_, _, rfl, ?_⟩
  | refine ⟨⟨_, rfl⟩, ?_⟩
  | refine ⟨_, _, rfl, fun _ => rfl, ?_⟩
  | refine ⟨_, 0, rfl, (fun z => (nomatch z)), ?_⟩
  | refine ⟨_, fun _ => rfl, ?_⟩
  | refine ⟨0, (fun z => (nomatch z)), ?_⟩
  | fail "x")
local macro_rules | `(tactic| walk_at "xs") => `(tactic| repeat' (walk_at "xg"; walk_at "x"))
local macro_rules | `(tactic| walk_at "sets") => `(tactic| (intro vs σ H Q hl hq; first
  | exact (match vs, hl, hq with | [_], _, q => ⟨_, _, rfl, rfl, q⟩)
  | exact (match vs, hl, hq with | [_, _], _, q => ⟨_, _, rfl, _, _, rfl, rfl, q⟩)
  | exact (match vs, hl, hq with | [_, _, _], _, q => ⟨_, _, rfl, _, _, rfl, _, _, rfl, rfl, q⟩)
  | fail "sets"))
/-! k04: bad heads -/
namespace Cs
open PySem PySem.Spec L2 L2H PyProof.Rows LamX
theorem cutD_to {ds : List PyData} {k : Nat} (h : k ≤ ds.length) : cutD ds none (some ((k : Nat) : Int)) = ds.take k := by
  unfold cutD
  rw [HT.sIx_none, HT.sIx_nat, List.drop_zero, Nat.sub_zero, Nat.min_eq_left h]
theorem cutD_from {ds : List PyData} {k : Nat} (h : k ≤ ds.length) : cutD ds (some ((k : Nat) : Int)) none = ds.drop k := by
  unfold cutD
  rw [HT.sIx_none, HT.sIx_nat, Nat.min_eq_left h, List.take_of_length_le (by rw [List.length_drop]; exact Nat.le_refl _)]
theorem cutD_sub {ds : List PyData} {i j : Option Int} {d : PyData} (h : d ∈ cutD ds i j) : d ∈ ds := List.mem_of_mem_drop (List.mem_of_mem_take h)
theorem cutD_len {ds : List PyData} {i j : Option Int} : (cutD ds i j).length ≤ ds.length := by
  unfold cutD
  rw [List.length_take, List.length_drop]
  omega
theorem x_slT {f : List PyData → Prop} {fl fh : Option Int → Prop} {ds : List PyData} {i j : Option Int} (h : f ds) (h1 : fl i) (h2 : fh j) (hl : (cutD ds i j).length ≤ 1000) :
    ∃ es a b, f es ∧ fl a ∧ fh b ∧ (cutD es a b).length ≤ 1000 ∧ PyData.tuple (cutD ds i j) = .tuple (cutD es a b) := ⟨ds, i, j, h, h1, h2, hl, rfl⟩
theorem x_slL {f : List PyData → Prop} {fl fh : Option Int → Prop} {ds : List PyData} {i j : Option Int} (h : f ds) (h1 : fl i) (h2 : fh j) (hl : (cutD ds i j).length ≤ 1000) :
    ∃ es a b, f es ∧ fl a ∧ fh b ∧ (cutD es a b).length ≤ 1000 ∧ PyData.list (cutD ds i j) = .list (cutD es a b) := ⟨ds, i, j, h, h1, h2, hl, rfl⟩
theorem rep_len {ds : List PyData} {n m : Nat} (h : ds.length ≤ m) : (List.replicate n ds).flatten.length ≤ n * m := by
  rw [List.length_flatten, List.map_replicate, List.sum_replicate_nat]
  exact Nat.mul_le_mul_left n h
theorem rep_sub {ds : List PyData} {n : Nat} {d : PyData} (h : d ∈ (List.replicate n ds).flatten) : d ∈ ds := by
  obtain ⟨l, h1, h2⟩ := List.mem_flatten.mp h
  rw [List.eq_of_mem_replicate h1] at h2
  exact h2
theorem colsBad_run : ∀ {names : List Str} {i : Nat} {seen : List Str} {rest : List PyData}, i + names.length ≤ 4 → (seen ++ names).Nodup → (∀ x ∈ names, isName (.str x) = true) →
    colsBad i seen (names.map PyData.str ++ rest) = colsBad (i + names.length) (seen ++ names) rest
  | [], i, seen, rest, _, _, _ => by simp
  | x :: names, i, seen, rest, h4, nd, nm => by
    have hx : seen.contains x = false := by
      rw [List.contains_eq_mem, decide_eq_false_iff_not]
      intro z
      exact (List.nodup_append.mp nd).2.2 x z x List.mem_cons_self rfl
    rw [List.length_cons] at h4
    rw [List.map_cons, List.cons_append, colsBad_ok (by omega) (nm x List.mem_cons_self) hx, colsBad_run (by omega) (by rw [List.append_assoc]; exact nd) (fun y hy => nm y (List.mem_cons_of_mem _ hy)), List.append_assoc, List.length_cons]
    rw [show i + 1 + names.length = i + (names.length + 1) by omega]
    rfl
theorem colsErr_bad {names : List Str} {k : Nat} {bad : PyData} (hk : k ≤ names.length) (h3 : names.length ≤ 3) (nd : names.Nodup) (nm : ∀ x ∈ names, isName (.str x) = true)
    (hb : isName bad = false ∨ ∃ y ∈ names, y ∈ names.take k ∧ bad = .str y) : colsErr (.tuple ((names.map PyData.str).take k ++ [bad] ++ (names.map PyData.str).drop k)) = some (some k) := by
  have e : colsBad 0 [] ((names.map PyData.str).take k ++ [bad] ++ (names.map PyData.str).drop k) = some k := by
    rw [List.append_assoc, ← List.map_take, colsBad_run (by rw [List.length_take]; omega) (by rw [List.nil_append]; exact (List.take_sublist k names).nodup nd) (fun x hx => nm x (List.mem_of_mem_take hx)), List.length_take, Nat.min_eq_left hk, Nat.zero_add, List.nil_append]
    rcases hb with hb | ⟨y, _, hy, rfl⟩
    · exact colsBad_bad hb
    · exact colsBad_in (by rw [List.contains_eq_mem, decide_eq_true_eq]; exact hy)
  cases hd : (names.map PyData.str).take k ++ [bad] ++ (names.map PyData.str).drop k with
  | nil => simp at hd
  | cons z r =>
    rw [hd] at e
    show (colsBad 0 [] (z :: r)).map some = _
    rw [e]
    rfl
def RBh : DR := ⟨fun n as K => ∃ cs : List Str, as = [.p, .d (dCols cs)] ∧ 1 ≤ cs.length ∧ cs.length ≤ 3 ∧ cs.Nodup ∧ (∀ x ∈ cs, isName (.str x) = true) ∧ n < 1000000 ∧ ∀ (ds : List PyData) (k : Nat), colsErr (.tuple ds) = some (some k) → k ≤ 3 → ds.length ≤ 4 → K (.f [.tuple ds, .int (k : Nat)]) (n + 2),
  fun h ⟨cs, e, a, b, c, d, f, k⟩ => ⟨cs, e, a, b, c, d, f, fun x y p q r => h _ _ (k x y p q r)⟩⟩
section
variable {P : Program} {w : World} {K : PySem.W.Frag} {mg : Str → Option Value} {base : Heap} {C : Addr}
theorem sc__law_bad_heads : FnScope ["_law_pail_here", "_law_heads_here", "_law_at", "_law_wrong"] ["_law_pail_here", "_law_heads_here"] (defScope (topS 52)) := ⟨rfl, rfl, rfl, by decide +kernel, rfl, by decide +kernel, by decide +kernel⟩
theorem ok__law_bad_heads (D : DefAt K mg "_law_bad_heads" (topS 52) ["_law_pail_here", "_law_heads_here"]) (T : Txt mg) (c_law_scoop : C8.Cal P w K mg base 1 "_law_scoop" SpScoop []) (c_law_any : C8.Cal P w K mg base 2 "_law_any" (SpD true RAny) []) : C8.Cal P w K mg base 3 "_law_bad_heads" (SpD true RBh) [] := by
  have nd := sc__law_bad_heads.nd
  refine D.dl sc__law_bad_heads (by decide) (by rintro n rs K ⟨_, rfl, _⟩; exact ⟨rfl, rfl⟩) fun f cdv A outer s H E hr => ?_
  have hu64 := hr.units
  refine ⟨_, (xss_cons (xs_asg (w := false) (ps_set (i := 2) nd rfl (.inl rfl) (x_call (C8.pe_c c_law_scoop hr (by decide) rfl (xa_cons (xe_v (pv 0)) (xa_cons (x_op (pe_op opAddD (x_bi (pe_callB call_lenA (by rfl) T.len_ (by decide +kernel) (xa_cons (xe_v (pv 1)) xa_nil)) bl_len) (xe_c pe_int (fun _ _ => .int _))) ol_add) xa_nil))) (fun _ _ _ => ad_scoop))))
      (xss_cons (xs_asg (w := false) (ps_set (i := 3) nd rfl (.inl rfl) (x_op (pe_op opAddD (xe_lst (xa_cons (xe_c pe_non (fun _ _ => .non)) (xa_cons (xe_c pe_str (fun _ _ => .str _ (by decide))) (xa_cons (xe_c pe_str (fun _ _ => .str _ (by decide))) (xa_cons (xe_c pe_str (fun _ _ => .str _ (by decide))) (xa_cons (xe_c pe_str (fun _ _ => .str _ (by decide))) (xa_cons (xe_c pe_int (fun _ _ => .int _)) (xa_cons (xe_tup (xa_cons (xe_c pe_str (fun _ _ => .str _ (by decide))) xa_nil)) (xa_cons (xe_lst (xa_cons (xe_c pe_str (fun _ _ => .str _ (by decide))) xa_nil)) (xa_cons (xe_c pe_str (fun _ _ => .str _ (by decide))) xa_nil)))))))))) (x_op (pe_op opMul (xe_slice slTwo (x_bi (pe_callTy call_list_of (by rfl) T.list_ (by decide +kernel) (xa_cons (xe_slice slTwo (xe_v (pv 1)) xo_none (xo_some (xe_v (pv 2)))) xa_nil)) bl_list) (xo_some (xe_neg (xe_c pe_int (fun _ _ => .int _)))) xo_none) (xe_c pe_int (fun _ _ => .int _))) ol_mul)) ol_add)))
      (xss_one (xs_ret (xe_lst (xa_cons (x_op (pe_op opAddD (x_op (pe_op opAddD (xe_slice slTwo (xe_v (pv 1)) xo_none (xo_some (xe_v (pv 2)))) (xe_tup (xa_cons (x_call (C8.pe_c c_law_any hr (by decide) rfl (xa_cons (xe_v (pv 0)) (xa_cons (xe_v (pv 3)) xa_nil))) (fun _ _ _ => id)) xa_nil))) ol_add) (xe_slice slTwo (xe_v (pv 1)) (xo_some (xe_v (pv 2))) xo_none)) ol_add) (xa_cons (xe_v (pv 2)) xa_nil))))))), ?_⟩
  rintro n as K ⟨cs, rfl, c1, c3, cnd, cnm, hn, k⟩
  have lC : (List.map PyData.str cs).length = cs.length := List.length_map _
  have sT : ∀ (xs : List PyData) (i : Nat), fSl (.tuple xs) none (some ((i : Nat) : Int)) = some (.d (.tuple (cutD xs none (some ((i : Nat) : Int))))) := fun xs i => rfl
  have sF : ∀ (xs : List PyData) (i : Nat), fSl (.tuple xs) (some ((i : Nat) : Int)) none = some (.d (.tuple (cutD xs (some ((i : Nat) : Int)) none))) := fun xs i => rfl
  have hA : ∀ xs ys : List PyData, fAdd (.tuple xs) (.tuple ys) = some (xs.length + ys.length ≤ 1000, .d (.tuple (xs ++ ys))) := fun _ _ => rfl
  have hL : ∀ xs ys : List PyData, fAdd (.list xs) (.list ys) = some (xs.length + ys.length ≤ 1000, .f (xs ++ ys)) := fun _ _ => rfl
  walk_at "xs"
  rw [lC]
  refine ⟨by omega, by omega, by omega, fun k0 k1 k2 => ?_⟩
  obtain ⟨kk, rfl⟩ := Int.eq_ofNat_of_zero_le k1
  have hk : kk ≤ cs.length := by omega
  have lcut : ∀ i j : Option Int, (cutD (List.map PyData.str cs) i j).length ≤ 3 := fun i j => Nat.le_trans cutD_len (by rw [lC]; exact c3)
  walk_at "xs"
  refine ⟨_, _, rfl, sT _ kk, ?_⟩
  walk_at "xs"
  refine ⟨_, _, rfl, rfl, ?_⟩
  have hM : ∀ (xs : List PyData) (k : Int), fMul (.list xs) (.int k) = some (0 ≤ k ∧ k ≤ 1000 ∧ xs.length * k.toNat ≤ 1000, .f (List.replicate k.toNat xs).flatten) := fun _ _ => rfl
  have lc2 : (cutD (cutD (List.map PyData.str cs) none (some ((kk : Nat) : Int))) (some (-1)) none).length ≤ 3 := Nat.le_trans cutD_len (lcut _ _)
  walk_at "xs"
  refine ⟨_, _, _, rfl, rfl, hM _ 3, ⟨by decide, by decide, by show _ * 3 ≤ 1000; omega⟩, ?_⟩
  have lr := rep_len (n := 3) lc2
  have lR : (List.replicate (3 : Int).toNat (cutD (cutD (List.map PyData.str cs) none (some ((kk : Nat) : Int))) (some (-1)) none)).flatten.length ≤ 9 := lr
  walk_at "xs"
  refine ⟨_, _, _, rfl, rfl, hL _ _, by show 9 + _ ≤ 1000; omega, ?_⟩
  walk_at "xs"
  refine ⟨_, _, rfl, sT _ kk, ?_⟩
  walk_at "xs"
  refine ⟨by rw [List.length_append]; show 9 + _ ≤ 1000; omega, by omega, fun d hd => ?_⟩
  walk_at "xs"
  have lt := lcut none (some ((kk : Nat) : Int))
  have lf := lcut (some ((kk : Nat) : Int)) none
  refine ⟨_, _, _, rfl, rfl, hA _ _, by show _ + 1 ≤ 1000; omega, ?_⟩
  walk_at "xs"
  refine ⟨_, _, rfl, sF _ kk, ?_⟩
  walk_at "xs"
  refine ⟨_, _, _, rfl, rfl, hA _ _, by rw [List.length_append]; show _ + 1 + _ ≤ 1000; omega, ?_⟩
  walk_at "xs"
  rw [cutD_to (by rw [lC]; exact hk), cutD_from (by rw [lC]; exact hk)]
  have bad : isName d = false ∨ ∃ y ∈ cs, y ∈ cs.take kk ∧ d = .str y := by
    rcases List.mem_append.mp hd with hd | hd
    · simp only [List.mem_cons, List.not_mem_nil, or_false] at hd
      rcases hd with rfl | rfl | rfl | rfl | rfl | rfl | rfl | rfl | rfl <;> exact .inl (by decide +kernel)
    · have h2 := cutD_sub (rep_sub hd)
      rw [cutD_to (by rw [lC]; exact hk), ← List.map_take] at h2
      obtain ⟨y, hy, rfl⟩ := List.mem_map.mp h2
      exact .inr ⟨y, List.mem_of_mem_take hy, hy, rfl⟩
  refine k _ kk (colsErr_bad hk c3 cnd cnm bad) (by omega) ?_
  rw [List.length_append, List.length_append, List.length_take, List.length_drop, lC, List.length_singleton]
  omega
end
end Cs
set_option maxHeartbeats 4000000
local macro_rules | `(tactic| walk_at "xg") => `(tactic| try dsimp only [Cs.xRet, Cs.xRetN, Cs.xOp, Cs.xUn, Cs.xV, Cs.xB, Cs.xC, Cs.xCall, Cs.xCons, Cs.xNil, Cs.xBi, Cs.xSeq, Cs.xSet, Cs.xSets, Cs.xIfS, Cs.xTest, Cs.xTup, Cs.xLst, Cs.xAndV, Cs.xOrV, Cs.xNotV, Cs.xNot, Cs.xAndT, Cs.xOrT, Cs.xIf, Cs.xSl, Cs.xNoPart, Cs.xPart, Cs.xiL, Cs.xiB, Cs.xiT, Cs.xiR1, Cs.xiR2, Cs.xiS, Cs.xiZ, Cs.xiE, Cs.xgN, Cs.xgT, Cs.xgNil, Cs.xgCons, Cs.xYes, Cs.xDrop, Cs.xApp, Cs.xPopS, Cs.xPopA, Cs.xAsg, Cs.xNext, Cs.xNev, Cs.xChain, Cs.xIsi, Cs.xRaw, Cs.okEnd, Cs.toAV, Cs.setP, Cs.aftP, Cs.xCallK, Cs.xMeth, Cs.xProp, Cs.xTab, Cs.xW, Cs.xM1, Cs.xRv, Cs.xiR3, Cs.xTupW, Cs.xLenO, Cs.xStrO, Cs.xBoolO, Cs.xOwn, Cs.xMethK, Cs.xTabK, Cs.xLstO, Cs.xiO, Cs.elA, Cs.turnO, Cs.xWp, Cs.xFl, Cs.xTz, Cs.xWhile, Cs.xTabJ, Cs.toAVL, Cs.xHdM, Cs.xHdMK, Cs.xHdC, Cs.xCallL, Cs.xDct, Cs.xgU, List.map, List.replicate, List.length_cons, List.length_nil, List.cons_append, List.nil_append, List.set_cons_succ, List.set_cons_zero, Nat.add_sub_cancel, Nat.sub_self, Nat.reduceSub, Nat.reduceAdd, eq_self, ↓reduceIte])
local macro_rules | `(tactic| walk_at "xw") => `(tactic| try dsimp only [Cs.lcTurn, Cs.wipeA, List.set_cons_succ, List.set_cons_zero])
local macro_rules | `(tactic| walk_at "x") => `(tactic| first
  | (with_reducible refine Eq.mpr (if_pos ?_) ?_; exact rfl)
  | (with_reducible refine Eq.mpr (if_neg ?_) ?_; exact Bool.false_ne_true)
  | refine ⟨_, rfl, ?_⟩
  | refine ⟨rfl, ?_⟩
  | refine ⟨_, _, rfl, rfl, True.intro, ?_⟩
  | refine ⟨_, _, _, rfl, rfl, rfl, True.intro, ?_⟩
  | refine ⟨_, rfl, by exact Nat.le_of_ble_eq_true rfl, ?_⟩
  | refine ⟨by exact Nat.le_of_ble_eq_true rfl, ?_⟩
  | refine ⟨_, _, _, _, rfl, rfl, rfl, rfl, ?_⟩
  | refine ⟨_, _, rfl, ?_⟩
  | refine ⟨⟨_, rfl⟩, ?_⟩
  | refine ⟨_, _, rfl, fun _ => rfl, ?_⟩
  | refine ⟨_, 0, rfl, (fun z => (nomatch z)), ?_⟩
  | refine ⟨_, fun _ => rfl, ?_⟩
  | refine ⟨0, (fun z => (nomatch z)), ?_⟩
  | fail "x")
local macro_rules | `(tactic| walk_at "xs") => `(tactic| repeat' (walk_at "xg"; walk_at "x"))
local macro_rules | `(tactic| walk_at "sets") => `(tactic| (intro vs σ H Q hl hq; first
  | exact (match vs, hl, hq with | [_], _, q => ⟨_, _, rfl, rfl, q⟩)
  | exact (match vs, hl, hq with | [_, _], _, q => ⟨_, _, rfl, _, _, rfl, rfl, q⟩)
  | exact (match vs, hl, hq with | [_, _, _], _, q => ⟨_, _, rfl, _, _, rfl, _, _, rfl, rfl, q⟩)
  | fail "sets"))
/-! k04: bad rows -/
namespace Cs
open PySem PySem.Spec L2 L2H PyProof.Rows LamX
theorem rowsBad_ok {m i : Nat} {seen : List Str} {d : PyData} {x : Str} {r : List PyData} (h8 : i ≠ 8) (h : isRow m d = true) (hn : nameOf d = some x) (hs : seen.contains x = false) : rowsBad m i seen (d :: r) = rowsBad m (i + 1) (seen ++ [x]) r := by
  simp only [rowsBad, h, hn, hs, if_neg h8, if_true, Bool.false_eq_true, if_false]
theorem rowsBad_no {m i : Nat} {seen : List Str} {d : PyData} {r : List PyData} (h : isRow m d = false) : rowsBad m i seen (d :: r) = some i := by
  simp [rowsBad, h]
theorem rowsBad_in {m i : Nat} {seen : List Str} {d : PyData} {x : Str} {r : List PyData} (hn : nameOf d = some x) (hs : seen.contains x = true) : rowsBad m i seen (d :: r) = some i := by
  simp only [rowsBad, hn, hs, if_true, ite_self]
theorem rowsBad_8 {m : Nat} {seen : List Str} {d : PyData} {r : List PyData} : rowsBad m 8 seen (d :: r) = some 8 := by simp [rowsBad]
theorem span_lt {lo hi a b : Int} (h : ¬ (lo ≤ a ∧ a ≤ b ∧ b ≤ hi)) : isSpan lo hi (.tuple [.int a, .int b]) = false := by
  simp only [isSpan, Bool.and_eq_false_iff, decide_eq_false_iff_not]
  omega
theorem row_len {m : Nat} {nm : PyData} {ss : List PyData} (h : ss.length ≠ m) : isRow m (.tuple [nm, .tuple ss]) = false := by
  simp [isRow, h]
theorem row_bad {m : Nat} {nm : PyData} {ss : List PyData} {d : PyData} (hd : d ∈ ss) (h : isSpan (-10000) 10000 d = false) : isRow m (.tuple [nm, .tuple ss]) = false := by
  have e : ss.all (isSpan (-10000) 10000) = false := by
    rw [List.all_eq_false]
    exact ⟨d, hd, by rw [h]; exact Bool.false_ne_true⟩
  show (_ && (_ && ss.all _)) = false
  rw [e, Bool.and_false, Bool.and_false]
theorem row_name {m : Nat} {nm s : PyData} (h : isName nm = false) : isRow m (.tuple [nm, s]) = false := by
  unfold isRow
  split
  · rename_i q
    cases q
    rw [h, Bool.false_and]
  · rfl
theorem atI_last {α : Type} {xs : List α} {x : α} : atI (xs ++ [x]) (-1) = some x := by
  have h : ixN (xs ++ [x]).length (-1) = some xs.length := by
    rw [List.length_append]
    unfold ixN
    simp
    try omega
  unfold atI
  rw [h]
  simp
theorem cutD_init {xs : List PyData} {x : PyData} : cutD (xs ++ [x]) none (some (-1)) = xs := by
  unfold cutD
  have h : HT.sIx (xs ++ [x]).length (xs ++ [x]).length (some (-1)) = xs.length := by
    rw [List.length_append]
    unfold HT.sIx
    simp
    try omega
  rw [h, HT.sIx_none]
  simp
theorem cutD_tail {xs : List PyData} (h : 1 ≤ xs.length) : cutD xs (some 1) none = xs.drop 1 := cutD_from (k := 1) h
def RStr : DR := ⟨fun n as K => as = [.p] ∧ n < 1000000 ∧ ∀ q : Int × Int, -10000 ≤ q.1 ∧ q.1 ≤ q.2 ∧ q.2 ≤ 10000 → K (.d (dSp q)) (n + 3), fun h ⟨e, a, k⟩ => ⟨e, a, fun q b => h _ _ (k q b)⟩⟩
theorem ad_str {vs : List V} {H : Hp} {Q : VK} {E : XK} (h : SpD true RStr vs H Q E) : SpStretch vs H Q E := by
  obtain ⟨p, M, n, as, pm, ph, ml, pt, ag, rfl, hn, k⟩ := h
  obtain ⟨v, rfl, h1⟩ := arg1 ag
  cases h1
  refine ⟨p, n, rfl, pt rfl, hn, fun v d H' hs rv ex hp => ?_⟩
  obtain ⟨a, b, rfl, h1, h2, h3⟩ := span_inv hs
  exact k (a, b) ⟨h1, h2, h3⟩ v H' ⟨ex, hp⟩ (RpT.dn (fun a xs _ => exb_nt ml ex hp a xs) rv)
theorem spans_of : ∀ es : List PyData, (∀ x ∈ es, ∃ q : Int × Int, x = dSp q ∧ -10000 ≤ q.1 ∧ q.1 ≤ q.2 ∧ q.2 ≤ 10000) → ∃ qs : List (Int × Int), es = qs.map dSp ∧ ∀ q ∈ qs, -10000 ≤ q.1 ∧ q.1 ≤ q.2 ∧ q.2 ≤ 10000
  | [], _ => ⟨[], rfl, fun q h => by cases h⟩
  | x :: es, h => by
    obtain ⟨q, rfl, hq⟩ := h x List.mem_cons_self
    obtain ⟨qs, rfl, hqs⟩ := spans_of es fun y hy => h y (List.mem_cons_of_mem _ hy)
    exact ⟨q :: qs, rfl, fun z hz => by
      rcases List.mem_cons.mp hz with rfl | hz
      · exact hq
      · exact hqs z hz⟩
theorem rowsBad_runR {m : Nat} : ∀ (rs : List Rw) (i : Nat) (seen : List Str) (rest : List PyData), i + rs.length ≤ 8 → (∀ r ∈ rs, isRow m (dRw r) = true) → (seen ++ rs.map (fun x : Rw => x.1)).Nodup →
    rowsBad m i seen (rs.map dRw ++ rest) = rowsBad m (i + rs.length) (seen ++ rs.map (fun x : Rw => x.1)) rest
  | [], i, seen, rest, _, _, _ => by rw [List.map_nil, List.map_nil, List.nil_append, List.append_nil]; rfl
  | r :: rs, i, seen, rest, hl, hn, nd => by
    have hi : i ≠ 8 := by
      rw [List.length_cons] at hl
      omega
    rw [List.map_cons] at nd
    have e := rowsBad_ok (r := rs.map dRw ++ rest) hi (hn r List.mem_cons_self) (show nameOf (dRw r) = some r.1 from rfl) (not_in nd)
    rw [List.map_cons, List.cons_append, e, rowsBad_runR rs (i + 1) (seen ++ [r.1]) rest (by rw [List.length_cons] at hl; omega) (fun y hy => hn y (List.mem_cons_of_mem _ hy)) (nd_next nd), List.map_cons, List.length_cons, List.append_assoc]
    rw [show i + 1 + rs.length = i + (rs.length + 1) by omega]
    rfl
theorem rowsErr_badR {m k : Nat} {rs : List Rw} {bad : PyData} (hk : k ≤ rs.length) (h4 : rs.length ≤ 8) (nd : (rs.map fun x : Rw => x.1).Nodup) (ok : ∀ r ∈ rs, isRow m (dRw r) = true) (hb : isRow m bad = false ∨ ∃ y ∈ (rs.take k).map (fun x : Rw => x.1), nameOf bad = some y) :
    rowsErr m (.tuple ((rs.map dRw).take k ++ [bad] ++ (rs.map dRw).drop k)) = some (some k) := by
  have e : rowsBad m 0 [] ((rs.map dRw).take k ++ [bad] ++ (rs.map dRw).drop k) = some k := by
    rw [List.append_assoc, ← List.map_take, rowsBad_runR _ 0 [] _ (by rw [List.length_take]; omega) (fun r hr => ok r (List.mem_of_mem_take hr)) (by rw [List.nil_append, List.map_take]; exact (List.take_sublist k _).nodup nd), List.length_take, Nat.min_eq_left hk, Nat.zero_add, List.nil_append, List.singleton_append]
    rcases hb with hb | ⟨y, hy, e⟩
    · exact rowsBad_no hb
    · exact rowsBad_in e (by rw [List.contains_eq_mem, decide_eq_true_eq]; exact hy)
  cases hd : (rs.map dRw).take k ++ [bad] ++ (rs.map dRw).drop k with
  | nil => simp at hd
  | cons z r =>
    rw [hd] at e
    show (rowsBad m 0 [] (z :: r)).map some = _
    rw [e]
    rfl
theorem ite_c {b : Bool} {F : RV → List AV → Prop} {ε : List AV} {x y : Int} (k : F (.d (.int (if b = true then x else y))) ε) : if b = true then (xC (.int x)).run ε F else (xC (.int y)).run ε F := by cases b <;> exact k
def RBl : DR := ⟨fun n as K => ∃ (m : Nat) (rs : List Rw), as = [.p, .d (.int (m : Nat)), .d (dRows rs)] ∧ 1 ≤ m ∧ m ≤ 3 ∧ 1 ≤ rs.length ∧ rs.length ≤ 4 ∧ (rs.map (fun x : Rw => x.1)).Nodup ∧ (∀ r ∈ rs, isName (.str r.1) = true) ∧ (∀ r ∈ rs, isRow m (dRw r) = true) ∧ n < 900000 ∧
  ∀ (es : List PyData) (k : Nat), rowsErr m (.tuple es) = some (some k) → k ≤ 4 → es.length ≤ 5 → K (.f [.tuple es, .int (k : Nat)]) (n + 3 * m + 3),
  fun h ⟨m, rs, e, a, b, c, d, f, g, i, j, k⟩ => ⟨m, rs, e, a, b, c, d, f, g, i, j, fun x y p q r => h _ _ (k x y p q r)⟩⟩
section
variable {P : Program} {w : World} {K : PySem.W.Frag} {mg : Str → Option Value} {base : Heap} {C : Addr}
theorem sc__law_bad_lines : FnScope ["_law_pail_here", "_law_many", "_law_lines_here", "_law_at", "_law_good", "_law_k", "_law_low", "_law_high", "_law_bad", "_law_worse", "_law_wrong"] ["_law_pail_here", "_law_many", "_law_lines_here"] (defScope (topS 53)) := ⟨rfl, rfl, rfl, by decide +kernel, rfl, by decide +kernel, by decide +kernel⟩
theorem ok__law_bad_lines (D : DefAt K mg "_law_bad_lines" (topS 53) ["_law_pail_here", "_law_many", "_law_lines_here"]) (T : Txt mg) (c_law_scoop : C8.Cal P w K mg base 1 "_law_scoop" SpScoop []) (c_law_any : C8.Cal P w K mg base 2 "_law_any" (SpD true RAny) []) (c_law_stretch : C8.Cal P w K mg base 3 "_law_stretch" SpStretch []) : C8.Cal P w K mg base 4 "_law_bad_lines" (SpD true RBl) [] := by
  have nd := sc__law_bad_lines.nd
  refine D.dl sc__law_bad_lines (by decide) (by rintro n rs K ⟨_, _, rfl, _⟩; exact ⟨rfl, rfl⟩) fun f cdv A outer s H E hr => ?_
  have hu64 := hr.units
  refine ⟨_, (xss_cons (xs_par (w1 := false) (w2 := false) (ps_par (i := 3) (j := 4) (by rfl) nd rfl rfl (by decide) rfl rfl (xa_cons (x_call (C8.pe_c c_law_scoop hr (by decide) rfl (xa_cons (xe_v (pv 0)) (xa_cons (x_op (pe_op opAddD (x_bi (pe_callB call_lenA (by rfl) T.len_ (by decide +kernel) (xa_cons (xe_v (pv 2)) xa_nil)) bl_len) (xe_c pe_int (fun _ _ => .int _))) ol_add) xa_nil))) (fun _ _ _ => ad_scoop)) (xa_cons (x_bi (pe_callTy call_tuple_of (by rfl) T.tuple_ (by decide +kernel) (xa_cons (xe_lc (own := [("_law_k", 5)]) rfl nd (xi_rng1 rfl T.range_ (xa_cons (xe_v (pv 1)) xa_nil)) (blkOk_by (N := ["_law_pail_here", "_law_many", "_law_lines_here", "_law_at", "_law_good", "_law_k", "_law_low", "_law_high", "_law_bad", "_law_worse", "_law_wrong"]) (sc := defScope (topS 53)) (by decide +kernel)) (fun _ _ _ _ _ => (xg_n (pg_name (i := 5) nd rfl (.inl rfl)))) (fun _ _ _ _ _ => xts_nil) (fun _ _ _ _ _ => (x_call (C8.pe_c c_law_stretch hr (by decide) rfl (xa_cons (xe_v (pv 0)) xa_nil)) (fun _ _ _ => ad_str))) (by decide)) xa_nil)) bl_tuple) xa_nil)) (by rfl)))
      (xss_cons (xs_tgt (ps_asg (x_op (pe_ix ix_seq (xe_v (pv 4)) (xe_neg (xe_c pe_int (fun _ _ => .int _))) (fun _ _ => rfl)) ol_ix) (xg_t (pg_tup (by rfl) (xgs_cons (xg_n (pg_name (i := 6) nd rfl (.inl rfl))) (xgs_cons (xg_n (pg_name (i := 7) nd rfl (.inl rfl))) xgs_nil))))))
      (xss_cons (xs_asg (w := false) (ps_set (i := 8) nd rfl (.inl rfl) (xe_lst (xa_cons (xe_tup (xa_cons (x_op (pe_op opAddD (xe_v (pv 7)) (xe_c pe_int (fun _ _ => .int _))) ol_add) (xa_cons (xe_v (pv 7)) xa_nil))) (xa_cons (xe_tup (xa_cons (xe_v (pv 6)) (xa_cons (xe_c pe_int (fun _ _ => .int _)) xa_nil))) (xa_cons (xe_tup (xa_cons (xe_neg (xe_c pe_int (fun _ _ => .int _))) (xa_cons (xe_v (pv 7)) xa_nil))) (xa_cons (xe_tup (xa_cons (xe_v (pv 6)) xa_nil)) (xa_cons (xe_lst (xa_cons (xe_v (pv 6)) (xa_cons (xe_v (pv 7)) xa_nil))) (xa_cons (xe_tup (xa_cons (xe_v (pv 6)) (xa_cons (xe_v (pv 7)) (xa_cons (xe_v (pv 7)) xa_nil)))) (xa_cons (xe_tup (xa_cons (xe_c pe_bl (fun _ _ => .bl _)) (xa_cons (xe_v (pv 7)) xa_nil))) (xa_cons (xe_c pe_non (fun _ _ => .non)) xa_nil)))))))))))
      (xss_cons (xs_asg (w := false) (ps_set (i := 9) nd rfl (.inl rfl) (x_op (pe_op opAddD (xe_slice slTwo (xe_v (pv 4)) xo_none (xo_some (xe_neg (xe_c pe_int (fun _ _ => .int _))))) (xe_tup (xa_cons (x_call (C8.pe_c c_law_any hr (by decide) rfl (xa_cons (xe_v (pv 0)) (xa_cons (x_op (pe_op opAddD (xe_v (pv 8)) (xe_lst (xa_cons (xe_tup (xa_cons (xe_v (pv 6)) (xa_cons (xe_c pe_str (fun _ _ => .str _ (by decide))) xa_nil))) (xa_cons (xe_tup (xa_cons (xe_v (pv 6)) (xa_cons (xe_c pe_non (fun _ _ => .non)) xa_nil))) (xa_cons (xe_c pe_int (fun _ _ => .int _)) xa_nil))))) ol_add) xa_nil))) (fun _ _ _ => id)) xa_nil))) ol_add)))
      (xss_cons (xs_asg (w := false) (ps_set (i := 10) nd rfl (.inl rfl) (xe_lst (xa_cons (xe_c pe_non (fun _ _ => .non)) (xa_cons (xe_c pe_str (fun _ _ => .str _ (by decide))) (xa_cons (xe_tup (xa_cons (xe_c pe_str (fun _ _ => .str _ (by decide))) xa_nil)) (xa_cons (xe_tup (xa_cons (xe_c pe_str (fun _ _ => .str _ (by decide))) (xa_cons (xe_v (pv 4)) (xa_cons (xe_c pe_int (fun _ _ => .int _)) xa_nil)))) (xa_cons (xe_lst (xa_cons (xe_c pe_str (fun _ _ => .str _ (by decide))) (xa_cons (xe_v (pv 4)) xa_nil))) (xa_cons (xe_tup (xa_cons (xe_c pe_str (fun _ _ => .str _ (by decide))) (xa_cons (x_bi (pe_callTy call_list_of (by rfl) T.list_ (by decide +kernel) (xa_cons (xe_v (pv 4)) xa_nil)) bl_list) xa_nil))) (xa_cons (xe_tup (xa_cons (xe_c pe_str (fun _ _ => .str _ (by decide))) (xa_cons (xe_v (pv 4)) xa_nil))) (xa_cons (xe_tup (xa_cons (xe_c pe_str (fun _ _ => .str _ (by decide))) (xa_cons (xe_v (pv 4)) xa_nil))) xa_nil)))))))))))
      (xss_cons (xs_asg (w := false) (ps_set (i := 10) nd rfl (.inl rfl) (x_op (pe_op opAddD (xe_v (pv 10)) (xe_lst (xa_cons (xe_tup (xa_cons (xe_c pe_str (fun _ _ => .str _ (by decide))) (xa_cons (x_op (pe_op opAddD (xe_v (pv 4)) (xe_tup (xa_cons (xe_tup (xa_cons (xe_c pe_int (fun _ _ => .int _)) (xa_cons (xe_c pe_int (fun _ _ => .int _)) xa_nil))) xa_nil))) ol_add) xa_nil))) (xa_cons (xe_tup (xa_cons (xe_c pe_str (fun _ _ => .str _ (by decide))) (xa_cons (xe_slice slTwo (xe_v (pv 4)) (xo_some (xe_c pe_int (fun _ _ => .int _))) xo_none) xa_nil))) (xa_cons (xe_tup (xa_cons (xe_c pe_str (fun _ _ => .str _ (by decide))) (xa_cons (xe_v (pv 9)) xa_nil))) (xa_cons (xe_tup (xa_cons (xe_c pe_str (fun _ _ => .str _ (by decide))) (xa_cons (xe_v (pv 9)) xa_nil))) (xa_cons (xe_tup (xa_cons (xe_c pe_str (fun _ _ => .str _ (by decide))) (xa_cons (xe_v (pv 9)) xa_nil))) xa_nil))))))) ol_add)))
      (xss_cons (xs_asg (w := false) (ps_set (i := 10) nd rfl (.inl rfl) (x_op (pe_op opAddD (xe_v (pv 10)) (xe_lst (xa_cons (xe_tup (xa_cons (xe_c pe_non (fun _ _ => .non)) (xa_cons (xe_v (pv 4)) xa_nil))) (xa_cons (xe_tup (xa_cons (xe_c pe_str (fun _ _ => .str _ (by decide))) (xa_cons (xe_c pe_non (fun _ _ => .non)) xa_nil))) (xa_cons (xe_tup (xa_cons (xe_tup (xa_cons (xe_c pe_str (fun _ _ => .str _ (by decide))) xa_nil)) (xa_cons (xe_v (pv 4)) xa_nil))) xa_nil))))) ol_add)))
      (xss_cons (xs_asg (w := false) (ps_set (i := 10) nd rfl (.inl rfl) (x_op (pe_op opAddD (xe_v (pv 10)) (x_op (pe_op opMul (xe_lst (xa_cons (xe_tup (xa_cons (x_op (pe_ix ix_seq (x_op (pe_ix ix_seq (xe_v (pv 2)) (x_op (pe_op op_sub (xe_v (pv 3)) (xe_c pe_int (fun _ _ => .int _))) ol_sub) (fun _ _ => rfl)) ol_ix) (xe_c pe_int (fun _ _ => .int _)) (fun _ _ => rfl)) ol_ix) (xa_cons (xe_v (pv 4)) xa_nil))) xa_nil)) (xe_ifExp (xt_op (pt_cmpR op_gt (xe_v (pv 3)) (xe_c pe_int (fun _ _ => .int _)) (nomark _)) ol_gt) (xe_c pe_int (fun _ _ => .int _)) (xe_c pe_int (fun _ _ => .int _)))) ol_mul)) ol_add)))
      (xss_one (xs_ret (xe_lst (xa_cons (x_op (pe_op opAddD (x_op (pe_op opAddD (xe_slice slTwo (xe_v (pv 2)) xo_none (xo_some (xe_v (pv 3)))) (xe_tup (xa_cons (x_call (C8.pe_c c_law_any hr (by decide) rfl (xa_cons (xe_v (pv 0)) (xa_cons (xe_v (pv 10)) xa_nil))) (fun _ _ _ => id)) xa_nil))) ol_add) (xe_slice slTwo (xe_v (pv 2)) (xo_some (xe_v (pv 3))) xo_none)) ol_add) (xa_cons (xe_v (pv 3)) xa_nil))))))))))))), ?_⟩
  rintro n as K ⟨m, rs, rfl, m1, m3, r1, r4, rnd, rnm, rok, hn, k⟩
  have lD : (List.map dRw rs).length = rs.length := List.length_map _
  walk_at "xs"
  rw [lD]
  refine ⟨by omega, by omega, by omega, fun k0 k1 k2 => ?_⟩
  obtain ⟨kk, rfl⟩ := Int.eq_ofNat_of_zero_le k1
  have hk : kk ≤ rs.length := by omega
  walk_at "xs"
  refine lc_drw (fun m' => [.p m', .d (.int (m : Nat)), .d (dRows rs), .u, .u, .u, .u, .u, .u, .u, .u]) (n + 1) 3 (fun _ _ x => ∃ q : Int × Int, x = dSp q ∧ -10000 ≤ q.1 ∧ q.1 ≤ q.2 ∧ q.2 ≤ 10000) ?_
  have lg : (rgD 0 ((m : Nat) : Int).toNat).length = m := by
    unfold rgD
    rw [List.length_map, List.length_range]
    omega
  walk_at "xs"
  refine ⟨by omega, by omega, rfl, by rw [lg]; omega, fun ii dd hdd => ?_, fun es he hes => ?_⟩
  · have hii : ii < m := by
      have := (List.getElem?_eq_some_iff.mp hdd).1
      omega
    walk_at "xw"
    walk_at "xs"
    refine ⟨by omega, fun q hq => ?_⟩
    exact ⟨rfl, _, rfl, ⟨q, rfl, hq⟩, rfl⟩
  rw [lg] at he
  obtain ⟨qs, rfl, hqs⟩ := spans_of es fun x hx => by
    obtain ⟨jj, hjj, ejj⟩ := List.getElem_of_mem hx
    exact hes jj _ x (List.getElem?_eq_getElem (by rw [lg]; omega)) (by rw [List.getElem?_eq_getElem hjj, ejj])
  rw [List.length_map] at he
  rw [lg]
  obtain ⟨ini, q, rfl⟩ : ∃ ini q, qs = ini ++ [q] := by
    rcases List.eq_nil_or_concat qs with h | ⟨i, l, h⟩
    · rw [h] at he
      simp at he
      omega
    · exact ⟨i, l, by rw [h, List.concat_eq_append]⟩
  obtain ⟨b1, b2, b3⟩ := hqs q (by simp)
  have lin : ini.length + 1 = m := by rw [← he, List.length_append]; rfl
  have eg : List.map dSp (ini ++ [q]) = ini.map dSp ++ [dSp q] := by rw [List.map_append]; rfl
  rw [eg]
  have x1 : fIx (.tuple (ini.map dSp ++ [dSp q])) (.int (-1)) = some (True, .d (dSp q)) := fIx_t atI_last
  have hI : ∀ a b : Int, fAdd (.int a) (.int b) = some (True, .d (.int (a + b))) := fun _ _ => rfl
  have hL : ∀ xs ys : List PyData, fAdd (.list xs) (.list ys) = some (xs.length + ys.length ≤ 1000, .f (xs ++ ys)) := fun _ _ => rfl
  have hA : ∀ xs ys : List PyData, fAdd (.tuple xs) (.tuple ys) = some (xs.length + ys.length ≤ 1000, .d (.tuple (xs ++ ys))) := fun _ _ => rfl
  have hS1 : fSl (.tuple (ini.map dSp ++ [dSp q])) none (some (-1)) = some (.d (.tuple (ini.map dSp))) := by
    show some (RV.d (.tuple (cutD _ _ _))) = _
    rw [cutD_init]
  have hNe : ∀ i : Int, fNeg (.int i) = some (True, .d (.int (-i))) := fun _ => rfl
  walk_at "xw"
  walk_at "xs"
  refine ⟨_, _, _, rfl, rfl, x1, True.intro, ?_⟩
  walk_at "xs"
  refine ⟨_, _, rfl, hS1, ?_⟩
  walk_at "xs"
  refine ⟨_, _, _, rfl, rfl, hL _ _, by exact Nat.le_of_ble_eq_true rfl, ?_⟩
  walk_at "xs"
  refine ⟨by omega, fun w1 hw => ?_⟩
  have li : (ini.map dSp).length = ini.length := List.length_map _
  walk_at "xs"
  refine ⟨_, _, _, rfl, rfl, hA _ _, by rw [li]; show _ + 1 ≤ 1000; omega, ?_⟩
  have hS2 : fSl (.tuple (ini.map dSp ++ [dSp q])) (some 1) none = some (.d (.tuple ((ini.map dSp ++ [dSp q]).drop 1))) := by
    show some (RV.d (.tuple (cutD _ _ _))) = _
    rw [cutD_tail (by rw [List.length_append]; exact Nat.le_add_left _ _)]
  have lg2 : (ini.map dSp ++ [dSp q]).length = m := by rw [List.length_append, li]; exact lin
  walk_at "xs"
  refine ⟨_, _, _, rfl, rfl, hA _ _, by rw [lg2]; show _ + 1 ≤ 1000; omega, ?_⟩
  walk_at "xs"
  refine ⟨_, _, rfl, hS2, ?_⟩
  walk_at "xs"
  refine ⟨_, _, _, rfl, rfl, hL _ _, by exact Nat.le_of_ble_eq_true rfl, ?_⟩
  walk_at "xs"
  refine ⟨_, _, _, rfl, rfl, hL _ _, by exact Nat.le_of_ble_eq_true rfl, ?_⟩
  have hM : ∀ (xs : List PyData) (k : Int), fMul (.list xs) (.int k) = some (0 ≤ k ∧ k ≤ 1000 ∧ xs.length * k.toNat ≤ 1000, .f (List.replicate k.toNat xs).flatten) := fun _ _ => rfl
  have hSu : ∀ a b : Int, fSub (.int a) (.int b) = some (True, .d (.int (a - b))) := fun _ _ => rfl
  obtain ⟨r0, x3, hr0⟩ : ∃ r0 : Rw, fIx (dRows rs) (.int (((kk : Nat) : Int) - 1)) = some (True, .d (dRw r0)) ∧ (0 < kk → r0 ∈ rs.take kk) := by
    cases kk with
    | zero =>
      rcases List.eq_nil_or_concat rs with h | ⟨i, l, h⟩
      · rw [h] at r1
        exact absurd r1 (by decide)
      · refine ⟨l, fIx_t ?_, fun h => absurd h (by decide)⟩
        rw [h, List.concat_eq_append, List.map_append]
        exact atI_last
    | succ j =>
      have hj : j < rs.length := by omega
      refine ⟨rs[j], fIx_t ?_, fun _ => ?_⟩
      · rw [show ((j + 1 : Nat) : Int) - 1 = (j : Nat) by omega]
        exact atI_nat (j := j) (by rw [List.getElem?_map, List.getElem?_eq_getElem hj]; rfl)
      · rw [List.take_succ, List.getElem?_eq_getElem hj]
        exact List.mem_append_right _ (by simp)
  walk_at "xs"
  refine ⟨_, _, _, rfl, rfl, x3, True.intro, ?_⟩
  walk_at "xs"
  dsimp only
  refine ite_c ?_
  have hz3 : (0 : Int) ≤ (if decide ((0 : Int) < ((kk : Nat) : Int)) = true then 3 else 0) ∧ (if decide ((0 : Int) < ((kk : Nat) : Int)) = true then (3 : Int) else 0) ≤ 3 ∧ (kk = 0 → (if decide ((0 : Int) < ((kk : Nat) : Int)) = true then (3 : Int) else 0) = 0) := by
    by_cases z : (0 : Int) < ((kk : Nat) : Int)
    · rw [decide_eq_true z]
      exact ⟨by decide, by decide, fun e => absurd z (by omega)⟩
    · rw [decide_eq_false z]
      exact ⟨by decide, by decide, fun _ => rfl⟩
  generalize (if decide ((0 : Int) < ((kk : Nat) : Int)) = true then (3 : Int) else 0) = t3 at hz3 ⊢
  obtain ⟨z1, z2, z3⟩ := hz3
  have lrep : ∀ x : PyData, (List.replicate t3.toNat [x]).flatten.length ≤ 3 := fun x => by
    have := rep_len (n := t3.toNat) (m := 1) (ds := [x]) (Nat.le_refl _)
    omega
  have sT : ∀ (xs : List PyData) (i : Nat), i ≤ xs.length → fSl (.tuple xs) none (some ((i : Nat) : Int)) = some (.d (.tuple (xs.take i))) := fun xs i h => by
    show some (RV.d (.tuple (cutD xs none (some ((i : Nat) : Int))))) = _
    rw [cutD_to h]
  have sF : ∀ (xs : List PyData) (i : Nat), i ≤ xs.length → fSl (.tuple xs) (some ((i : Nat) : Int)) none = some (.d (.tuple (xs.drop i))) := fun xs i h => by
    show some (RV.d (.tuple (cutD xs (some ((i : Nat) : Int)) none))) = _
    rw [cutD_from h]
  refine ⟨_, _, _, rfl, rfl, hM _ t3, ⟨z1, by omega, by show 1 * _ ≤ 1000; omega⟩, ?_⟩
  have lr := lrep (.tuple [.str r0.1, .tuple (List.map dSp ini ++ [dSp q])])
  walk_at "xs"
  refine ⟨_, _, _, rfl, rfl, hL _ _, by show 16 + _ ≤ 1000; omega, ?_⟩
  walk_at "xs"
  refine ⟨_, _, rfl, sT (rs.map dRw) kk (by rw [lD]; exact hk), ?_⟩
  walk_at "xs"
  refine ⟨by rw [List.length_append]; show 16 + _ ≤ 1000; omega, by omega, fun d hd => ?_⟩
  have wr : isRow m d = false ∨ ∃ y ∈ (rs.take kk).map (fun x : Rw => x.1), nameOf d = some y := by
    have hw1 : isSpan (-10000) 10000 w1 = false := by
      simp only [List.mem_cons, List.cons_append, List.nil_append, List.not_mem_nil, or_false] at hw
      rcases hw with rfl | rfl | rfl | rfl | rfl | rfl | rfl | rfl | rfl | rfl | rfl
      · exact span_lt (by omega)
      · exact span_lt (by omega)
      · exact span_lt (by omega)
      all_goals rfl
    rcases List.mem_append.mp hd with hd | hd
    · refine .inl ?_
      simp only [List.mem_cons, List.cons_append, List.nil_append, List.not_mem_nil, or_false] at hd
      rcases hd with rfl | rfl | rfl | rfl | rfl | rfl | rfl | rfl | rfl | rfl | rfl | rfl | rfl | rfl | rfl | rfl
      · rfl
      · rfl
      · rfl
      · rfl
      · rfl
      · rfl
      · exact row_name (by decide +kernel)
      · exact row_name (by decide +kernel)
      · exact row_len (by rw [List.length_append, lg2, List.length_singleton]; omega)
      · exact row_len (by rw [List.length_drop, lg2]; omega)
      · exact row_bad (List.mem_append_right _ (List.mem_singleton.mpr rfl)) hw1
      · exact row_bad (List.mem_append_right _ (List.mem_singleton.mpr rfl)) hw1
      · exact row_bad (List.mem_append_right _ (List.mem_singleton.mpr rfl)) hw1
      · exact row_name rfl
      · rfl
      · exact row_name rfl
    · have kp : 0 < kk := by
        cases kk with
        | zero =>
          rw [z3 rfl] at hd
          cases hd
        | succ j => exact Nat.succ_pos _
      have e := rep_sub hd
      rw [List.mem_singleton.mp e]
      exact .inr ⟨r0.1, List.mem_map.mpr ⟨r0, hr0 kp, rfl⟩, rfl⟩
  clear hd hw
  have ltk : ((rs.map dRw).take kk).length ≤ 4 := by rw [List.length_take, lD]; omega
  have ldk : ((rs.map dRw).drop kk).length ≤ 4 := by rw [List.length_drop, lD]; omega
  walk_at "xs"
  refine ⟨_, _, _, rfl, rfl, hA _ _, by show _ + 1 ≤ 1000; omega, ?_⟩
  walk_at "xs"
  refine ⟨_, _, rfl, sF (rs.map dRw) kk (by rw [lD]; exact hk), ?_⟩
  walk_at "xs"
  refine ⟨_, _, _, rfl, rfl, hA _ _, by rw [List.length_append]; show _ + 1 + _ ≤ 1000; omega, ?_⟩
  walk_at "xs"
  rw [show n + 1 + 3 * m + 1 + 1 = n + 3 * m + 3 by omega]
  refine k _ kk (rowsErr_badR hk (by omega) rnd rok wr) (by omega) ?_
  rw [List.length_append, List.length_append, List.length_take, List.length_drop, lD, List.length_singleton]
  omega
end
end Cs
set_option maxHeartbeats 4000000
local macro_rules | `(tactic| walk_at "xg") => `(tactic| try dsimp only [Cs.xRet, Cs.xRetN, Cs.xOp, Cs.xUn, Cs.xV, Cs.xB, Cs.xC, Cs.xCall, Cs.xCons, Cs.xNil, Cs.xBi, Cs.xSeq, Cs.xSet, Cs.xSets, Cs.xIfS, Cs.xTest, Cs.xTup, Cs.xLst, Cs.xAndV, Cs.xOrV, Cs.xNotV, Cs.xNot, Cs.xAndT, Cs.xOrT, Cs.xIf, Cs.xSl, Cs.xNoPart, Cs.xPart, Cs.xiL, Cs.xiB, Cs.xiT, Cs.xiR1, Cs.xiR2, Cs.xiS, Cs.xiZ, Cs.xiE, Cs.xgN, Cs.xgT, Cs.xgNil, Cs.xgCons, Cs.xYes, Cs.xDrop, Cs.xApp, Cs.xPopS, Cs.xPopA, Cs.xAsg, Cs.xNext, Cs.xNev, Cs.xChain, Cs.xIsi, Cs.xRaw, Cs.okEnd, Cs.toAV, Cs.setP, Cs.aftP, Cs.xCallK, Cs.xMeth, Cs.xProp, Cs.xTab, Cs.xW, Cs.xM1, Cs.xRv, Cs.xiR3, Cs.xTupW, Cs.xLenO, Cs.xStrO, Cs.xBoolO, Cs.xOwn, Cs.xMethK, Cs.xTabK, Cs.xLstO, Cs.xiO, Cs.elA, Cs.turnO, Cs.xWp, Cs.xFl, Cs.xTz, Cs.xWhile, Cs.toAVL, Cs.xHdM, Cs.xHdMK, Cs.xHdC, Cs.xCallL, Cs.xDct, Cs.xgU, List.map, List.replicate, List.length_cons, List.length_nil, List.cons_append, List.nil_append, List.set_cons_succ, List.set_cons_zero, Nat.add_sub_cancel, Nat.sub_self, Nat.reduceSub, Nat.reduceAdd, eq_self, ↓reduceIte])
local macro_rules | `(tactic| walk_at "xw") => `(tactic| try dsimp only [Cs.lcTurn, Cs.wipeA, List.set_cons_succ, List.set_cons_zero])
local macro_rules | `(tactic| walk_at "x") => `(tactic| first
  | (with_reducible refine Eq.mpr (if_pos ?_) ?_; exact rfl)
  | (with_reducible refine Eq.mpr (if_neg ?_) ?_; exact Bool.false_ne_true)
  | refine ⟨_, rfl, ?_⟩
  | refine ⟨rfl, ?_⟩
  | refine ⟨_, _, rfl, rfl, True.intro, ?_⟩
  | refine ⟨_, _, _, rfl, rfl, rfl, True.intro, ?_⟩
  | refine ⟨_, rfl, by exact Nat.le_of_ble_eq_true rfl, ?_⟩
  | refine ⟨by exact Nat.le_of_ble_eq_true rfl, ?_⟩
  | refine ⟨_, _, _, _, rfl, rfl, rfl, rfl, ?_⟩
  | refine ⟨_, _, rfl, ?_⟩
  | refine ⟨⟨_, rfl⟩, ?_⟩
  | refine ⟨_, _, rfl, fun _ => rfl, ?_⟩
  | refine ⟨_, 0, rfl, (fun z => (nomatch z)), ?_⟩
  | refine ⟨_, fun _ => rfl, ?_⟩
  | refine ⟨0, (fun z => (nomatch z)), ?_⟩
  | fail "x")
local macro_rules | `(tactic| walk_at "xs") => `(tactic| repeat' (walk_at "xg"; walk_at "x"))
local macro_rules | `(tactic| walk_at "sets") => `(tactic| (intro vs σ H Q hl hq; first
  | exact (match vs, hl, hq with | [_], _, q => ⟨_, _, rfl, rfl, q⟩)
  | exact (match vs, hl, hq with | [_, _], _, q => ⟨_, _, rfl, _, _, rfl, rfl, q⟩)
  | exact (match vs, hl, hq with | [_, _, _], _, q => ⟨_, _, rfl, _, _, rfl, _, _, rfl, rfl, q⟩)
  | fail "sets"))
/-! k04: four laps right -/
namespace Cs
open PySem PySem.Spec L2 L2H PyProof.Rows LamX
/-- a def whose code object is known -/
structure DefC (K : PySem.W.Frag) (mg : Str → Option Value) (x : Str) (st : Stmt) (ps : List Str) (cd : Addr) : Prop where
  ex : ∃ (f : Addr) (fd : FuncData), FunD K x x (defArgs st) (defBody st) (defScope st) [] [] f fd ∧ mg x = some (.ref f) ∧ Binds K fd ps [] ∧ fd.code = .ref cd
section
variable {P : Program} {w : World} {K : PySem.W.Frag} {mg : Str → Option Value} {base : Heap}
theorem DefC.dlL {x : Str} {st : Stmt} {N ps : List Str} {k : Nat} {tb : List (Addr × Str)} {R : DR} {cd : Addr} (D : DefC K mg x st ps cd) (S : FnScope N ps (defScope st)) (hN : ps.length ≤ N.length) (hR : ∀ n rs K, R.run n rs K → rs.length = ps.length)
    (hbody : ∀ (f : Addr) (A : Around) (outer : List Env) (s : Shared) (H : Hp) (E : XK), (A.deeper (envOfC x (defScope st) s.heap.objs.size f (.ref cd))).guards = some [] → Room k (A.deeper (envOfC x (defScope st) s.heap.objs.size f (.ref cd))) →
      ∃ t, PSs (cxOf CX0 P w K mg base N x (defScope st) f (.ref cd) A outer s H E).nox (defBody st) (upS t) ∧ ∀ n rs K, R.run n rs K → t.run (okEnd true K) (rs.map (toAVL tb n) ++ List.replicate (N.length - rs.length) .u)) : CalG P w K mg base (k + 1) x (SpL tb R) := by
  obtain ⟨f, fd, F, g, b, hc⟩ := D.ex
  refine ⟨f, fd, ps, ?_, g, F.kp, b⟩
  obtain ⟨oc, od, dV, kV, doc, pm, an, cdv, ct, osl, rfl, lk, hcd, _, _⟩ := F.ex
  have hc : cdv = .ref cd := hc
  subst hc
  have len : ∀ vs H Q E, SpL tb R vs H Q E → vs.length = ps.length := fun vs H Q E h => by
    obtain ⟨p, M, n, rs, _, _, _, _, _, _, ag, q⟩ := h
    rw [arg_len ag, hR _ _ _ q]
  refine fn_ofG lk hcd S len fun A outer s H vs Q E hg hr h => ?_
  obtain ⟨t, h1, h2⟩ := hbody f A outer s H E hg hr
  exact ⟨_, h1.nox, enterL h (by rw [len _ _ _ _ h]; exact hN) h2⟩
end
def letsN : List Str := ["a", "b", "c", "d", "e", "f", "g", "h", "i"]
theorem lets_ch : chD (Str.ofString "abcdefghi") = letsN.map PyData.str := by rfl
theorem lets_len : ∀ s ∈ letsN, s.length ≤ 1 := by decide +kernel
/-! ### what is asked is right -/
def Itm (d : PyData) : Prop := ∃ d1 d2 n e, d = .list [d1, d2, .str (wordOf n), .str (idxD e).shown] ∧ n < 2 ∧ tabErr d1 d2 = some (n, e) ∧ ∀ i, e = some i → i ≤ 8
theorem itm_cols {d1 d2 : PyData} {e : Option Nat} {x y : Str} (h : colsErr d1 = some e) (hx : x = "columns") (hy : y = (idxD e).shown) (hb : ∀ i, e = some i → i ≤ 8) : Itm (.list [d1, d2, .str x, .str y]) :=
  ⟨d1, d2, 0, e, by rw [hx, hy]; rfl, by decide, by unfold tabErr; rw [h], hb⟩
theorem itm_rows {cs : List PyData} {d2 : PyData} {e : Option Nat} {x y : Str} (h : colsErr (.tuple cs) = none) (h2 : rowsErr cs.length d2 = some e) (hx : x = "rows") (hy : y = (idxD e).shown) (hb : ∀ i, e = some i → i ≤ 8) : Itm (.list [.tuple cs, d2, .str x, .str y]) :=
  ⟨.tuple cs, d2, 1, e, by rw [hx, hy]; rfl, by decide, by unfold tabErr; rw [h]; dsimp only; rw [h2]; rfl, hb⟩
theorem colsErr_ok {names : List Str} (h3 : names.length ≤ 3) (h1 : 1 ≤ names.length) (nd : names.Nodup) (nm : ∀ x ∈ names, isName (.str x) = true) : colsErr (.tuple (names.map PyData.str)) = none := by
  have e : colsBad 0 [] (names.map PyData.str) = none := by
    have z := colsBad_run (names := names) (i := 0) (seen := []) (rest := []) (by omega) (by rw [List.nil_append]; exact nd) nm
    rw [List.append_nil] at z
    rw [z]
    rfl
  cases hd : names.map PyData.str with
  | nil =>
    have z := congrArg List.length hd
    rw [List.length_map] at z
    simp only [List.length_nil] at z
    omega
  | cons z r =>
    rw [hd] at e
    show (colsBad 0 [] (z :: r)).map some = _
    rw [e]
    rfl
theorem it_sh {k : Nat} : it ((k : Nat) : Int) = (idxD (some k)).shown := rfl
def tlQ (d : PyData) : Bool := d.showable && topSafe d && decide (d.depth ≤ 60) && decide (d.shown.length ≤ 1000)
theorem tlQ_ok {d : PyData} (h : tlQ d = true) : TlD d := by
  unfold tlQ at h
  simp only [Bool.and_eq_true, decide_eq_true_eq] at h
  exact ⟨h.1.1.1, h.1.1.2, h.1.2, h.2⟩
theorem idx_tl {e : Option Nat} (h : ∀ i, e = some i → i ≤ 8) : TlD (idxD e) := by
  cases e with
  | none => exact tlQ_ok (by decide +kernel)
  | some i => exact tlQ_ok ((by decide +kernel : ∀ i, i < 9 → tlQ (idxD (some i)) = true) i (Nat.lt_succ_of_le (h i rfl)))
theorem idx_sh {e : Option Nat} (h : ∀ i, e = some i → i ≤ 8) : ShD 0 (.str (idxD e).shown) := by
  refine ⟨?_, Nat.zero_le _⟩
  cases e with
  | none => decide +kernel
  | some i => exact (by decide +kernel : ∀ i, i < 9 → (PyData.str (idxD (some i)).shown).canLay0 = true) i (Nat.lt_succ_of_le (h i rfl))
theorem wrd_sh {n : Nat} (h : n < 2) : ShD 0 (.str (wordOf n)) := by
  refine ⟨?_, Nat.zero_le _⟩
  exact (by decide +kernel : ∀ n, n < 2 → (PyData.str (wordOf n)).canLay0 = true) n h
theorem nine_bad {m : Nat} {q : List (Int × Int)} (hl : q.length = m) (hs : ∀ s ∈ q, -10000 ≤ s.1 ∧ s.1 ≤ s.2 ∧ s.2 ≤ 10000) : rowsErr m (.tuple (letsN.map fun x => dRw ("n" ++ x, q))) = some (some 8) := by
  have nm : ∀ x ∈ letsN, isName (.str ("n" ++ x)) = true := by decide +kernel
  have nd : ((letsN.map fun x => (("n" ++ x, q) : Rw)).map (fun x : Rw => x.1)).Nodup := by
    rw [List.map_map]
    exact (by decide +kernel : (letsN.map fun x => ("n" ++ x : Str)).Nodup)
  have ok : ∀ r ∈ letsN.map (fun x => (("n" ++ x, q) : Rw)), isRow m (dRw r) = true := by
    intro r hr
    obtain ⟨x, hx, rfl⟩ := List.mem_map.mp hr
    exact row_ok (nm x hx) hl hs
  have e : letsN.map (fun x => dRw ("n" ++ x, q)) = ((letsN.map fun x => (("n" ++ x, q) : Rw)).take 8).map dRw ++ [dRw ("n" ++ "i", q)] := by
    rfl
  have nd8 : (((letsN.map fun x => (("n" ++ x, q) : Rw)).take 8).map (fun x : Rw => x.1)).Nodup := by
    rw [List.map_take]
    exact (List.take_sublist 8 _).nodup nd
  have z := rowsBad_runR (m := m) ((letsN.map fun x => (("n" ++ x, q) : Rw)).take 8) 0 [] [dRw ("n" ++ "i", q)] (by rw [List.length_take]; omega) (fun r hr => ok r (List.mem_of_mem_take hr)) (by rw [List.nil_append]; exact nd8)
  have l8 : ((letsN.map fun x => (("n" ++ x, q) : Rw)).take 8).length = 8 := rfl
  rw [l8, rowsBad_8] at z
  rw [e]
  show (rowsBad m 0 [] _).map some = _
  rw [← e]
  rw [← e] at z
  show (rowsBad m 0 [] _).map some = _
  exact congrArg (Option.map some) z
theorem itms_nil : ∀ x ∈ ([] : List PyData), Itm x := nofun
theorem itms_cons {d : PyData} {ds : List PyData} (h : Itm d) (t : ∀ x ∈ ds, Itm x) : ∀ x ∈ d :: ds, Itm x := fun x hx => by
  rcases List.mem_cons.mp hx with rfl | hx
  · exact h
  · exact t x hx
theorem grow_run {A B : List PyData} {n k : Nat} {G : Prop × RV → Prop} (oA : ∀ x ∈ A, Itm x) (lA : A.length ≤ n) (oB : ∀ x ∈ B, Itm x) (lB : B.length ≤ k) (h : n + k ≤ 1000)
    (kk : ∀ A2, (∀ x ∈ A2, Itm x) → A2.length ≤ n + k → G (A.length + B.length ≤ 1000, .f A2)) : ∃ d e c, (RV.b (.list A)).see = some d ∧ (RV.f B).see = some e ∧ fAdd d e = some c ∧ c.1 ∧ G c :=
  ⟨_, _, _, rfl, rfl, rfl, by show _ + _ ≤ 1000; omega, kk _ (fun x hx => by
    rcases List.mem_append.mp hx with hx | hx
    · exact oA x hx
    · exact oB x hx) (by rw [List.length_append]; omega)⟩
def RRi : DR := ⟨fun n as K => as = [.p] ∧ n < 1000 ∧ ∀ m, m ≤ n + 300 * 4 → K (.d (.bool true)) m, fun h ⟨e, a, k⟩ => ⟨e, a, fun m b => h _ _ (k m b)⟩⟩
section
variable {P : Program} {w : World} {K : PySem.W.Frag} {mg : Str → Option Value} {base : Heap} {C : Addr}
theorem sc__law_right : FnScope ["_law_pail_here", "_law_lap", "_law_heads_here", "_law_lines_here", "_law_bad", "_law_at", "_law_worse", "_law_place", "_law_five", "_law_nine", "_law_sign", "_law_asked", "_law_one", "_law_two", "_law_word_here", "_law_kept"] ["_law_pail_here"] (defScope (topS 54)) := ⟨rfl, rfl, rfl, by decide +kernel, rfl, by decide +kernel, by decide +kernel⟩
theorem ok__law_right {cl : Str → Addr} {xc : Nat → Addr} {cd Pt fI : Addr} {fdI : FuncData} {tb : List (Addr × Str)} (D : DefC K mg "_law_right" (topS 54) ["_law_pail_here"] cd) (T : Txt mg) (TC : TabC K C) (TG : TabG mg C)
    (HD : DefAt K mg "_law_heard" (topS 51) ["_law_act"]) (G : ClsT mg cl) (W : WordAt P w K mg base cl) (TB : TabB base mg cd Pt) (hmT : (Pt, ("_law_right.<locals>.<lambda>" : Str)) ∈ tb) (hu : ∀ p ∈ tb, p.1 = Pt → p.2 = "_law_right.<locals>.<lambda>") (hxw : ∀ n, NSx n → ExW K cl (xc n) n)
    (TA : TabAt K mg C fI fdI) (FIe : FnOk P w K mg base (L2.CX P w) 8 fI fdI ["self", "columns", "rows"] (SpTI xc)) (kb_init : KBn K fdI ["self", "columns", "rows"] 1 ["rows", "columns"] (fun us ws => us ++ ws.reverse) (fun vs zs => vs ++ zs.reverse))
    (c_law_heads : C8.Cal P w K mg base 2 "_law_heads" SpHeads []) (c_law_lines : C8.Cal P w K mg base 4 "_law_lines" SpLines []) (c_law_any : C8.Cal P w K mg base 2 "_law_any" (SpD true RAny) []) (c_law_bad_heads : C8.Cal P w K mg base 3 "_law_bad_heads" (SpD true RBh) []) (c_law_bad_lines : C8.Cal P w K mg base 4 "_law_bad_lines" (SpD true RBl) []) :
    CalG P w K mg base 14 "_law_right" (SpL tb RRi) := by
  have nd := sc__law_right.nd
  have hTC := TC.c
  refine D.dlL sc__law_right (by decide) (by rintro n rs K ⟨rfl, _⟩; rfl) fun f A outer s H E hG hr => ?_
  have hu64 := hr.units
  have lk : LamY (cxOf CX0 P w K mg base ["_law_pail_here", "_law_lap", "_law_heads_here", "_law_lines_here", "_law_bad", "_law_at", "_law_worse", "_law_place", "_law_five", "_law_nine", "_law_sign", "_law_asked", "_law_one", "_law_two", "_law_word_here", "_law_kept"] "_law_right" (defScope (topS 54)) f (.ref cd) A outer s H E).nox tb cl cd Pt := ⟨HD, T, G, W, hG, TB, rfl, hmT, hu⟩
  refine ⟨_, (xss_cons (xs_for PassesOwn.never rfl (xi_rng1 rfl T.range_ (xa_cons (xe_c pe_int (fun _ _ => .int _)) xa_nil)) (xg_n (pg_name (i := 1) nd rfl (.inl rfl))) (pss_wp [1, 2, 3, 4, 5, 6, 7, 8, 9, 11, 12, 13, 14, 15] (xss_cons (xs_asg (w := false) (ps_set (i := 2) nd rfl (.inl rfl) (x_call (C8.pe_c c_law_heads hr (by decide) rfl (xa_cons (xe_v (pv 0)) (xa_cons (xe_c pe_int (fun _ _ => .int _)) xa_nil))) (fun _ _ _ => ad_heads))))
      (xss_cons (xs_asg (w := false) (ps_set (i := 3) nd rfl (.inr rfl) (x_call (C8.pe_c c_law_lines hr (by decide) rfl (xa_cons (xe_v (pv 0)) (xa_cons (x_bi (pe_callB call_lenA (by rfl) T.len_ (by decide +kernel) (xa_cons (xe_w (pv 2)) xa_nil)) bl_len) (xa_cons (xe_c pe_int (fun _ _ => .int _)) xa_nil)))) (fun _ _ _ => ad_lines))))
      (xss_cons (xs_tgt (ps_asg (x_call (C8.pe_c c_law_bad_heads hr (by decide) rfl (xa_cons (xe_v (pv 0)) (xa_cons (xe_w (pv 2)) xa_nil))) (fun _ _ _ => id)) (xg_u (pg_unl (by rfl) (xgs_cons (xg_n (pg_name (i := 4) nd rfl (.inl rfl))) (xgs_cons (xg_n (pg_name (i := 5) nd rfl (.inl rfl))) xgs_nil))))))
      (xss_cons (xs_tgt (ps_asg (x_call (C8.pe_c c_law_bad_lines hr (by decide) rfl (xa_cons (xe_v (pv 0)) (xa_cons (x_bi (pe_callB call_lenA (by rfl) T.len_ (by decide +kernel) (xa_cons (xe_w (pv 2)) xa_nil)) bl_len) (xa_cons (xe_v (pv 3)) xa_nil)))) (fun _ _ _ => id)) (xg_u (pg_unl (by rfl) (xgs_cons (xg_n (pg_name (i := 6) nd rfl (.inl rfl))) (xgs_cons (xg_n (pg_name (i := 7) nd rfl (.inl rfl))) xgs_nil))))))
      (xss_cons (xs_asg (w := false) (ps_set (i := 8) nd rfl (.inl rfl) (xe_tup (xa_cons (xe_c pe_str (fun _ _ => .str _ (by decide))) (xa_cons (xe_c pe_str (fun _ _ => .str _ (by decide))) (xa_cons (xe_c pe_str (fun _ _ => .str _ (by decide))) (xa_cons (xe_c pe_str (fun _ _ => .str _ (by decide))) (xa_cons (xe_c pe_str (fun _ _ => .str _ (by decide))) xa_nil))))))))
      (xss_cons (xs_asg (w := false) (ps_set (i := 9) nd rfl (.inl rfl) (x_bi (pe_callTy call_tuple_of (by rfl) T.tuple_ (by decide +kernel) (xa_cons (xe_lc (own := [("_law_sign", 10)]) rfl nd (xi_str (xe_c pe_str (fun _ _ => .str _ (by decide)))) (blkOk_by (N := ["_law_pail_here", "_law_lap", "_law_heads_here", "_law_lines_here", "_law_bad", "_law_at", "_law_worse", "_law_place", "_law_five", "_law_nine", "_law_sign", "_law_asked", "_law_one", "_law_two", "_law_word_here", "_law_kept"]) (sc := defScope (topS 54)) (by decide +kernel)) (fun _ _ _ _ _ => (xg_n (pg_name (i := 10) nd rfl (.inl rfl)))) (fun _ _ _ _ _ => xts_nil) (fun _ _ _ _ _ => (xe_tup (xa_cons (x_op (pe_op opAddD (xe_c pe_str (fun _ _ => .str _ (by decide))) (xe_v (pv 10))) ol_add) (xa_cons (x_op (pe_ix ix_seq (x_op (pe_ix ix_seq (xe_v (pv 3)) (xe_c pe_int (fun _ _ => .int _)) (fun _ _ => rfl)) ol_ix) (xe_c pe_int (fun _ _ => .int _)) (fun _ _ => rfl)) ol_ix) xa_nil)))) (by decide)) xa_nil)) bl_tuple)))
      (xss_cons (xs_asg (w := true) (ps_set (i := 11) nd rfl (.inl rfl) (xe_lst (xa_cons (xe_lst (xa_cons (xe_v (pv 4)) (xa_cons (xe_v (pv 3)) (xa_cons (xe_c pe_str (fun _ _ => .str _ (by decide))) (xa_cons (x_bi (pe_callTy call_str_int (by rfl) T.str_ (by decide +kernel) (xa_cons (xe_v (pv 5)) xa_nil)) bl_strI) xa_nil))))) (xa_cons (xe_lst (xa_cons (xe_v (pv 4)) (xa_cons (xe_c pe_non (fun _ _ => .non)) (xa_cons (xe_c pe_str (fun _ _ => .str _ (by decide))) (xa_cons (x_bi (pe_callTy call_str_int (by rfl) T.str_ (by decide +kernel) (xa_cons (xe_v (pv 5)) xa_nil)) bl_strI) xa_nil))))) xa_nil)))))
      (xss_cons (xs_app (ps_expr (pe_bm PySem.F.plainAttrs_list PySem.F.slot_list_append PySem.F.type_list_append mt_append (pv 11) (pa_cons (xe_lst (xa_cons (xe_w (pv 2)) (xa_cons (xe_v (pv 6)) (xa_cons (xe_c pe_str (fun _ _ => .str _ (by decide))) (xa_cons (x_bi (pe_callTy call_str_int (by rfl) T.str_ (by decide +kernel) (xa_cons (xe_v (pv 7)) xa_nil)) bl_strI) xa_nil))))) pa_nil))))
      (xss_cons (xs_asg (w := true) (ps_set (i := 11) nd rfl (.inl rfl) (x_op (pe_op opAddD (xe_b (pv 11)) (xe_lst (xa_cons (xe_lst (xa_cons (xe_v (pv 8)) (xa_cons (xe_v (pv 6)) (xa_cons (xe_c pe_str (fun _ _ => .str _ (by decide))) (xa_cons (xe_c pe_str (fun _ _ => .str _ (by decide))) xa_nil))))) (xa_cons (xe_lst (xa_cons (xe_w (pv 2)) (xa_cons (xe_v (pv 9)) (xa_cons (xe_c pe_str (fun _ _ => .str _ (by decide))) (xa_cons (xe_c pe_str (fun _ _ => .str _ (by decide))) xa_nil))))) (xa_cons (xe_lst (xa_cons (xe_tup xa_nil) (xa_cons (xe_v (pv 3)) (xa_cons (xe_c pe_str (fun _ _ => .str _ (by decide))) (xa_cons (xe_c pe_str (fun _ _ => .str _ (by decide))) xa_nil))))) xa_nil))))) ol_add)))
      (xss_cons (xs_asg (w := true) (ps_set (i := 11) nd rfl (.inl rfl) (x_op (pe_op opAddD (xe_b (pv 11)) (xe_lst (xa_cons (xe_lst (xa_cons (xe_w (pv 2)) (xa_cons (xe_tup xa_nil) (xa_cons (xe_c pe_str (fun _ _ => .str _ (by decide))) (xa_cons (xe_c pe_str (fun _ _ => .str _ (by decide))) xa_nil))))) (xa_cons (xe_lst (xa_cons (x_bi (pe_callTy call_list_of (by rfl) T.list_ (by decide +kernel) (xa_cons (xe_w (pv 2)) xa_nil)) bl_list) (xa_cons (xe_v (pv 3)) (xa_cons (xe_c pe_str (fun _ _ => .str _ (by decide))) (xa_cons (xe_c pe_str (fun _ _ => .str _ (by decide))) xa_nil))))) xa_nil)))) ol_add)))
      (xss_cons (xs_asg (w := true) (ps_set (i := 11) nd rfl (.inl rfl) (x_op (pe_op opAddD (xe_b (pv 11)) (xe_lst (xa_cons (xe_lst (xa_cons (xe_w (pv 2)) (xa_cons (x_bi (pe_callTy call_list_of (by rfl) T.list_ (by decide +kernel) (xa_cons (xe_v (pv 3)) xa_nil)) bl_list) (xa_cons (xe_c pe_str (fun _ _ => .str _ (by decide))) (xa_cons (xe_c pe_str (fun _ _ => .str _ (by decide))) xa_nil))))) xa_nil))) ol_add)))
      (xss_cons (xs_app (ps_expr (pe_bm PySem.F.plainAttrs_list PySem.F.slot_list_append PySem.F.type_list_append mt_append (pv 11) (pa_cons (xe_lst (xa_cons (x_call (C8.pe_c c_law_any hr (by decide) rfl (xa_cons (xe_v (pv 0)) (xa_cons (xe_lst (xa_cons (xe_c pe_non (fun _ _ => .non)) (xa_cons (xe_c pe_str (fun _ _ => .str _ (by decide))) (xa_cons (xe_c pe_int (fun _ _ => .int _)) (xa_cons xe_dct xa_nil))))) xa_nil))) (fun _ _ _ => id)) (xa_cons (xe_tup xa_nil) (xa_cons (xe_c pe_str (fun _ _ => .str _ (by decide))) (xa_cons (xe_c pe_str (fun _ _ => .str _ (by decide))) xa_nil))))) pa_nil))))
      (xss_cons (xs_asg (w := true) (ps_set (i := 11) nd rfl (.inl rfl) (x_op (pe_op opAddD (xe_b (pv 11)) (xe_lst (xa_cons (xe_lst (xa_cons (xe_w (pv 2)) (xa_cons (x_call (C8.pe_c c_law_any hr (by decide) rfl (xa_cons (xe_v (pv 0)) (xa_cons (xe_lst (xa_cons (xe_c pe_non (fun _ _ => .non)) (xa_cons (xe_c pe_str (fun _ _ => .str _ (by decide))) (xa_cons (xe_c pe_int (fun _ _ => .int _)) (xa_cons xe_dct xa_nil))))) xa_nil))) (fun _ _ _ => id)) (xa_cons (xe_c pe_str (fun _ _ => .str _ (by decide))) (xa_cons (xe_c pe_str (fun _ _ => .str _ (by decide))) xa_nil))))) xa_nil))) ol_add)))
      (xss_one (xs_for PassesOwn.never rfl (xi_list (xe_v (pv 11))) (xg_u (pg_unl (by rfl) (xgs_cons (xg_n (pg_name (i := 12) nd rfl (.inr rfl))) (xgs_cons (xg_n (pg_name (i := 13) nd rfl (.inr rfl))) (xgs_cons (xg_n (pg_name (i := 14) nd rfl (.inl rfl))) (xgs_cons (xg_n (pg_name (i := 15) nd rfl (.inl rfl))) xgs_nil)))))) (pss_wp [12, 13, 14, 15] (xss_cons (xs_if (xt_op (pt_cmpR (opNe hu64) (x_hdT hxw lk.at (lam_any (j := 10) lk (hr.mono (by decide)) rfl (LamX.lamS_by (sc := defScope (topS 54)) (by decide +kernel)) rfl (fun _ _ _ _ _ => rfl) (fun A outer s H E f c' hr2 => (pe_make TA.mkT FIe (hr2.mono (by decide)) rfl TA.g TA.b .nil (passes_call (takes_of rfl rfl rfl rfl) (fun _ _ _ _ h => h)) (xa_cons (xe_v (pv 12)) (xa_cons (xe_v (pv 13)) xa_nil)))))) (xe_lst (xa_cons (xe_v (pv 14)) (xa_cons (xe_v (pv 15)) xa_nil))) (nomark _)) ol_ne) (xss_one (xs_ret (xe_c pe_bl (fun _ _ => .bl _)))) xss_nil)
      (xss_one (xs_if (xt_op (pt_cmpR (opNe hu64) (x_hdTK hxw lk.at (lam_any (j := 10) lk (hr.mono (by decide)) rfl (LamX.lamS_by (sc := defScope (topS 54)) (by decide +kernel)) rfl (fun _ _ _ _ _ => rfl) (fun A outer s H E f c' hr2 => (pe_makeK0 TA.mkT FIe (hr2.mono (by decide)) rfl TA.g kb_init (passes_call (takes_of rfl rfl rfl rfl) (fun _ _ _ _ h => h)) (xk_cons (xe_v (pv 13)) (xk_cons (xe_v (pv 12)) xk_nil)))))) (xe_lst (xa_cons (xe_v (pv 14)) (xa_cons (xe_v (pv 15)) xa_nil))) (nomark _)) ol_ne) (xss_one (xs_ret (xe_c pe_bl (fun _ _ => .bl _)))) xss_nil)))))))))))))))))))))
      (xss_one (xs_ret (xe_c pe_bl (fun _ _ => .bl _))))), ?_⟩
  rintro n as K ⟨rfl, hn, k⟩
  walk_at "xs"
  refine ⟨by decide, by decide, rfl, fun i e => ∃ m, m ≤ n + 300 * i ∧ e = [.q m tb, .u, .u, .u, .u, .u, .u, .u, .u, .u, .u, .u, .u, .u, .u, .u], ⟨n, Nat.le_refl _, rfl⟩, ?_, ?_⟩
  · rintro e ⟨m, hm, rfl⟩
    exact ⟨rfl, m, fun _ => rfl, k m hm⟩
  · rintro i d e hd ⟨m, hm, rfl⟩
    have hi : i < 4 := (List.getElem?_eq_some_iff.mp hd).1
    walk_at "xs"
    refine ⟨by omega, fun cs c1 c3 cnd cmn => ?_⟩
    have cnm : ∀ x ∈ cs, isName (.str x) = true := fun x hx => menu_name (cmn x hx)
    have c3 : cs.length ≤ 3 := c3
    walk_at "xs"
    refine ⟨imm_cols, ?_⟩
    walk_at "xs"
    rw [List.length_map]
    refine ⟨by omega, by decide, by decide, by omega, fun rs r1 r4 rnd rmn rin => ?_⟩
    have r4 : rs.length ≤ 4 := r4
    have rnm : ∀ r ∈ rs, isName (.str r.1) = true := fun x hx => menu_name (rmn x hx)
    have g : Good cs rs := ⟨c1, by omega, cnd, cnm, r1, by omega, rnd, rnm, fun r hr => (rin r hr).2.1, fun r hr => (rin r hr).2.2⟩
    have lC : ((List.map PyData.str cs).length) = cs.length := List.length_map _
    have lD : (List.map dRw rs).length = rs.length := List.length_map _
    walk_at "xs"
    refine ⟨imm_cols, ?_⟩
    walk_at "xs"
    refine ⟨c1, c3, cnd, cnm, by omega, fun hb kh eh kh3 lhb => ?_⟩
    walk_at "xs"
    refine ⟨imm_cols, ?_⟩
    walk_at "xs"
    rw [lC]
    have rok : ∀ r ∈ rs, isRow cs.length (dRw r) = true := fun r hr => row_ok (rnm r hr) (g.rl r hr) (g.sp r hr)
    refine ⟨c1, c3, r1, r4, rnd, rnm, rok, by omega, fun wb kw ew kw4 lwb => ?_⟩
    walk_at "xs"
    obtain ⟨r0, hr0⟩ : ∃ r0, rs[0]? = some r0 := ⟨_, List.getElem?_eq_getElem (by omega)⟩
    have y1 : fIx (dRows rs) (.int 0) = some (True, .d (dRw r0)) := fIx_t (atI_nat (j := 0) (by rw [List.getElem?_map, hr0]; rfl))
    have y2 : fIx (dRw r0) (.int 1) = some (True, .d (.tuple (r0.2.map dSp))) := fIx_t (atI_nat (j := 1) rfl)
    refine lc_es (letsN.map fun x => dRw ("n" ++ x, r0.2)) ?_
    walk_at "xs"
    have hAs : ∀ a b : Str, fAdd (.str a) (.str b) = some (a.length + b.length ≤ 1000, .d (.str (a ++ b))) := fun _ _ => rfl
    refine ⟨fun j d x hd hx => ?_, ?_⟩
    · rw [lets_ch] at hd
      obtain ⟨s, hs, rfl⟩ := mapget hd
      obtain ⟨s', hs', rfl⟩ := mapget hx
      rw [hs] at hs'
      cases hs'
      have ls : s.length ≤ 1 := lets_len s (List.mem_of_getElem? hs)
      walk_at "xw"
      walk_at "xs"
      refine ⟨_, _, _, rfl, rfl, hAs _ _, by show 1 + _ ≤ 1000; omega, ?_⟩
      walk_at "xs"
      refine ⟨_, _, _, rfl, rfl, y1, True.intro, ?_⟩
      walk_at "xs"
      first
      | rfl
      | exact ⟨rfl, rfl⟩
    have hS : ∀ i : Int, fStrI [.int i] = some (i.natAbs.log2 < 1920 ∧ (it i).length ≤ 1000, .d (.str (it i))) := fun _ => rfl
    have sz : ∀ {i : Nat}, i ≤ 4 → (((i : Nat) : Int)).natAbs.log2 < 1920 ∧ (it ((i : Nat) : Int)).length ≤ 1000 := fun {i} h => ⟨log_small (by omega) (by omega), Nat.le_trans (it_int (i := ((i : Nat) : Int)) (by omega) (by omega)).2 (by decide)⟩
    have hL : ∀ xs ys : List PyData, fAdd (.list xs) (.list ys) = some (xs.length + ys.length ≤ 1000, .f (xs ++ ys)) := fun _ _ => rfl
    walk_at "xw"
    walk_at "xs"
    refine ⟨_, _, rfl, hS _, sz (by omega), ?_⟩
    walk_at "xs"
    refine ⟨_, _, rfl, hS _, sz (by omega), ?_⟩
    walk_at "xs"
    refine ⟨imm_cols, ?_⟩
    walk_at "xs"
    refine ⟨_, _, rfl, hS _, sz (by omega), ?_⟩
    walk_at "xs"
    have gc : colsErr (.tuple (cs.map PyData.str)) = none := colsErr_ok c3 c1 cnd cnm
    have lC2 : (cs.map PyData.str).length = cs.length := lC
    refine ⟨_, _, rfl, rfl, by exact Nat.le_of_ble_eq_true rfl, ?_⟩
    walk_at "xg"
    have c5 : colsErr (.tuple [.str "a", .str "b", .str "c", .str "d", .str "e"]) = some (some 4) := by decide +kernel
    generalize hF5 : PyData.tuple [.str "a", .str "b", .str "c", .str "d", .str "e"] = F5 at c5
    have r9 : rowsErr cs.length (.tuple (letsN.map fun x => dRw ("n" ++ x, r0.2))) = some (some 8) := nine_bad (g.rl r0 (List.mem_of_getElem? hr0)) (g.sp r0 (List.mem_of_getElem? hr0))
    generalize hN9 : PyData.tuple (letsN.map fun x => dRw ("n" ++ x, r0.2)) = N9 at r9
    have oA1 : ∀ x ∈ [PyData.list [.tuple hb, dRows rs, .str "columns", .str (it ((kh : Nat) : Int))], PyData.list [.tuple hb, .none, .str "columns", .str (it ((kh : Nat) : Int))], PyData.list [.tuple (cs.map PyData.str), .tuple wb, .str "rows", .str (it ((kw : Nat) : Int))]], Itm x := by
      intro x hx
      simp only [List.mem_cons, List.not_mem_nil, or_false] at hx
      rcases hx with rfl | rfl | rfl
      · exact itm_cols eh rfl it_sh (fun i e => by cases e; omega)
      · exact itm_cols eh rfl it_sh (fun i e => by cases e; omega)
      · exact itm_rows gc (by rw [lC]; exact ew) rfl it_sh (fun i e => by cases e; omega)
    have lA1 : ([PyData.list [.tuple hb, dRows rs, .str "columns", .str (it ((kh : Nat) : Int))], PyData.list [.tuple hb, .none, .str "columns", .str (it ((kh : Nat) : Int))], PyData.list [.tuple (cs.map PyData.str), .tuple wb, .str "rows", .str (it ((kw : Nat) : Int))]]).length ≤ 3 := Nat.le_refl 3
    generalize hA1 : [PyData.list [.tuple hb, dRows rs, .str "columns", .str (it ((kh : Nat) : Int))], PyData.list [.tuple hb, .none, .str "columns", .str (it ((kh : Nat) : Int))], PyData.list [.tuple (cs.map PyData.str), .tuple wb, .str "rows", .str (it ((kw : Nat) : Int))]] = A1 at oA1 lA1
    walk_at "xs"
    refine ⟨imm_cols, ?_⟩
    walk_at "xs"
    refine grow_run oA1 lA1 (itms_cons (itm_cols c5 rfl rfl (fun i e => by cases e; decide)) (itms_cons (itm_rows gc (by rw [lC]; exact r9) rfl rfl (fun i e => by cases e; decide)) (itms_cons (itm_cols rfl rfl rfl nofun) itms_nil))) (k := 3) (Nat.le_refl _) (by decide) fun A2 oA2 lA2 => ?_
    walk_at "xs"
    refine ⟨imm_cols, ?_⟩
    walk_at "xs"
    refine ⟨imm_cols, ?_⟩
    walk_at "xs"
    refine grow_run oA2 lA2 (itms_cons (itm_rows gc rfl rfl rfl nofun) (itms_cons (itm_cols rfl rfl rfl nofun) itms_nil)) (k := 2) (Nat.le_refl _) (by decide) fun A3 oA3 lA3 => ?_
    walk_at "xs"
    refine ⟨imm_cols, ?_⟩
    walk_at "xs"
    refine grow_run oA3 lA3 (itms_cons (itm_rows gc rfl rfl rfl nofun) itms_nil) (k := 1) (Nat.le_refl _) (by decide) fun A4 oA4 lA4 => ?_
    walk_at "xs"
    refine ⟨by omega, fun z1 hz1 => ?_⟩
    have cz : ∀ {z : PyData}, z ∈ [PyData.none, .str "a", .int 3, .dict []] → colsErr z = some none := fun {z} h => by
      simp only [List.mem_cons, List.not_mem_nil, or_false] at h
      rcases h with rfl | rfl | rfl | rfl <;> rfl
    have rz : ∀ {z : PyData}, z ∈ [PyData.none, .str "a", .int 3, .dict []] → rowsErr (cs.map PyData.str).length z = some none := fun {z} h => by
      simp only [List.mem_cons, List.not_mem_nil, or_false] at h
      rcases h with rfl | rfl | rfl | rfl <;> rfl
    walk_at "xs"
    refine ⟨_, _, rfl, rfl, by omega, ?_⟩
    have oA5 : ∀ x ∈ A4 ++ [PyData.list [z1, .tuple [], .str "columns", .str "None"]], Itm x := fun x hx => by
      rcases List.mem_append.mp hx with hx | hx
      · exact oA4 x hx
      · exact itms_cons (itm_cols (cz hz1) rfl rfl nofun) itms_nil x hx
    have lA5 : (A4 ++ [PyData.list [z1, .tuple [], .str "columns", .str "None"]]).length ≤ 10 := by
      rw [List.length_append]
      exact Nat.add_le_add lA4 (Nat.le_refl 1)
    generalize A4 ++ [PyData.list [z1, .tuple [], .str "columns", .str "None"]] = A5 at oA5 lA5
    walk_at "xs"
    refine ⟨imm_cols, ?_⟩
    walk_at "xs"
    refine ⟨by omega, fun z2 hz2 => ?_⟩
    walk_at "xs"
    refine grow_run oA5 lA5 (itms_cons (itm_rows gc (rz hz2) rfl rfl nofun) itms_nil) (k := 1) (Nat.le_refl _) (by decide) fun A6 oA6 lA6 => ?_
    walk_at "xs"
    refine ⟨fun _ e => e = [.q (m + 5 + 120 + 2 + 3 * cs.length + 3 + 1 + 1) tb, .d d, .o (WhP (cs.map PyData.str)), .d (dRows rs), .d (.tuple hb), .d (.int ((kh : Nat) : Int)), .d (.tuple wb), .d (.int ((kw : Nat) : Int)), .d F5, .d N9, .u, .d (.list A6), .u, .u, .u, .u], rfl, ?_, ?_⟩
    · rintro e rfl
      exact ⟨_, by omega, rfl⟩
    · rintro j dd e hdd rfl
      obtain ⟨d1, d2, nn, ee, rfl, hn2, he2, hb2⟩ := oA6 dd (List.mem_of_getElem? hdd)
      obtain ⟨PN, hN, pN⟩ := fNe_same (d := .list [.str (wordOf nn), .str (idxD ee).shown]) (b := 1) (ShD.list (b := 0) fun d hd => by
        rcases List.mem_cons.mp hd with rfl | hd
        · exact wrd_sh hn2
        · rw [List.mem_singleton.mp hd]
          exact idx_sh hb2) (by omega) ⟨_, .inl rfl⟩
      walk_at "xs"
      have nsx : NSx nn := by unfold NSx; omega
      refine ⟨d1, d2, nn, ee, rfl, he2, nsx, idx_tl hb2, ?_⟩
      walk_at "xs"
      refine ⟨_, _, _, rfl, rfl, hN, pN, _, rfl, L2.iteF ?_⟩
      walk_at "xs"
      refine ⟨d1, d2, nn, ee, rfl, he2, nsx, idx_tl hb2, ?_⟩
      walk_at "xs"
      refine ⟨_, _, _, rfl, rfl, hN, pN, _, rfl, L2.iteF ?_⟩
      walk_at "xs"
      first
      | rfl
      | (dsimp only [wipeA, List.set_cons_succ, List.set_cons_zero]; done)
end
end Cs
set_option maxHeartbeats 4000000
/-! k04: the law -/
namespace Cs
open PySem PySem.Spec L2 L2H PyProof.Rows LamX
def SpLaw4 (K : PySem.W.Frag) (tb : List (Addr × Str)) : Sp := fun vs H Q _ => ∃ (a : Addr) (ns : List Int), vs = [.ref a] ∧ SqL K H a (ns.map V.int) ∧ ns.length ≤ 1000 ∧ Tabs tb H ∧ ∀ H', Q (.bl true) H'
theorem sqN {K : PySem.W.Frag} {a : Addr} {H H' : Hp} {xs : List V} (h : SqL K H a xs) (e : ExtN H H') : SqL K H' a xs := by
  rcases h with (h | ⟨o, h⟩) | h
  · exact .inl (.inl (e _ _ h nofun))
  · exact .inl (.inr ⟨o, e _ _ h nofun⟩)
  · exact .inr h
theorem dl_callL {tb : List (Addr × Str)} {p : Addr} {H : Hp} {Q : VK} {E : XK} (hp : PailAt H p 0) (tz : Tabs tb H) (k : ∀ H', (∀ b o, b ≠ p → (¬ ∃ q ∈ tb, q.1 = b) → H b = some o → H' b = some o) → Tabs tb H' → Q (.bl true) H') : SpL tb RRi [.ref p] H Q E :=
  ⟨p, fun a => a = p ∨ ∃ q ∈ tb, q.1 = a, 0, [.p], .inl rfl, hp.lst, fun a e => e.imp id fun ⟨q, hq, eq⟩ => by
    obtain ⟨ps, h, _⟩ := tz q hq
    exact .inr ⟨ps, eq ▸ h⟩, hp, tz, fun q hq => .inr ⟨q, hq, rfl⟩, .cons rfl .nil, rfl, by decide, fun m _ v H' af d => by
    cases d
    exact k H' af.1 af.2.2⟩
section
variable {P : Program} {w : World} {K : PySem.W.Frag} {mg : Str → Option Value} {base : Heap}
theorem sc_law : FnScope ["_law_script", "_law_at"] ["_law_script"] (defScope (topS 55)) := ⟨rfl, rfl, rfl, by decide +kernel, rfl, by decide +kernel, by decide +kernel⟩
theorem ok_law {tb : List (Addr × Str)} {f : Addr} {fd : FuncData} (F : FunD K "law" "law" (defArgs (topS 55)) (defBody (topS 55)) (defScope (topS 55)) [] [] f fd) (T : Txt mg)
    (c_law_right : CalG P w K mg base 14 "_law_right" (SpL tb RRi)) (c_law_pail : C8.Cal P w K mg base 1 "_law_pail" (SpPail K) []) : FnG P w K mg base 15 f fd ["_law_script"] (SpLaw4 K tb) := by
  obtain ⟨oc, od, dV, kV, doc, pm, an, cdv, ct, osl, rfl, lk, hcd, _, _⟩ := F.ex
  refine fn_ofG lk hcd sc_law (fun vs H Q E h => by obtain ⟨a, ns, rfl, _⟩ := h; rfl) fun A outer s H vs Q E hg hr h => ?_
  obtain ⟨a, ns, rfl, hq, hl, tz, k⟩ := h
  have nd := sc_law.nd
  have hG : (A.deeper (envOfC "law" (defScope (topS 55)) s.heap.objs.size f cdv)).guards = some [] := hg
  refine ⟨_, PSs.nox (pss_one (ps_ret (pe_callB (cr_all rfl) (by rfl) T.all_ (by decide +kernel) (pa_cons (pe_lc (own := [("_law_at", 1)]) rfl nd (pi_range1 rfl T.range_ (pa_cons pe_int pa_nil)) (blkOk_by (N := ["_law_script", "_law_at"]) (sc := defScope (topS 55)) (by decide +kernel)) (fun _ _ _ _ _ => (pg_name (i := 1) nd rfl (.inl rfl))) (fun _ _ _ _ _ => pts_nil) (fun _ _ _ _ _ => (pe_cG2 c_law_right hG hr (by decide) rfl (pa_cons (C8.pe_c c_law_pail hr (by decide) rfl (pa_cons (pv 0) (pa_cons (pv 1) pa_nil))) pa_nil)))) pa_nil)))), ?_⟩
  dsimp only [tRet, tCB, tCons]
  refine ⟨_, rfl, by decide, by decide, fun D hD => ?_⟩
  refine lc_range (fun i H' => H' D = some (.lst (List.replicate i (V.bl true))) ∧ ExtN H H' ∧ Tabs tb H') ⟨upd_same, ExtN.of (same_new hD), tz.ext (same_new hD)⟩ (fun i H' hi ⟨h1, h2, h3⟩ => ?_) (fun H' ⟨h1, h2, h3⟩ => ?_)
  · refine ⟨rfl, ?_⟩
    have hi2 : i < 2 := hi
    refine ⟨_, rfl, _, rfl, a, ns, i, by rw [Int.zero_add]; rfl, sqN hq h2, hl, by omega, fun p H2 hp s2 hP => ?_⟩
    have nD : D ≠ p := ne_of_none h1 hp
    have t2 := h3.ext s2
    refine dl_callL (E := fun _ _ _ => False) hP t2 fun H3 e3 t3 => ?_
    have no : ∀ {b : Addr} {o : HO}, H2 b = some o → (∀ ps, o ≠ .tbl ps) → ¬ ∃ q ∈ tb, q.1 = b := fun {b o} h n => by
      rintro ⟨q, hq, rfl⟩
      obtain ⟨ps, e, _⟩ := t2 q hq
      rw [h] at e
      exact n ps (Option.some.inj e)
    have hD2 := s2 _ _ h1
    have hD3 : H3 D = some (.lst (List.replicate i (V.bl true))) := e3 _ _ nD (no hD2 nofun) hD2
    refine ⟨_, hD3, ?_, ?_, fun b o hb nb => ?_, tabs_exb t3 hD3 fun b o nb h => by rw [upd_ne nb]; exact h⟩
    · rw [List.length_replicate]
      exact Nat.lt_of_lt_of_le (by omega : i < 1000) (by decide)
    · rw [upd_same, List.replicate_succ']
    · have hb' := h2 b o hb nb
      rw [upd_ne (ne_of_none hb hD)]
      have hb2 := s2 _ _ hb'
      exact e3 _ _ (ne_of_none hb' hp) (no hb2 nb) hb2
  · exact ⟨D, [true, true], rfl, SqL.of h1, k _⟩
end
end Cs
set_option maxHeartbeats 0
namespace Cs
open PySem PySem.Spec PyProof.Rows L2 LamX
def excCB (K : PySem.W.Frag) (D : Addr) : Bool := He.eqO (PySem.W.findIn K (.ref D) "__getattribute__") (some (some (.builtin "BaseException.__getattribute__"))) && (He.eqO (PySem.W.findIn K (.ref D) "__getattr__") (some none) &&
  (decide (PySem.W.subIn K (.ref D) (.type "BaseException") = some true) && (PySem.W.hasDictIn K D && (He.eqO (PySem.W.findIn K (.ref D) "__class__") (some (some (.builtin "object.__class__"))) &&
  (He.eqO (PySem.W.specialIn K (.builtin "object.__class__") "__get__") (some (some (.builtin "getset_descriptor.__get__"))) && (decide (PySem.W.takesIn K (.builtin "object.__class__") = some true) && decide (PySem.W.mroIn K D (.type "object") = some true)))))))
theorem excCB_ok {K : PySem.W.Frag} {D : Addr} (h : excCB K D = true) : ExcC K D := by
  obtain ⟨h1, h⟩ := Bool.and_eq_true_iff.mp h
  obtain ⟨h2, h⟩ := Bool.and_eq_true_iff.mp h
  obtain ⟨h3, h⟩ := Bool.and_eq_true_iff.mp h
  obtain ⟨h4, h⟩ := Bool.and_eq_true_iff.mp h
  obtain ⟨h5, h⟩ := Bool.and_eq_true_iff.mp h
  obtain ⟨h6, h⟩ := Bool.and_eq_true_iff.mp h
  obtain ⟨h7, h8⟩ := Bool.and_eq_true_iff.mp h
  exact ⟨He.eqO_ok h1, He.eqO_ok h2, of_decide_eq_true h3, h4, He.eqO_ok h5, He.eqO_ok h6, of_decide_eq_true h7, of_decide_eq_true h8⟩
def oexB1 (C : Addr) : Option Obj → Bool
  | some ⟨.type t, _, .cls cd, sl⟩ => decide (t = "type") && (match cd.mro, sl.toList with
    | .ref c :: bm, [_, _, _, _, some (.builtin n), _] => decide (c = C) && (PySem.HandSPX.refsVE bm && (decide (n = "ValueError.__new__") && (cd.hasDict && !cd.hasDel)))
    | _, _ => false)
  | _ => false
theorem oexB1_ok {C : Addr} {o : Option Obj} (h : oexB1 C o = true) : ∃ nm q N bs bm sn sub ab col dd k0 k1 k2 k3 k5, o = some (excClassObj nm q C N bs bm true sn sub ab col dd k0 k1 k2 k3 k5 "ValueError.__new__") ∧ PySem.HandSPX.refsVE bm = true := by
  unfold oexB1 at h
  split at h
  · rename_i t dd cd sl
    obtain ⟨ht, h⟩ := Bool.and_eq_true_iff.mp h
    split at h
    · rename_i c bm k0 k1 k2 k3 n k5 hm hs
      obtain ⟨hc, h⟩ := Bool.and_eq_true_iff.mp h
      obtain ⟨hr, h⟩ := Bool.and_eq_true_iff.mp h
      obtain ⟨hn, h⟩ := Bool.and_eq_true_iff.mp h
      obtain ⟨hd, hl⟩ := Bool.and_eq_true_iff.mp h
      obtain ⟨nm, bs, mro, N, q, hdct, sn, sub, ab, col, hdel⟩ := cd
      have gt := of_decide_eq_true ht
      have gc := of_decide_eq_true hc
      have gn := of_decide_eq_true hn
      have gm : mro = .ref c :: bm := hm
      have gd : hdct = true := hd
      have gl : hdel = false := by
        have z : (!hdel) = true := hl
        cases hdel with
        | false => rfl
        | true => cases z
      have hs2 : sl = #[k0, k1, k2, k3, some (.builtin n), k5] := by
        obtain ⟨l⟩ := sl
        have : l = _ := hs
        rw [this]
      clear hl hd hm ht hc hn hs
      subst gt gc gn gm gd gl hs2
      exact ⟨nm, q, N, bs, bm, sn, sub, ab, col, dd, k0, k1, k2, k3, k5, rfl, hr⟩
    · cases h
  · cases h
def oexB (K : PySem.W.Frag) (C : Addr) : Bool := oexB1 C (K.lookup C) && (He.eqO (PySem.W.findIn K (.ref C) "__setattr__") (some (some (.builtin "object.__setattr__"))) && (decide (PySem.W.subIn K (.ref C) (.type "BaseException") = some true) &&
  (decide (PySem.W.typeIn K (.ref C) = some (.type "type")) && PySem.W.keepIn K (.ref C))))
theorem oexB_ok {K : PySem.W.Frag} {C : Addr} (h : oexB K C = true) : OexC K C := by
  obtain ⟨h1, h⟩ := Bool.and_eq_true_iff.mp h
  obtain ⟨h2, h⟩ := Bool.and_eq_true_iff.mp h
  obtain ⟨h3, h⟩ := Bool.and_eq_true_iff.mp h
  obtain ⟨h4, h5⟩ := Bool.and_eq_true_iff.mp h
  exact ⟨oexB1_ok h1, He.eqO_ok h2, of_decide_eq_true h3, of_decide_eq_true h4, h5⟩
def oexGB (K : PySem.W.Frag) (C : Addr) (bmB : List Value) (newId : String) (f : Str) : Bool := PySem.W.excInitIn K C bmB newId && (PySem.W.excOver K C bmB && (He.eqO (PySem.W.findIn K (.ref C) "__setattr__") (some (some (.builtin "object.__setattr__"))) && (PySem.W.keepIn K (.ref C) &&
  (He.eqO (PySem.W.takerIn K C f) (some none) && (He.eqO (PySem.W.findIn K (.ref C) "__init__") (some (some (.ref (He.ma K C "__init__")))) && decide (PySem.W.typeIn K (.ref (He.ma K C "__init__")) = some (.type "function")))))))
def inB (K : PySem.W.Frag) (C : Addr) : Bool := He.eqO (PySem.W.findIn K (.ref C) "index") (some none) && (He.eqO (PySem.W.findIn K (.ref C) "__init__") (some (some (.ref (He.ma K C "__init__")))) && decide (PySem.W.typeIn K (.ref (He.ma K C "__init__")) = some (.type "function")))
def bmF (b : String) : List Value := [.type b, .type "Exception", .type "BaseException", .type "object"]
def rsB (K : PySem.W.Frag) (x : Str) (b nw : String) : Bool := oexGB K (He.ga K x) (bmF b) nw "given" && (PySem.W.hasDictIn K (He.ga K x) && (decide (PySem.W.subIn K (.ref (He.ga K x)) (.type "BaseException") = some true) && decide (PySem.W.typeIn K (.ref (He.ga K x)) = some (.type "type"))))
def tcB (K : PySem.W.Frag) (C : Addr) : Bool := He.eqO (PySem.W.findIn K (.ref C) "__class__") (some (some (.builtin "object.__class__"))) && (He.eqO (PySem.W.specialIn K (.builtin "object.__class__") "__get__") (some (some (.builtin "getset_descriptor.__get__"))) &&
  (decide (PySem.W.takesIn K (.builtin "object.__class__") = some true) && (decide (PySem.W.mroIn K C (.type "object") = some true) && decide (PySem.W.kitOne K (.ref C) (.ref C) = some true))))
/-- a property's getter -/
def pg (K : PySem.W.Frag) (C : Addr) (f : Str) : Addr := match PySem.W.recIn K (He.ma K C f) "property" with
  | some (.ref g :: _) => g
  | _ => 0
def prB (K : PySem.W.Frag) (C : Addr) (f : Str) : Bool := He.eqO (PySem.W.findIn K (.ref C) f) (some (some (.ref (He.ma K C f)))) && (He.eqO (PySem.W.specialIn K (.ref (He.ma K C f)) "__get__") (some (some (.builtin "property.__get__"))) &&
  (decide (PySem.W.takesIn K (.ref (He.ma K C f)) = some true) && (match PySem.W.recIn K (He.ma K C f) "property" with
  | some (.ref _ :: _) => true
  | _ => false)))
theorem prB_ok {K : PySem.W.Frag} {C : Addr} {f : Str} (h : prB K C f = true) : PropOf K C f (He.ma K C f) (pg K C f) := by
  obtain ⟨h1, h⟩ := Bool.and_eq_true_iff.mp h
  obtain ⟨h2, h⟩ := Bool.and_eq_true_iff.mp h
  obtain ⟨h3, h⟩ := Bool.and_eq_true_iff.mp h
  refine ⟨He.eqO_ok h1, He.eqO_ok h2, of_decide_eq_true h3, ?_⟩
  unfold pg
  split at h
  · rename_i g rest e
    rw [e]
    exact ⟨rest, rfl⟩
  · cases h
/-- what is read off a def at an address -/
def fnA (K : PySem.W.Frag) (a : Addr) : He.FnW := match K.lookup a with
  | some ⟨_, _, .func fd, _⟩ => some (fd.name, fd.qualname, fd.params, fd.body, fd.scope, fd.globals, fd.closure, fd.builtins)
  | _ => none
def okA (K : PySem.W.Frag) (a : Addr) (q : Str) : Bool := PySem.W.keepIn K (.ref a) && (match K.lookup a with
  | some ⟨_, _, .func fd, _⟩ => PySem.W.codeIn K fd.code q && (He.dflB K fd.defaults [] && He.kwdB K fd.kwdefaults [])
  | _ => false)
theorem funA {K : PySem.W.Frag} {a : Addr} {x q : Str} {st : Stmt} (e : fnA K a = some (x, q, defArgs st, .stmts (defBody st), defScope st, mainGlobals, [], builtinsNs)) (c : okA K a q = true) : ∃ fd, FunD K x q (defArgs st) (defBody st) (defScope st) [] [] a fd := by
  obtain ⟨kp, c2⟩ := Bool.and_eq_true_iff.mp c
  unfold fnA at e
  split at e
  · rename_i oc od fd osl lk
    rw [lk] at c2
    obtain ⟨n1, n2, n3, n4, n5, n6, n7, n8, n9, n10, n11, n12, n13, n14, n15⟩ := fd
    simp only [Option.some.injEq, Prod.mk.injEq] at e
    obtain ⟨rfl, rfl, rfl, rfl, rfl, rfl, rfl, rfl⟩ := e
    obtain ⟨k1, k2⟩ := Bool.and_eq_true_iff.mp c2
    obtain ⟨k3, k4⟩ := Bool.and_eq_true_iff.mp k2
    exact ⟨_, ⟨oc, od, n8, n9, n10, n11, n12, n13, n14, osl, rfl, lk, k1, He.dflB_ok k3, He.kwdB_ok k4⟩, kp⟩
  · cases e
def exwB (K : PySem.W.Frag) (cl : Str → Addr) (C : Addr) (n : Nat) : Bool := excCB K C && (xfB K C && (decide (PySem.W.exmAny K (.ref C) [.ref (cl "WrongValue"), .ref (cl "WrongName"), .ref (cl "NotPossible")] = some true) && (He.eqO (PySem.W.findIn K (.ref C) "index") (some none) && (He.eqO (PySem.W.findIn K (.ref C) "given") (some none) && (decide (PySem.W.kitOne K (.ref C) (.ref (cl "InvalidColumns")) = some (n == 0)) && (decide (PySem.W.kitOne K (.ref C) (.ref (cl "InvalidRows")) = some (n == 1)) && (decide (PySem.W.kitOne K (.ref C) (.ref (cl "InvalidText")) = some (n == 2)) && (decide (PySem.W.kitOne K (.ref C) (.ref (cl "InvalidColumn")) = some (n == 3)) && (decide (PySem.W.kitOne K (.ref C) (.ref (cl "InvalidStretch")) = some (n == 4)) && (decide (PySem.W.kitOne K (.ref C) (.ref (cl "InvalidSigns")) = some (n == 5)) && (decide (PySem.W.kitOne K (.ref C) (.ref (cl "InvalidMember")) = some (n == 6)) && (decide (PySem.W.kitOne K (.ref C) (.ref (cl "InvalidWeights")) = some (n == 7)) && (decide (PySem.W.kitOne K (.ref C) (.ref (cl "NotATable")) = some (n == 8)) && (decide (PySem.W.kitOne K (.ref C) (.ref (cl "InvalidCommand")) = some (n == 9)) && (decide (PySem.W.kitOne K (.ref C) (.ref (cl "UnknownName")) = some (n == 10)) && (decide (PySem.W.kitOne K (.ref C) (.ref (cl "TooFew")) = some (n == 11)) && (decide (PySem.W.kitOne K (.ref C) (.ref (cl "TooMany")) = some (n == 12)) && (decide (PySem.W.kitOne K (.ref C) (.ref (cl "NotWhole")) = some (n == 13)) && (decide (PySem.W.kitOne K (.ref C) (.ref (cl "NothingToUndo")) = some (n == 14)) && (decide (PySem.W.kitOne K (.ref C) (.ref (cl "WrongValue")) = some (decide (n < 10))) && (decide (PySem.W.kitOne K (.ref C) (.ref (cl "WrongName")) = some (decide (n = 10))) && (decide (PySem.W.kitOne K (.ref C) (.ref (cl "NotPossible")) = some (decide (10 < n))) && (decide (PySem.W.kitOne K (.ref C) (.type "ValueError") = some (decide (n < 10))) && (decide (PySem.W.kitOne K (.ref C) (.type "LookupError") = some (decide (n = 10))) && (decide (PySem.W.kitOne K (.ref C) (.type "ArithmeticError") = some (decide (10 < n))))))))))))))))))))))))))))
theorem exwB_ok {K : PySem.W.Frag} {cl : Str → Addr} {C : Addr} {n : Nat} (h : exwB K cl C n = true) : ExW K cl C n := by
  obtain ⟨h1, h⟩ := Bool.and_eq_true_iff.mp h
  obtain ⟨h2, h⟩ := Bool.and_eq_true_iff.mp h
  obtain ⟨k0, h⟩ := Bool.and_eq_true_iff.mp h
  obtain ⟨k1, h⟩ := Bool.and_eq_true_iff.mp h
  obtain ⟨k2, h⟩ := Bool.and_eq_true_iff.mp h
  obtain ⟨k3, h⟩ := Bool.and_eq_true_iff.mp h
  obtain ⟨k4, h⟩ := Bool.and_eq_true_iff.mp h
  obtain ⟨k5, h⟩ := Bool.and_eq_true_iff.mp h
  obtain ⟨k6, h⟩ := Bool.and_eq_true_iff.mp h
  obtain ⟨k7, h⟩ := Bool.and_eq_true_iff.mp h
  obtain ⟨k8, h⟩ := Bool.and_eq_true_iff.mp h
  obtain ⟨k9, h⟩ := Bool.and_eq_true_iff.mp h
  obtain ⟨k10, h⟩ := Bool.and_eq_true_iff.mp h
  obtain ⟨k11, h⟩ := Bool.and_eq_true_iff.mp h
  obtain ⟨k12, h⟩ := Bool.and_eq_true_iff.mp h
  obtain ⟨k13, h⟩ := Bool.and_eq_true_iff.mp h
  obtain ⟨k14, h⟩ := Bool.and_eq_true_iff.mp h
  obtain ⟨k15, h⟩ := Bool.and_eq_true_iff.mp h
  obtain ⟨k16, h⟩ := Bool.and_eq_true_iff.mp h
  obtain ⟨k17, h⟩ := Bool.and_eq_true_iff.mp h
  obtain ⟨k18, h⟩ := Bool.and_eq_true_iff.mp h
  obtain ⟨k19, h⟩ := Bool.and_eq_true_iff.mp h
  obtain ⟨k20, h⟩ := Bool.and_eq_true_iff.mp h
  obtain ⟨k21, h⟩ := Bool.and_eq_true_iff.mp h
  obtain ⟨k22, k23⟩ := Bool.and_eq_true_iff.mp h
  exact ⟨excCB_ok h1, xfB_ok h2, of_decide_eq_true k0, He.eqO_ok k1, He.eqO_ok k2, of_decide_eq_true k3, of_decide_eq_true k4, of_decide_eq_true k5, of_decide_eq_true k6, of_decide_eq_true k7, of_decide_eq_true k8, of_decide_eq_true k9, of_decide_eq_true k10, of_decide_eq_true k11, of_decide_eq_true k12, of_decide_eq_true k13, of_decide_eq_true k14, of_decide_eq_true k15, of_decide_eq_true k16, of_decide_eq_true k17, of_decide_eq_true k18, of_decide_eq_true k19, of_decide_eq_true k20, of_decide_eq_true k21, of_decide_eq_true k22, of_decide_eq_true k23⟩
def ex (K : PySem.W.Frag) : Bool := oexB K (He.ga K "InvalidColumns") && (oexB K (He.ga K "InvalidRows") && (inB K (He.ga K "InvalidColumns") && (inB K (He.ga K "InvalidRows") && (tcB K (He.ga K "Table") && (exwB K (He.ga K) (He.ga K "InvalidColumns") 0 && (exwB K (He.ga K) (He.ga K "InvalidRows") 1))))))
theorem ex_0 {K : PySem.W.Frag} (c : ex K = true) : (oexB K (He.ga K "InvalidColumns")) = true := (Bool.and_eq_true_iff.mp c).1
theorem ex_1 {K : PySem.W.Frag} (c : ex K = true) : (oexB K (He.ga K "InvalidRows")) = true := (Bool.and_eq_true_iff.mp (Bool.and_eq_true_iff.mp c).2).1
theorem ex_2 {K : PySem.W.Frag} (c : ex K = true) : (inB K (He.ga K "InvalidColumns")) = true := (Bool.and_eq_true_iff.mp (Bool.and_eq_true_iff.mp (Bool.and_eq_true_iff.mp c).2).2).1
theorem ex_3 {K : PySem.W.Frag} (c : ex K = true) : (inB K (He.ga K "InvalidRows")) = true := (Bool.and_eq_true_iff.mp (Bool.and_eq_true_iff.mp (Bool.and_eq_true_iff.mp (Bool.and_eq_true_iff.mp c).2).2).2).1
theorem ex_4 {K : PySem.W.Frag} (c : ex K = true) : (tcB K (He.ga K "Table")) = true := (Bool.and_eq_true_iff.mp (Bool.and_eq_true_iff.mp (Bool.and_eq_true_iff.mp (Bool.and_eq_true_iff.mp (Bool.and_eq_true_iff.mp c).2).2).2).2).1
theorem ex_5 {K : PySem.W.Frag} (c : ex K = true) : (exwB K (He.ga K) (He.ga K "InvalidColumns") 0) = true := (Bool.and_eq_true_iff.mp (Bool.and_eq_true_iff.mp (Bool.and_eq_true_iff.mp (Bool.and_eq_true_iff.mp (Bool.and_eq_true_iff.mp (Bool.and_eq_true_iff.mp c).2).2).2).2).2).1
theorem ex_6 {K : PySem.W.Frag} (c : ex K = true) : (exwB K (He.ga K) (He.ga K "InvalidRows") 1) = true := (Bool.and_eq_true_iff.mp (Bool.and_eq_true_iff.mp (Bool.and_eq_true_iff.mp (Bool.and_eq_true_iff.mp (Bool.and_eq_true_iff.mp (Bool.and_eq_true_iff.mp c).2).2).2).2).2).2
def dd (x : Str) (i : Nat) : He.DefD := ⟨(x, none), x, x, defArgs (topS i), defBody (topS i), defScope (topS i), [], []⟩
def dm (C m q : Str) (st : Stmt) : He.DefD := ⟨(C, some m), m, q, defArgs st, defBody st, defScope st, [], []⟩
def fn0 : List He.DefD := [dd "is_integer" 22, dd "is_tuple_of" 23, dd "is_pair_of_integers" 24, dd "is_name" 25, dd "is_stretch" 27, dd "check_columns" 34, dd "check_rows" 35, dd "are_end_pairs" 39, dd "_is_end_pair" 40, dd "_is_row" 41, dd "_law_pail" 44, dd "_law_scoop" 45, dd "_law_any" 46, dd "_law_stretch" 47, dd "_law_heads" 48, dd "_law_lines" 49, dd "_law_word" 50, dd "_law_heard" 51, dd "_law_bad_heads" 52, dd "_law_bad_lines" 53]
def fn1 : List He.DefD := [dd "_law_right" 54, dd "law" 55, dm "Table" "__init__" "Table.__init__" sTI, dm "InvalidColumns" "__init__" "InvalidColumns.__init__" (inClass (topS 11) 0), dm "InvalidRows" "__init__" "InvalidRows.__init__" (inClass (topS 12) 0)]
def fn : List He.DefD := fn0 ++ fn1
def fa0 : List He.Fa := [.glo "is_integer", .glo "is_tuple_of", .glo "is_pair_of_integers", .glo "is_name", .glo "is_stretch", .glo "check_columns", .glo "check_rows", .glo "are_end_pairs", .glo "_is_end_pair", .glo "_is_row", .glo "_law_pail", .glo "_law_scoop", .glo "_law_any", .glo "_law_stretch", .glo "_law_heads", .glo "_law_lines", .glo "_law_word", .glo "_law_heard", .glo "_law_bad_heads", .glo "_law_bad_lines"]
def fa1 : List He.Fa := [.glo "_law_right", .glo "law", .glo "InvalidColumns", .glo "InvalidRows", .glo "Table", .glo "InvalidText", .glo "InvalidColumn", .glo "InvalidStretch", .glo "InvalidSigns", .glo "InvalidMember", .glo "InvalidWeights", .glo "NotATable", .glo "InvalidCommand", .glo "UnknownName", .glo "TooFew", .glo "TooMany", .glo "NotWhole", .glo "NothingToUndo", .glo "WrongValue", .glo "WrongName"]
def fa2 : List He.Fa := [.glo "NotPossible", .free "len", .free "isinstance", .free "int", .free "str", .free "bool", .free "tuple", .free "list", .free "all", .free "abs", .free "divmod", .free "range", .free "enumerate", .free "repr", .free "ValueError", .free "LookupError", .free "ArithmeticError", .int "_MOST_LETTERS" 8, .int "MOST_END" 10000, .int "MOST_COLUMNS" 4]
def fa3 : List He.Fa := [.int "MOST_ROWS" 8, .mkr "Table", .cls "Table", .noat "Table" "_columns", .noat "Table" "_rows"]
def fa : List He.Fa := fa0 ++ fa1 ++ fa2 ++ fa3
def loose0 : List Str := ["_wall", "WrongValue", "InvalidText", "InvalidColumn", "InvalidStretch", "InvalidMember", "InvalidWeights", "InvalidSigns", "InvalidCommand", "NotATable", "InvalidColumns", "InvalidRows", "WrongName", "UnknownName", "NotPossible", "TooFew", "TooMany", "NotWhole", "NothingToUndo", "_MOST_LETTERS"]
def loose1 : List Str := ["is_integer", "is_tuple_of", "is_pair_of_integers", "is_name", "is_one_of", "is_stretch", "stretches_text", "MOST_END", "MOST_COLUMNS", "MOST_ROWS", "Table", "check_columns", "check_rows", "row_index", "row_stretches", "column_index", "are_end_pairs", "_is_end_pair", "_is_row", "_row_text"]
def loose2 : List Str := ["_law_pail", "_law_scoop", "_law_any", "_law_stretch", "_law_heads", "_law_lines", "_law_word", "_law_heard", "_law_bad_heads", "_law_bad_lines", "_law_right"]
def loose : List Str := loose0 ++ loose1 ++ loose2
def gv (x q : Str) (st : Stmt) : He.FnW := some (x, q, defArgs st, .stmts (defBody st), defScope st, mainGlobals, [], builtinsNs)
def gl : List He.FnW := []
def glK (K : PySem.W.Frag) : List He.FnW := []
def tf : List He.Defn := [("_law_right", none)]
abbrev R : PySem.W.OpenRow := PySem.W.OpenLaw.row PySem.Challenge.rw_cornersure_k04_tables_refused
abbrev AlG : Type := He.AlX × List He.FnW
def obG (g : Addr → Option Obj) : AlG := (He.obsX 5 fa fn [] tf ex g, glK (He.frT g (He.asD g 5)))
abbrev hk : PySem.W.Hook where
  α := AlG
  obs := fun s => obG s.heap.get?
  val := fun w => (He.valX fn [] w, gl)
  says := fun w h => ∃ K : PySem.W.Frag, K.In h ∧ He.SaysX fa fn [] tf ex w h K ∧ glK K = gl
  of := fun w s e => ⟨_, He.frT_in, He.saysX_of (congrArg (fun z : AlG => z.1) e), congrArg (fun z : AlG => z.2) e⟩
  keeps := fun _ _ _ ⟨K, hK, c, z⟩ k => ⟨K, PySem.W.Frag.In.keeps hK k, ⟨c.t, c.more, c.hd, c.out, fun p hp => k _ _ (c.empty p hp)⟩, z⟩
def ob (s : PySem.W.SharedT) : AlG := obG (HandSHeadRun.getT s)
theorem ob_eq (s : PySem.W.SharedT) : ob s = hk.obs s.abs := congrArg obG (funext (HandSHeadRun.getT_eq s))
theorem run (w : World) : HandSHeadRun.RunEq R (PySem.W.view R.prog [55]) hk ob 9000 loose w := by
  intro os
  kernel_rfl
end Cs
set_option maxHeartbeats 4000000
/-! Errors held as values: made with nothing, asked for their class, read. -/
namespace Cs
open PySem L2 PyProof.Rows
open PySem.W (InstAt)
/-- an error of the class C at a; what it keeps is told by fs, if it keeps anything -/
def ErrAt (H : Hp) (a C : Addr) (fs : List (Str × V)) : Prop := (fs = [] ∧ H a = some (exo a C none)) ∨ ∃ d, H a = some (exo a C (some d)) ∧ H d = some (exd d fs)
theorem ErrAt.keep {H H' : Hp} {a C : Addr} {fs : List (Str × V)} (h : ErrAt H a C fs) (s : Same H H') : ErrAt H' a C fs := by
  rcases h with ⟨e, h⟩ | ⟨d, h1, h2⟩
  · exact .inl ⟨e, s _ _ h⟩
  · exact .inr ⟨d, s _ _ h1, s _ _ h2⟩
section
variable {X : Cx} {C : Addr} {bmB : List Value} {B newId initId : String} {p pos : Pos} {x : Str}
def tMk0 (C : Addr) : TE := fun _ H Q => ∀ a H', H a = none → Same H H' → H' a = some (exo a C none) → Q (.ref a) H'
/-- C(), no __init__ of its own -/
theorem mk_none (FB : ExcBaseFacts B newId initId bmB) (q : PySem.W.excIn X.K C bmB newId = true) (g : X.mg x = some (.ref C)) (kC : PySem.W.keepIn X.K (.ref C) = true) (hg : Gl X x) (hdb : (x == ("__debug__" : Str)) = false := by rfl) : PE X (.Call (.Name x p) [] [] pos) (tMk0 C) := by
  refine ⟨fun pins s σ H Q I h => wpAny_Call_Name_kw (ld_glob I hg g (PySem.W.callWith_K0 I.kIn kC ?_) hdb)⟩
  obtain ⟨bm, N, nm, qn, bs, hdct, sn, sub, ab, col, dd, k0, k1, k2, k3, k5, mN, hC, hN, hni, T⟩ := exc_obj I.kIn q
  obtain ⟨hp, gg, d, t, os⟩ := s
  refine wpAny_call_exc_subT FB T hC hN hni (fun h' a hm => ?_) (by show 0 ≤ sizeLine; decide)
  have hn : H a = none := I.hok.gone hm.new
  obtain ⟨t2, ht, _, _⟩ := hm.there
  exact ⟨.ref a, upd H a (exo a C none), I.laidN hm.keeps hm.new hn (exo_ok ht), rfl, h a _ hn (same_new hn) upd_same⟩
/-- an error, as an instance -/
theorem ErrAt.inst {pins : List (Addr × Obj)} {σ : L2.St} {H : Hp} {s : Shared} {a : Addr} {fs : List (Str × V)} (h : ErrAt H a C fs) (I : L2.Inv X pins σ H s) : ∃ ox, InstAt s.heap a ox C none ∨ ∃ od, InstAt s.heap a ox C (some od) ∧ ∀ f v, fs.lookup f = some v → ∃ u, PySem.W.lookIn f od = some (some u) ∧ RelV v u := by
  rcases h with ⟨e, h⟩ | ⟨d, h1, h2⟩
  · obtain ⟨t, ho⟩ := exo_at I.hok h
    exact ⟨_, .inl ⟨ho, rfl, rfl, trivial⟩⟩
  · obtain ⟨t, ho⟩ := exo_at I.hok h1
    obtain ⟨mA, hns, rel⟩ := exd_at I.hok h2
    obtain ⟨od, hod, hl⟩ := lookIn_ns hns
    refine ⟨_, .inr ⟨od, ⟨ho, rfl, rfl, hod⟩, fun f v hf => ?_⟩⟩
    have r := rel f
    rw [hf] at r
    obtain ⟨u, e, ru⟩ := RelO.some_of r
    exact ⟨u, by rw [hl f, e], ru⟩
def rIsV (K : PySem.W.Frag) : List V → Hp → VK → Prop := fun xs H Q => ∃ (a C : Addr) (fs : List (Str × V)) (c : V) (cv : Value) (b : Bool), xs = [.ref a, c] ∧ ClsV c cv ∧ ErrAt H a C fs ∧ ExcC K C ∧ PySem.W.kitOne K (.ref C) cv = some b ∧ Q (.bl b) H
/-- isinstance of an error -/
theorem call_isV : CallR X (.builtin "isinstance") (rIsV X.K) := by
  rintro pins s σ H xs us Q I r ⟨a, C, fs, c, cv, b, rfl, hc, he, T, e, q⟩
  obtain ⟨u1, u2, rfl, r1, r2⟩ := vals2 r
  obtain rfl := hc.eq r2
  cases r1
  obtain ⟨ox, i | ⟨od, i, _⟩⟩ := he.inst I
  · exact PySem.W.kia_one (PySem.W.handS_kitx_exc T.hg T.hk T.hs T.hd T.ha T.hn T.ht T.hm) I.kIn i e (by intro z; cases z) fun tk => ⟨.bl b, H, I.tok tk, rfl, q⟩
  · exact PySem.W.kia_one (cs_kitx T) I.kIn i e (by intro z; cases z) fun tk => ⟨.bl b, H, I.tok tk, rfl, q⟩
def tFldV (K : PySem.W.Frag) (f : Str) (te : TE) : TE := fun σ H Q => te σ H fun x H1 => ∃ (a C d : Addr) (fs : List (Str × V)) (v : V), x = .ref a ∧ H1 a = some (exo a C (some d)) ∧ H1 d = some (exd d fs) ∧ XfC K C ∧ PySem.W.findIn K (.ref C) f = some none ∧ fs.lookup f = some v ∧ Q v H1
/-- e.f of an error -/
theorem pe_fldV {e : Expr} {te : TE} {n : Str} (he : PE X e te) (hb : attributeBase e n X.env (eval e X.env) = eval e X.env := by rfl) : PE X (.Attribute e n pos) (tFldV X.K n te) := by
  refine ⟨fun pins s σ H Q I h => attr_of hb (thn (he.run pins s σ H _ I h) ?_)⟩
  rintro u s1 ⟨x, H1, I1, rx, a, C, d, fs, v, rfl, h1, h2, T, hno, hf, q⟩
  cases rx
  obtain ⟨t, ho⟩ := exo_at I1.hok h1
  obtain ⟨mA, hns, rel⟩ := exd_at I1.hok h2
  obtain ⟨od, hod, hl⟩ := lookIn_ns hns
  have r := rel n
  rw [hf] at r
  obtain ⟨w2, e2, ru⟩ := RelO.some_of r
  exact PySem.HandSPX.exc_get I1.kIn (ox := rawX C t (some d)) ⟨ho, rfl, rfl, hod⟩ T.ga T.gg T.exC (PySem.W.findObj_own T.hdC hno rfl (by rw [hl n, e2])) (handed_of ru) ⟨v, H1, I1.tok _, ru, q⟩
end
/-- __init__ of an error that keeps one thing under the name f -/
theorem ok_xi {P : Program} {w : World} {K : PySem.W.Frag} {mg : Str → Option Value} {base : Heap} {C fI : Addr} {fd : FuncData} {q f : Str} {pr : Arguments} {sc : Scope} {p1 p2 p3 p4 : Pos} {bmB : List Value} {B newId : String} (SF : StoreFacts B bmB "object.__setattr__" "object") (T : OexG K C bmB newId)
    (ht : PySem.W.takerIn K C f = some none) (S : FnScope ["self", f] ["self", f] sc) (hv : Vis sc "self") (hv2 : Vis sc f) (d1 : (f == ("__debug__" : Str)) = false) (d2 : (f == ("__classdict__" : Str)) = false)
    (F : FunD K "__init__" q pr [.Assign [.Attribute (.Name "self" p1) f p2] (.Name f p3) p4] sc [] [] fI fd) : FnOk P w K mg base CX0 1 fI fd ["self", f] (SpXI C f) := by
  refine F.ok S (fun vs H Q E h => by obtain ⟨a, y, rfl, _⟩ := h; rfl) fun cdv A outer s H vs Q E hr h => ?_
  obtain ⟨a, y, rfl, ha, k⟩ := h
  refine ⟨_, PSs.nox (pss_one (ps_osG SF T ht (pe_var (i := 0) rfl hv) (pe_var (i := 1) rfl hv2 d1 d2))), ?_⟩
  exact ⟨_, rfl, _, rfl, a, rfl, ha, fun dx h1 h2 => k dx h1 h2⟩
end Cs
set_option maxHeartbeats 0
namespace Cs
open PySem PySem.Spec PyProof.Rows L2 LamX
section
variable {P : Program} {w : World} {K : PySem.W.Frag} {h h0 : Heap} {mg : Str → Option Value}
theorem T_ok (X : K.In h) (G : h.Ns mainGlobals mg) (c : He.SaysD fa fn K) : Txt mg := ⟨He.free_ok X G (c.fact 41 rfl), He.free_ok X G (c.fact 42 rfl), He.free_ok X G (c.fact 43 rfl), He.free_ok X G (c.fact 44 rfl), He.free_ok X G (c.fact 45 rfl), He.free_ok X G (c.fact 46 rfl), He.free_ok X G (c.fact 47 rfl), He.free_ok X G (c.fact 48 rfl), He.free_ok X G (c.fact 49 rfl), He.free_ok X G (c.fact 50 rfl), He.free_ok X G (c.fact 51 rfl), He.free_ok X G (c.fact 52 rfl), He.free_ok X G (c.fact 53 rfl), (by obtain ⟨t, e⟩ := He.int_ok X G (c.fact 57 rfl); exact ⟨_, e, _, rfl⟩), (by obtain ⟨t, e⟩ := He.int_ok X G (c.fact 58 rfl); exact ⟨_, e, _, rfl⟩), (by obtain ⟨t, e⟩ := He.int_ok X G (c.fact 59 rfl); exact ⟨_, e, _, rfl⟩), (by obtain ⟨t, e⟩ := He.int_ok X G (c.fact 60 rfl); exact ⟨_, e, _, rfl⟩)⟩
theorem tabG_ok (X : K.In h) (G : h.Ns mainGlobals mg) (c : He.SaysD fa fn K) : TabG mg (He.ga K "Table") := ⟨⟨_, He.glo_ok X G (c.fact 24 rfl), rfl⟩⟩
theorem tabC_ok (c : He.SaysD fa fn K) (ce : ex K = true) : TabC K (He.ga K "Table") := by
  have z := ex_4 ce
  obtain ⟨z1, z⟩ := Bool.and_eq_true_iff.mp z
  obtain ⟨z2, z⟩ := Bool.and_eq_true_iff.mp z
  obtain ⟨z3, z⟩ := Bool.and_eq_true_iff.mp z
  obtain ⟨z4, z5⟩ := Bool.and_eq_true_iff.mp z
  exact ⟨He.cls_ok (c.fact 62 rfl), He.noat_ok (c.fact 63 rfl), He.noat_ok (c.fact 64 rfl), He.eqO_ok z1, He.eqO_ok z2, of_decide_eq_true z3, of_decide_eq_true z4, of_decide_eq_true z5⟩
theorem at_is_integer (X : K.In h) (G : h.Ns mainGlobals mg) (c : He.SaysD fa fn K) : DefAt K mg "is_integer" (topS 22) ["value"] := by
  obtain ⟨fd, F⟩ := c.def_ 0 rfl
  exact ⟨_, fd, F, He.glo_ok X G (c.fact 0 rfl), FunD.bindsN F (fun _ _ _ _ _ _ us hl => match us, hl with | [_], _ => rfl)⟩
theorem at_is_tuple_of (X : K.In h) (G : h.Ns mainGlobals mg) (c : He.SaysD fa fn K) : DefAt K mg "is_tuple_of" (topS 23) ["value", "many"] := by
  obtain ⟨fd, F⟩ := c.def_ 1 rfl
  exact ⟨_, fd, F, He.glo_ok X G (c.fact 1 rfl), FunD.bindsN F (fun _ _ _ _ _ _ us hl => match us, hl with | [_, _], _ => rfl)⟩
theorem at_is_pair_of_integers (X : K.In h) (G : h.Ns mainGlobals mg) (c : He.SaysD fa fn K) : DefAt K mg "is_pair_of_integers" (topS 24) ["value"] := by
  obtain ⟨fd, F⟩ := c.def_ 2 rfl
  exact ⟨_, fd, F, He.glo_ok X G (c.fact 2 rfl), FunD.bindsN F (fun _ _ _ _ _ _ us hl => match us, hl with | [_], _ => rfl)⟩
theorem at_is_name (X : K.In h) (G : h.Ns mainGlobals mg) (c : He.SaysD fa fn K) : DefAt K mg "is_name" (topS 25) ["value"] := by
  obtain ⟨fd, F⟩ := c.def_ 3 rfl
  exact ⟨_, fd, F, He.glo_ok X G (c.fact 3 rfl), FunD.bindsN F (fun _ _ _ _ _ _ us hl => match us, hl with | [_], _ => rfl)⟩
theorem at_is_stretch (X : K.In h) (G : h.Ns mainGlobals mg) (c : He.SaysD fa fn K) : DefAt K mg "is_stretch" (topS 27) ["value", "least", "most"] := by
  obtain ⟨fd, F⟩ := c.def_ 4 rfl
  exact ⟨_, fd, F, He.glo_ok X G (c.fact 4 rfl), FunD.bindsN F (fun _ _ _ _ _ _ us hl => match us, hl with | [_, _, _], _ => rfl)⟩
theorem at_check_columns (X : K.In h) (G : h.Ns mainGlobals mg) (c : He.SaysD fa fn K) : DefAt K mg "check_columns" (topS 34) ["columns"] := by
  obtain ⟨fd, F⟩ := c.def_ 5 rfl
  exact ⟨_, fd, F, He.glo_ok X G (c.fact 5 rfl), FunD.bindsN F (fun _ _ _ _ _ _ us hl => match us, hl with | [_], _ => rfl)⟩
theorem at_check_rows (X : K.In h) (G : h.Ns mainGlobals mg) (c : He.SaysD fa fn K) : DefAt K mg "check_rows" (topS 35) ["columns", "rows"] := by
  obtain ⟨fd, F⟩ := c.def_ 6 rfl
  exact ⟨_, fd, F, He.glo_ok X G (c.fact 6 rfl), FunD.bindsN F (fun _ _ _ _ _ _ us hl => match us, hl with | [_, _], _ => rfl)⟩
theorem at_are_end_pairs (X : K.In h) (G : h.Ns mainGlobals mg) (c : He.SaysD fa fn K) : DefAt K mg "are_end_pairs" (topS 39) ["value", "many"] := by
  obtain ⟨fd, F⟩ := c.def_ 7 rfl
  exact ⟨_, fd, F, He.glo_ok X G (c.fact 7 rfl), FunD.bindsN F (fun _ _ _ _ _ _ us hl => match us, hl with | [_, _], _ => rfl)⟩
theorem at__is_end_pair (X : K.In h) (G : h.Ns mainGlobals mg) (c : He.SaysD fa fn K) : DefAt K mg "_is_end_pair" (topS 40) ["value"] := by
  obtain ⟨fd, F⟩ := c.def_ 8 rfl
  exact ⟨_, fd, F, He.glo_ok X G (c.fact 8 rfl), FunD.bindsN F (fun _ _ _ _ _ _ us hl => match us, hl with | [_], _ => rfl)⟩
theorem at__is_row (X : K.In h) (G : h.Ns mainGlobals mg) (c : He.SaysD fa fn K) : DefAt K mg "_is_row" (topS 41) ["value", "many"] := by
  obtain ⟨fd, F⟩ := c.def_ 9 rfl
  exact ⟨_, fd, F, He.glo_ok X G (c.fact 9 rfl), FunD.bindsN F (fun _ _ _ _ _ _ us hl => match us, hl with | [_, _], _ => rfl)⟩
theorem at__law_pail (X : K.In h) (G : h.Ns mainGlobals mg) (c : He.SaysD fa fn K) : DefAt K mg "_law_pail" (topS 44) ["_law_script", "_law_at"] := by
  obtain ⟨fd, F⟩ := c.def_ 10 rfl
  exact ⟨_, fd, F, He.glo_ok X G (c.fact 10 rfl), FunD.bindsN F (fun _ _ _ _ _ _ us hl => match us, hl with | [_, _], _ => rfl)⟩
theorem at__law_scoop (X : K.In h) (G : h.Ns mainGlobals mg) (c : He.SaysD fa fn K) : DefAt K mg "_law_scoop" (topS 45) ["_law_pail_here", "_law_most"] := by
  obtain ⟨fd, F⟩ := c.def_ 11 rfl
  exact ⟨_, fd, F, He.glo_ok X G (c.fact 11 rfl), FunD.bindsN F (fun _ _ _ _ _ _ us hl => match us, hl with | [_, _], _ => rfl)⟩
theorem at__law_any (X : K.In h) (G : h.Ns mainGlobals mg) (c : He.SaysD fa fn K) : DefAt K mg "_law_any" (topS 46) ["_law_pail_here", "_law_menu"] := by
  obtain ⟨fd, F⟩ := c.def_ 12 rfl
  exact ⟨_, fd, F, He.glo_ok X G (c.fact 12 rfl), FunD.bindsN F (fun _ _ _ _ _ _ us hl => match us, hl with | [_, _], _ => rfl)⟩
theorem at__law_stretch (X : K.In h) (G : h.Ns mainGlobals mg) (c : He.SaysD fa fn K) : DefAt K mg "_law_stretch" (topS 47) ["_law_pail_here"] := by
  obtain ⟨fd, F⟩ := c.def_ 13 rfl
  exact ⟨_, fd, F, He.glo_ok X G (c.fact 13 rfl), FunD.bindsN F (fun _ _ _ _ _ _ us hl => match us, hl with | [_], _ => rfl)⟩
theorem at__law_heads (X : K.In h) (G : h.Ns mainGlobals mg) (c : He.SaysD fa fn K) : DefAt K mg "_law_heads" (topS 48) ["_law_pail_here", "_law_most"] := by
  obtain ⟨fd, F⟩ := c.def_ 14 rfl
  exact ⟨_, fd, F, He.glo_ok X G (c.fact 14 rfl), FunD.bindsN F (fun _ _ _ _ _ _ us hl => match us, hl with | [_, _], _ => rfl)⟩
theorem at__law_lines (X : K.In h) (G : h.Ns mainGlobals mg) (c : He.SaysD fa fn K) : DefAt K mg "_law_lines" (topS 49) ["_law_pail_here", "_law_many", "_law_most"] := by
  obtain ⟨fd, F⟩ := c.def_ 15 rfl
  exact ⟨_, fd, F, He.glo_ok X G (c.fact 15 rfl), FunD.bindsN F (fun _ _ _ _ _ _ us hl => match us, hl with | [_, _, _], _ => rfl)⟩
theorem at__law_word (X : K.In h) (G : h.Ns mainGlobals mg) (c : He.SaysD fa fn K) : DefAt K mg "_law_word" (topS 50) ["_law_e"] := by
  obtain ⟨fd, F⟩ := c.def_ 16 rfl
  exact ⟨_, fd, F, He.glo_ok X G (c.fact 16 rfl), FunD.bindsN F (fun _ _ _ _ _ _ us hl => match us, hl with | [_], _ => rfl)⟩
theorem at__law_heard (X : K.In h) (G : h.Ns mainGlobals mg) (c : He.SaysD fa fn K) : DefAt K mg "_law_heard" (topS 51) ["_law_act"] := by
  obtain ⟨fd, F⟩ := c.def_ 17 rfl
  exact ⟨_, fd, F, He.glo_ok X G (c.fact 17 rfl), FunD.bindsN F (fun _ _ _ _ _ _ us hl => match us, hl with | [_], _ => rfl)⟩
theorem at__law_bad_heads (X : K.In h) (G : h.Ns mainGlobals mg) (c : He.SaysD fa fn K) : DefAt K mg "_law_bad_heads" (topS 52) ["_law_pail_here", "_law_heads_here"] := by
  obtain ⟨fd, F⟩ := c.def_ 18 rfl
  exact ⟨_, fd, F, He.glo_ok X G (c.fact 18 rfl), FunD.bindsN F (fun _ _ _ _ _ _ us hl => match us, hl with | [_, _], _ => rfl)⟩
theorem at__law_bad_lines (X : K.In h) (G : h.Ns mainGlobals mg) (c : He.SaysD fa fn K) : DefAt K mg "_law_bad_lines" (topS 53) ["_law_pail_here", "_law_many", "_law_lines_here"] := by
  obtain ⟨fd, F⟩ := c.def_ 19 rfl
  exact ⟨_, fd, F, He.glo_ok X G (c.fact 19 rfl), FunD.bindsN F (fun _ _ _ _ _ _ us hl => match us, hl with | [_, _, _], _ => rfl)⟩
theorem at__law_right (X : K.In h) (G : h.Ns mainGlobals mg) (c : He.SaysD fa fn K) : DefC K mg "_law_right" (topS 54) ["_law_pail_here"] (He.cT K ("_law_right", none)).1 := by
  obtain ⟨fd, F⟩ := c.def_ 20 rfl
  refine ⟨_, fd, F, He.glo_ok X G (c.fact 20 rfl), FunD.bindsN F (fun _ _ _ _ _ _ us hl => match us, hl with | [_], _ => rfl), ?_⟩
  obtain ⟨oc, od, dV, kV, doc, pm, an, cdv, ct, osl, rfl, lk, hcd, _, _⟩ := F.ex
  obtain ⟨cc, hcc⟩ := He.codeIn_ref hcd
  subst hcc
  exact congrArg Value.ref (He.codeOf_eq lk rfl).symm
theorem cls_ok (X : K.In h) (G : h.Ns mainGlobals mg) (c : He.SaysD fa fn K) : ClsT mg (He.ga K) := ⟨⟨_, He.glo_ok X G (c.fact 22 rfl), rfl⟩, ⟨_, He.glo_ok X G (c.fact 23 rfl), rfl⟩, ⟨_, He.glo_ok X G (c.fact 25 rfl), rfl⟩, ⟨_, He.glo_ok X G (c.fact 26 rfl), rfl⟩, ⟨_, He.glo_ok X G (c.fact 27 rfl), rfl⟩, ⟨_, He.glo_ok X G (c.fact 28 rfl), rfl⟩, ⟨_, He.glo_ok X G (c.fact 29 rfl), rfl⟩, ⟨_, He.glo_ok X G (c.fact 30 rfl), rfl⟩, ⟨_, He.glo_ok X G (c.fact 31 rfl), rfl⟩, ⟨_, He.glo_ok X G (c.fact 32 rfl), rfl⟩, ⟨_, He.glo_ok X G (c.fact 33 rfl), rfl⟩, ⟨_, He.glo_ok X G (c.fact 34 rfl), rfl⟩, ⟨_, He.glo_ok X G (c.fact 35 rfl), rfl⟩, ⟨_, He.glo_ok X G (c.fact 36 rfl), rfl⟩, ⟨_, He.glo_ok X G (c.fact 37 rfl), rfl⟩, ⟨_, He.glo_ok X G (c.fact 38 rfl), rfl⟩, ⟨_, He.glo_ok X G (c.fact 39 rfl), rfl⟩, ⟨_, He.glo_ok X G (c.fact 40 rfl), rfl⟩, He.free_ok X G (c.fact 54 rfl), He.free_ok X G (c.fact 55 rfl), He.free_ok X G (c.fact 56 rfl)⟩
theorem exa_InvalidColumns (X : K.In h) (G : h.Ns mainGlobals mg) (c : He.SaysD fa fn K) (ce : ex K = true) : ExAt K mg "InvalidColumns" (He.ga K "InvalidColumns") "index" (inClass (topS 11) 0) := by
  have o := ex_0 ce
  have q := ex_2 ce
  obtain ⟨q1, q⟩ := Bool.and_eq_true_iff.mp q
  obtain ⟨q2, q3⟩ := Bool.and_eq_true_iff.mp q
  obtain ⟨fd, F⟩ := c.def_ 23 rfl
  exact ⟨oexB_ok o, He.glo_ok X G (c.fact 22 rfl), He.eqO_ok q1, _, fd, _, He.eqO_ok q2, of_decide_eq_true q3, F, FunD.bindsN F (fun _ _ _ _ _ _ us hl => match us, hl with | [_, _], _ => rfl)⟩
theorem exa_InvalidRows (X : K.In h) (G : h.Ns mainGlobals mg) (c : He.SaysD fa fn K) (ce : ex K = true) : ExAt K mg "InvalidRows" (He.ga K "InvalidRows") "index" (inClass (topS 12) 0) := by
  have o := ex_1 ce
  have q := ex_3 ce
  obtain ⟨q1, q⟩ := Bool.and_eq_true_iff.mp q
  obtain ⟨q2, q3⟩ := Bool.and_eq_true_iff.mp q
  obtain ⟨fd, F⟩ := c.def_ 24 rfl
  exact ⟨oexB_ok o, He.glo_ok X G (c.fact 23 rfl), He.eqO_ok q1, _, fd, _, He.eqO_ok q2, of_decide_eq_true q3, F, FunD.bindsN F (fun _ _ _ _ _ _ us hl => match us, hl with | [_, _], _ => rfl)⟩
theorem tab_ok (X : K.In h) (G : h.Ns mainGlobals mg) (c : He.SaysD fa fn K) : ∃ fd, TabAt K mg (He.ga K "Table") (He.fAd K ("Table", some "__init__")) fd := by
  obtain ⟨fd, F⟩ := c.def_ 22 rfl
  refine ⟨fd, He.mkr_ok (c.fact 61 rfl), He.glo_ok X G (c.fact 24 rfl), ⟨_, F⟩, FunD.bindsN F (fun _ _ _ _ _ _ us hl => match us, hl with | [_, _, _], _ => rfl), ?_⟩
  obtain ⟨oc, od, dV, kV, doc, pm, an, cdv, ct, osl, rfl, lk, hcd, hD, hK⟩ := F.ex
  rcases hD with ⟨_, rfl⟩ | ⟨e, _⟩
  · refine ⟨fun s us ws X l1 l2 => ?_, fun r1 r2 => r1.append (vals_rev r2)⟩
    match us, l1, ws, l2 with
    | [_], _, [_, _], _ => exact .of_eq rfl
  · exact absurd rfl e
def xcs (K : PySem.W.Frag) : Nat → Addr
  | 0 => He.ga K "InvalidColumns"
  | 1 => He.ga K "InvalidRows"
  | _ => 0
theorem law_at (X : K.In h) (G : h.Ns mainGlobals mg) (c0 : He.SaysX fa fn [] tf ex w h K) (hgl : glK K = gl) : LawAtG PySem.Challenge.rw_cornersure_k04_tables_refused w K 15 63 "_law_script" mg h := by
  have c := c0.t.d
  have ce := c0.more
  have cm : ∀ p ∈ ([He.cT K ("_law_right", none)] : List (Addr × Addr)), ∃ q ∈ tf, p = He.cT K q := fun p hp => by
    simp only [List.mem_cons, List.not_mem_nil, or_false] at hp
    rcases hp with rfl
    · exact ⟨_, List.mem_cons_self, rfl⟩
  obtain ⟨fd, F⟩ := c.def_ 21 rfl
  have b := FunD.bindsA (ps := ["_law_script"]) F (fun _ _ _ _ _ _ us hl => match us, hl with | [_], _ => rfl)
  refine ⟨_, fd, [He.cT K ("_law_right", none)], SpLaw4 K [((He.cT K ("_law_right", none)).2, "_law_right.<locals>.<lambda>")], He.glo_ok X G (c.fact 21 rfl), fun p hp => ?_, fun p hp => ?_, fun p hp => ?_, fun s v => b s [v] rfl, fun H a ns hl _ hT hS => ?_, fun base KB NB TBs => ?_⟩
  · obtain ⟨q, hq, rfl⟩ := cm p hp
    exact c0.empty _ hq
  · obtain ⟨q, hq, rfl⟩ := cm p hp
    exact c0.out _ hq
  · obtain ⟨q, hq, rfl⟩ := cm p hp
    exact PySem.W.codeHd_of_K X (c0.hd _ hq)
  · refine ⟨a, ns, rfl, hS, by omega, fun q hq => ?_, fun _ => rfl⟩
    simp only [List.mem_cons, List.not_mem_nil, or_false] at hq
    rcases hq with rfl
    · exact TabS.nil (hT _ List.mem_cons_self)
  · have TC := tabC_ok c ce
    have TG := tabG_ok X G c
    have T := T_ok X G c
    have CLS := cls_ok X G c
    have cis_integer := ok_is_integer (P := PySem.Challenge.rw_cornersure_k04_tables_refused.prog) (w := w) (base := base) (at_is_integer X G c) T
    have cis_tuple_of := ok_is_tuple_of (P := PySem.Challenge.rw_cornersure_k04_tables_refused.prog) (w := w) (base := base) (at_is_tuple_of X G c) T
    have cis_pair := ok_is_pair_of_integers (at_is_pair_of_integers X G c) T cis_tuple_of cis_integer
    have cis_stretch := ok_is_stretch (at_is_stretch X G c) cis_pair
    have c_end := ok__is_end_pair (at__is_end_pair X G c) T cis_stretch
    have cis_name := ok_is_name (P := PySem.Challenge.rw_cornersure_k04_tables_refused.prog) (w := w) (base := base) (at_is_name X G c) T
    have c_ends := ok_are_end_pairs (at_are_end_pairs X G c) T cis_tuple_of c_end
    have c_row := ok__is_row (at__is_row X G c) T cis_tuple_of cis_name c_ends
    have cC := ok_check_columns (at_check_columns X G c) T cis_name (exa_InvalidColumns X G c ce)
    have cR := ok_check_rows (at_check_rows X G c) T c_row (exa_InvalidRows X G c ce)
    obtain ⟨fdI, TA⟩ := tab_ok X G c
    obtain ⟨qI, FI0⟩ := TA.F
    have FIe := ok_tinit (c := xcs K) FI0 cC cR
    have W := ok__law_word (P := PySem.Challenge.rw_cornersure_k04_tables_refused.prog) (w := w) (base := base) (at__law_word X G c) T CLS
    have hxw : ∀ n, NSx n → ExW K (He.ga K) (xcs K n) n := fun n h => by rcases h with rfl | rfl <;> first | exact exwB_ok (ex_5 ce) | exact exwB_ok (ex_6 ce)
    have cscoop := ok__law_scoop (P := PySem.Challenge.rw_cornersure_k04_tables_refused.prog) (w := w) (base := base) (at__law_scoop X G c) T
    have cany := ok__law_any (at__law_any X G c) T cscoop
    have canyD := dl__law_any (at__law_any X G c) T cscoop
    have cpail := ok__law_pail (P := PySem.Challenge.rw_cornersure_k04_tables_refused.prog) (w := w) (base := base) (at__law_pail X G c) T
    have cstr := ok__law_stretch (at__law_stretch X G c) T cscoop cany
    have cheads := ok__law_heads (at__law_heads X G c) T cscoop
    have clines := ok__law_lines (at__law_lines X G c) T cscoop cstr
    have cbh := ok__law_bad_heads (at__law_bad_heads X G c) T cscoop canyD
    have cbl := ok__law_bad_lines (at__law_bad_lines X G c) T cscoop canyD cstr
    have cright := ok__law_right (tb := [((He.cT K ("_law_right", none)).2, "_law_right.<locals>.<lambda>")]) (at__law_right X G c) T TC TG (at__law_heard X G c) CLS W (TBs _ List.mem_cons_self) List.mem_cons_self (fun p hp e => by rw [List.mem_singleton.mp hp]) hxw TA FIe TA.kb cheads clines canyD cbh cbl
    exact ok_law F T cright cpail
end
end Cs
open PySem PySem.W PySem.Calls PyProof.Rows
set_option maxRecDepth 100000 in
theorem PySem.Challenge.cw_cornersure_k04_tables_refused_holds : PySem.Challenge.rw_cornersure_k04_tables_refused.Holds := by
  w_on; o_law
  refine HandSHeadRun.head_any (r := OpenLaw.row PySem.Challenge.rw_cornersure_k04_tables_refused) (q := view (OpenLaw.row PySem.Challenge.rw_cornersure_k04_tables_refused).prog [55]) (H := Cs.hk) (ob := Cs.ob) (M := 9000) (loose := Cs.loose) (d := HandSHeadRun.topDef (OpenLaw.row PySem.Challenge.rw_cornersure_k04_tables_refused).prog 55) (kwd := []) Cs.ob_eq
    (by kernel_rfl) (fun s => by kernel_rfl) Cs.run (by kernel_rfl) (by kernel_rfl) (by kernel_rfl) (by rfl) (by first | assumption | decide +kernel) (by decide +kernel) ⟨rfl, rfl, rfl, rfl, rfl, by decide +kernel⟩ ?hw ?hc
  case hw => w_witness2
  case hc =>
    refine Cs.walk_ofG (l := PySem.Challenge.rw_cornersure_k04_tables_refused) (n := 63) (k := 15) (x := "_law_script") rfl (by decide) (by kernel_rfl) (by kernel_rfl) ⟨rfl, by decide, by decide⟩ ?F
    intro w mg h Y G _
    obtain ⟨K, KX, c, z⟩ := Y
    exact ⟨K, KX, Cs.law_at KX G c z⟩
