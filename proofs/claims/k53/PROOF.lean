import PyProof.Rows.All
import Wide.All
import OpenK.AllK
import Wide.FinOn
import HandS.ForMost
import HandS.Flow
import HandS.IsInst
import HandS.TupAny
import KE.GoesEnum
import HandS.SetFor
import HandS.RaiseMore
import HandS.Codes
import HandS.Defaults
import HandS.ForExc
import HandS.ExcIs
import HandS.ExcField
import HandS.ExcInit
import HandS.HotCalls
import KE.KTryMore
import HandS.MakeKw
import HandS.ExcValue
import KE.KExcInit
import HandS.Zip
import HandS.OwnEq
import HandS.Property
import HandS.FStr
import HandS.Star
import KE.KCallOwn
import PyProof.ReprRoads
import HandS.Lambda
import HandS.SortInts
import HandS.Gcd
import HandS.Style
import KE.KDictZip
import HandS.Exc
import HandS.TupMul
import HandS.TupLe
import HandS.Comp
import HandS.DictTup
import HandS.SortRule
import PyProof.Rows.SortKeyStr
import KE.GoesMore
import HandS.Call
import HandS.NoneIn
import KE.KRevSl
import HandS.Text
import HandS.StrMore
import HandS.Iter
import PyProof.StrLaws
import PyProof.Rows.StrDigitsNeg
import PyProof.Rows.ReprOcc
import KE.IntTextLaws
import HandS.ClsMeth
import HandS.MakeKwOnly
import HandS.DictSub
import HandS.EndTab
import HandS.HeadWalk
import HandS.Small
import HandS.WordsDict
import PyProof.Rows.StrReprFit
import HandS.HeadNt
import KE.KStateDown
import HandS.Head0
import HandS.Head1
import HandS.Head2
import HandS.Head3
import HandS.HeadEnd
import HandS.HeadHook1
import HandS.HeadHook2
import HandS.HeadHook3
import HandS.HeadHook4
import PyProof.ExcBaseAll.ValueError
import PyProof.ExcBaseAll.LookupError
import PyProof.ExcBaseAll.ArithmeticError
import PySem.Challenge.RW_cornersure_k53_whole_webs_made_and_told
set_option Elab.async false
set_option linter.all false
set_option maxRecDepth 100000
set_option maxHeartbeats 4000000
/-! Rules of my own beside the layer: enumerate of a tuple; a chain of three comparisons; count of flat items. -/
namespace PySem
open AutoSeq1 (wpAny_loadPart')
theorem cs_enum_newT (l : Addr) (items : Array Value) (n : Nat) (dct : Option Addr) (sl : Array (Option Value)) :
    Meets (Builtin.«enumerate.__new__» ⟨[.type "enumerate", .ref l], []⟩)
      (fun _ R s => s.heap.get? l = some { cls := .type "tuple", dict := dct, data := .seq items n, slots := sl } ∧
        R (.ok (.ret (.ref (s.heap.push { cls := .type "tuple_iterator", data := .fields #[.ref l, .int 0 0] }).objs.size)))
          { s with heap := ((s.heap.push { cls := .type "tuple_iterator", data := .fields #[.ref l, .int 0 0] }).push { cls := .type "enumerate", data := .fields #[.none, .bool false, .ref s.heap.objs.size, rawInt 0, .none, .none] }) }) := .of_wp fun prog w A R s h => by
  obtain ⟨hp, g, d, tk, os⟩ := s
  obtain ⟨hl, h⟩ := h
  have hsub := sub_enumerate
  have hT : Heap.IsTuple (Shared.heap ⟨hp, g, d, tk, os⟩) l items := ⟨_, hl, rfl, n, rfl⟩
  wp_walk using wpAny_loadPart' hl
  refine wpAny_stack_any fun _ => wpAny_pure ?_
  split
  · rename_i c _ _ _ _ _
    cases (c == Value.type "enumerate") <;> (wp_walk using wpAny_loadPart' hl, wpAny_pyIter_tuple hT; exact ⟨_, rfl, h⟩)
  · wp_walk using wpAny_loadPart' hl, wpAny_pyIter_tuple hT
    exact ⟨_, rfl, h⟩
theorem cs_call_enumT {prog : Program} {w : World} {A : Around} {E : Value → Shared → Prop} {s : Shared} {l : Addr} {items : Array Value} {Q : Value → Shared → Prop} (hL : s.heap.IsTuple l items)
    (h : ∀ h', IsEnum h' (s.heap.objs.size + 1) s.heap.objs.size 0 .none → h'.IsTupleIter s.heap.objs.size l 0 →
      (∀ b o, s.heap.get? b = some o → h'.get? b = some o) → Q (.ref (s.heap.objs.size + 1)) { s with heap := h' }) :
    wpAny (model prog w) A (call (.type "enumerate") [.ref l]) Q E s := by
  obtain ⟨⟨c, dct, dt, sl⟩, hl, hc, n, hd⟩ := hL
  obtain rfl : c = .type "tuple" := hc
  obtain rfl : dt = .seq items n := hd
  refine callType_new F.called_enumerate (by decide) (F.typeCall_enumerate_1 _) (F.newCall_enumerate_1 _)
    (fun obj => F.args_object_init_2 obj _) F.entry_enumerate_new (cs_enum_newT l items n dct sl) ⟨hl, ?_⟩
  generalize ho1 : ({ cls := .type "tuple_iterator", data := .fields #[.ref l, .int 0 0] } : Obj) = o1
  generalize ho2 : ({ cls := .type "enumerate", data := .fields #[.none, .bool false, .ref s.heap.objs.size, rawInt 0, .none, .none] } : Obj) = o2
  have f1 : o1.isFreed = false := by rw [← ho1]; rfl
  have f2 : o2.isFreed = false := by rw [← ho2]; rfl
  have z1 : (s.heap.push o1).objs.size = s.heap.objs.size + 1 := Heap.size_push ..
  have he : ((s.heap.push o1).push o2).get? (s.heap.objs.size + 1) = some o2 := by
    rw [← z1]
    exact Heap.get?_push_size _ f2
  have hi : ((s.heap.push o1).push o2).get? s.heap.objs.size = some o1 := Heap.get?_push_of_some _ (Heap.get?_push_size _ f1)
  rw [z1]
  refine ⟨⟨o2, he, by rw [← ho2]⟩, h _ ?_ ⟨o1, hi, by rw [← ho1], by rw [← ho1]; rfl⟩ fun b o x => Heap.get?_push_of_some _ (Heap.get?_push_of_some _ x)⟩
  rw [← ho2] at he ⊢
  exact he
end PySem
namespace Cs
open PySem L2 PyProof.Rows
/-- the tuple at a, each item in a new pair -/
def EtT (K : PySem.W.Frag) (a : Addr) : It :=
  ⟨fun i H => ∃ (xs : List V) (x : V), SqT K H a xs ∧ xs[i]? = some x,
    fun i H v H' => ∃ T x, v = .ref T ∧ H T = none ∧ H' = upd H T (.tup [.int (i : Nat), x]) ∧ ∀ xs, SqT K H a xs → xs[i]? = some x,
    fun i H => ∃ xs : List V, SqT K H a xs ∧ xs.length = i⟩
theorem turn_enumT {P : Program} {w : World} {K : PySem.W.Frag} {elts : List Expr} {kk : Nat} {tpos : Pos} (a e it : Addr) :
    Turn P w K (.Tuple elts kk tpos) (EtT K a) [e, it] e (fun i h => (∃ old, IsEnum h e it ((i : Nat) : Int) old) ∧ h.IsTupleIter it a i ∧ e ≠ it) where
  mem := List.mem_cons_self
  obj := fun i h st b hb => by
    obtain ⟨⟨old, he⟩, ⟨o, ho, _, hd⟩, _⟩ := st
    rcases List.mem_cons.mp hb with rfl | hb
    · exact ⟨_, he, fun v q => nomatch q⟩
    · obtain rfl : b = it := by simpa using hb
      exact ⟨o, ho, fun v q => by rw [hd] at q; cases q⟩
  keep := fun i h h' st k => by
    obtain ⟨⟨old, he⟩, hi, hne⟩ := st
    exact ⟨⟨old, k _ (by simp) _ he⟩, hi.at fun o q => k _ (by simp) o q, hne⟩
  item := by
    rintro X rfl rfl rfl hc i pins s σ H E I hf ⟨⟨old, he⟩, hit, hne⟩ ⟨xs, x, hq, hx⟩
    obtain ⟨its, rv, p, hz⟩ := I.tuple hq
    obtain ⟨u, hu, ru⟩ := rv.get hx
    have p' : s.heap.IsTuple a its.toArray := p
    have hel := Heap.lt_size he
    have hil : it < s.heap.objs.size := by
      obtain ⟨_, q, _⟩ := hit
      exact Heap.lt_size q
    have nat : a ≠ it := fun z => by
      obtain ⟨o1, q1, c1, _⟩ := p'
      obtain ⟨o2, q2, c2, _⟩ := hit
      rw [z, q2] at q1
      cases q1
      rw [c2] at c1
      exact absurd (Value.type.inj c1) (by decide)
    have nae : a ≠ e := fun z => by
      obtain ⟨o1, q1, c1, _⟩ := p'
      have he' := he
      rw [← z] at he'
      unfold IsEnum at he'
      rw [q1] at he'
      cases he'
      exact absurd (Value.type.inj c1) (by decide)
    have hh : X.A.in1.handled = none := I.ok.hd hc
    have D := Draws.tuple (prog := X.prog) (w := X.w) hh it a nat its.toArray
    have hi2 : i < its.toArray.size := by
      have q := (List.getElem?_eq_some_iff.mp hu).1
      simpa using q
    refine wpAny_pyNext_enum_itemD D he ⟨hit, p'⟩ hi2 hne (by simp [hne, Ne.symm nae]) fun y h' tk hy ho hst hT hsz hk => ?_
    have ey : y = u := by
      have q : its.toArray[i]? = some y := hy
      rw [List.getElem?_toArray, hu] at q
      exact (Option.some.inj q).symm
    subst ey
    refine ⟨_, rfl, wpAny_letOwnedTupleGo_enum (s := { s with heap := h', toks := tk + 1 }) ho fun h2 he2 sb => ?_⟩
    have ne0 : s.heap.objs.size ≠ e := Nat.ne_of_gt hel
    have hT2 : h2.get? s.heap.objs.size = some { cls := .type "tuple", data := .seq #[.int i tk, y] } := (sb.2 _ ne0).trans hT
    have new : ObjOk X.prog X.w (upd H s.heap.objs.size (.tup [.int (i : Nat), x])) h2 s.heap.objs.size (.tup [.int (i : Nat), x]) :=
      ⟨(by show 2 ≤ sizeLine; decide), [.int i tk, y], .cons ⟨_, rfl⟩ (.cons ru .nil), _, hT2, rfl, _, rfl⟩
    have kk2 : ∀ b ob, b ∉ [e, it] → s.heap.get? b = some ob → h2.get? b = some ob := fun b ob hb q => by
      have b1 : b ≠ e := fun z => hb (by simp [z])
      have b2 : b ≠ it := fun z => hb (by simp [z])
      exact (sb.2 b b1).trans (hk b ob b1 b2 q)
    have J := I.turnedNew (t' := tk + 1) (ch := [e, it]) kk2 hf (Nat.le_refl _) new
    refine ⟨.ref s.heap.objs.size, _, J, rfl, ⟨_, x, rfl, I.hok.fresh (Nat.le_refl _), rfl, fun ys hy2 => ?_⟩, ⟨⟨y, ?_⟩, hst.1.at fun o q => (sb.2 it (Ne.symm hne)).trans q, hne⟩, fun b hb => ?_⟩
    · rw [I.tuple_inj hy2 hq]
      exact hx
    · have e1 : ((i + 1 : Nat) : Int) = (i : Int) + 1 := by omega
      rw [e1]
      exact he2
    · have hb' : b < s.heap.objs.size := by
        rcases List.mem_cons.mp hb with rfl | hb
        · exact hel
        · obtain rfl : b = it := by simpa using hb
          exact hil
      rw [upd_ne (Nat.ne_of_lt hb')]
      exact (hf b hb).1
  done := by
    rintro X rfl rfl rfl hc i pins s σ H E I hf ⟨⟨old, he⟩, hit, hne⟩ ⟨xs, hq, hx⟩
    obtain ⟨its, rv, p, hz⟩ := I.tuple hq
    have p' : s.heap.IsTuple a its.toArray := p
    have nat : a ≠ it := fun z => by
      obtain ⟨o1, q1, c1, _⟩ := p'
      obtain ⟨o2, q2, c2, _⟩ := hit
      rw [z, q2] at q1
      cases q1
      rw [c2] at c1
      exact absurd (Value.type.inj c1) (by decide)
    have D := Draws.tuple (prog := X.prog) (w := X.w) (A := X.A.in1) (I.ok.hd hc) it a nat its.toArray
    have ei : i = its.toArray.size := by
      have q := rv.length
      simp
      omega
    obtain ⟨f0, f1, f2, f3, f4, f5⟩ := hf it (by simp)
    exact wpAny_pyNext_enum_endD D he (by rw [← ei]; exact ⟨hit, p'⟩) fun h' eb => ⟨rfl, I.turned (t' := s.toks) (fun b o hb q => eb b o hb q) f0 f1 f3 f4 f5⟩
  self := fun A i s Q E st h => let ⟨⟨_, he⟩, _⟩ := st; wpAny_pyIter_enum he h
def iEnT (K : PySem.W.Frag) (ta : TA) : TI := fun σ H R => ta σ H fun vs H1 => ∃ a, vs = [.ref a] ∧ (∃ xs, SqT K H1 a xs) ∧ R (EtT K a) H1
theorem pi_enumT {X : Cx} {e : Expr} {ta : TA} {p pos tpos : Pos} {elts : List Expr} {kk : Nat} (hg : Gl X "enumerate") (hm : X.mg "enumerate" = none) (ha : PA X [e] ta)
    (hs : starEach [e] X.env = [(false, eval e X.env)] := by rfl) : PI X (.Tuple elts kk tpos) (.Call (.Name "enumerate" p) [e] [] pos) (iEnT X.K ta) := by
  refine ⟨fun pins s σ H R I h => ?_⟩
  refine Call_ (ld_blt I hg hm boot_enumerate (callWith_type1 (thn (ha.run pos pins s σ H _ I h) fun us s1 hh => ?_) hs rfl))
  obtain ⟨vs, H1, I1, r1, a, rfl, ⟨xs, hq⟩, q⟩ := hh
  cases r1 with
  | cons r rr =>
    cases rr
    cases r
    obtain ⟨its, rv, p1, hz⟩ := I1.tuple hq
    refine cs_call_enumT (items := its.toArray) p1 fun h' he hit hk => wpAny_pyIter_enum he ?_
    have I2 : Inv X pins σ H1 { s1 with heap := h' } := I1.kept (t' := s1.toks) hk
    refine ⟨_, [s1.heap.objs.size + 1, s1.heap.objs.size], _, _, H1, rfl, I2, turn_enumT a (s1.heap.objs.size + 1) s1.heap.objs.size, ⟨⟨.none, he⟩, hit, Nat.succ_ne_self _⟩, fun b hb => ?_, q⟩
    have hle : s1.heap.objs.size ≤ b := by
      rcases List.mem_cons.mp hb with rfl | hb
      · omega
      · obtain rfl : b = s1.heap.objs.size := by simpa using hb
        omega
    exact I1.fpOk hle (I1.hok.fresh hle)
theorem for_enumT {K : PySem.W.Frag} {a : Addr} {xs : List V} {g : TG} {tb : TS} {D : Ends} {σ : L2.St} {H : Hp} (Pv : Nat → L2.St → Hp → Prop) (h0 : Pv 0 σ H)
    (hl : ∀ i σ H, i ≤ xs.length → Pv i σ H → SqT K H a xs)
    (hs : ∀ i x T σ H, xs[i]? = some x → Pv i σ H → H T = none → g (.ref T) σ (upd H T (.tup [.int (i : Nat), x])) fun σ2 H2 => tb { D with nx := Pv (i + 1), ct := Pv (i + 1), bk := D.nx } σ2 H2)
    (hd : ∀ σ H, Pv xs.length σ H → D.nx σ H) :
    ∃ W : Nat → Nat → L2.St → Hp → Prop, (∃ m, W 0 m σ H) ∧ ∀ i m σ H, W i m σ H →
      ((EtT K a).stop i H ∧ D.nx σ H) ∨ ((EtT K a).go i H ∧ ∃ N : L2.St → Hp → Prop, (∀ σ' H', N σ' H' → ∃ m', m' < m ∧ W (i + 1) m' σ' H') ∧
        ∀ x H', (EtT K a).yld i H x H' → g x σ H' fun σ2 H2 => tb { D with nx := N, ct := N, bk := D.nx } σ2 H2) := by
  refine ⟨fun i m σ H => m + i = xs.length ∧ Pv i σ H, ⟨xs.length, rfl, h0⟩, fun i m σ H ⟨hm, p⟩ => ?_⟩
  have q := hl i σ H (by omega) p
  cases e : xs[i]? with
  | none =>
    have hi : i = xs.length := by
      have := List.getElem?_eq_none_iff.mp e
      omega
    subst hi
    exact .inl ⟨⟨xs, q, rfl⟩, hd σ H p⟩
  | some x =>
    have hi := (List.getElem?_eq_some_iff.mp e).1
    refine .inr ⟨⟨xs, x, q, e⟩, Pv (i + 1), fun σ' H' p' => ⟨m - 1, by omega, by omega, p'⟩, fun v H' ⟨T, y, hv, hT, hH, hy⟩ => ?_⟩
    subst hv hH
    have ey := hy xs q
    rw [e] at ey
    cases ey
    exact hs i x T σ H e p hT
end Cs
set_option maxHeartbeats 4000000
namespace Cs
open PySem L2 PyProof.Rows
section
variable {X : Cx} {a b c d : Expr} {ta tb tc td : TE} {pos : Pos}
def tChain3 (r r' r'' : R2) (ta tb tc td : TE) : TE := fun σ H Q => ta σ H fun x H1 => tb σ H1 fun y H2 => r x y H2 fun z H3 => ∃ k, z = .bl k ∧
  if k = true then tc σ H3 fun w H4 => r' y w H4 fun z2 H5 => ∃ k2, z2 = .bl k2 ∧ if k2 = true then td σ H5 fun u H6 => r'' w u H6 Q else Q (.bl false) H5
  else Q (.bl false) H3
theorem pe_chain3 {op op' op'' : CmpOp} {r r' r'' : R2} (ho : OpR X (compareOp op) r) (ho' : OpR X (compareOp op') r') (ho'' : OpR X (compareOp op'') r'') (ha : PE X a ta) (hb : PE X b tb) (hc : PE X c tc) (hd : PE X d td)
    (hm : lastMarks [op, op', op''] [b, c, d] = false := by with_unfolding_all rfl) : PE X (.Compare a [op, op', op''] [b, c, d] pos) (tChain3 r r' r'' ta tb tc td) := by
  refine ⟨fun pins s σ H Q I h => Compare_chain (thn (ha.run pins s σ H _ I h) fun v s1 ⟨x, H1, I1, r1, q1⟩ => chain_link (thn (hb.run pins s1 σ H1 _ I1 q1) fun u s2 ⟨y, H2, I2, r2, q2⟩ => ?_)) hm⟩
  refine thn (ho pins s2 σ H2 x y v u _ I2 r1 r2 q2) fun e s3 ⟨z, H3, I3, r3, k, ez, q3⟩ => ?_
  subst ez
  cases r3
  refine wpAny_truthy_bool ?_
  cases k with
  | false => exact ite_ff ⟨.bl false, H3, I3, rfl, q3⟩
  | true =>
    refine ite_tt (chain_link (thn (hc.run pins s3 σ H3 _ I3 q3) fun u4 s4 ⟨z4, H4, I4, r4, q4⟩ => ?_))
    refine thn (ho' pins s4 σ H4 y z4 u u4 _ I4 r2 r4 q4) fun e5 s5 ⟨z5, H5, I5, r5, k5, ez5, q5⟩ => ?_
    subst ez5
    cases r5
    refine wpAny_truthy_bool ?_
    cases k5 with
    | false => exact ite_ff ⟨.bl false, H5, I5, rfl, q5⟩
    | true => exact ite_tt (chain_last (thn (hd.run pins s5 σ H5 _ I5 q5) fun u6 s6 ⟨z6, H6, I6, r6, q6⟩ => ho'' pins s6 σ H6 z4 z6 u4 u6 Q I6 r4 r6 q6))
/-- how often a flat thing stands among flat ones -/
def rCntF (K : PySem.W.Frag) : V → List V → Hp → VK → Prop := fun x vs H Q => ∃ (p : Addr) (xs : List V) (y : V), x = .ref p ∧ vs = [y] ∧ SqL K H p xs ∧ flatV y = true ∧ xs.all flatV = true ∧ Q (.int (xs.countP fun z => eqV z y : Nat)) H
theorem cnt_eqU {x : V} : ∀ {xs : List V} {us : List Value}, Vals xs us → xs.all flatV = true → us.countP (eqU x) = xs.countP fun y => eqV y x
  | _, _, .nil, _ => rfl
  | y :: xs, u :: us, .cons r t, f => by
    rw [List.all_cons, Bool.and_eq_true] at f
    rw [List.countP_cons, List.countP_cons, eqU_of r f.1, cnt_eqU t f.2]
theorem mt_countF : MtR X "list.count" (rCntF X.K) := by
  rintro pins s σ H x vs v us Q I rx rvs ⟨p, xs, y, rfl, rfl, hq, fy, fx, q⟩
  cases rx
  obtain ⟨u, rfl, ru⟩ := rvs.one
  obtain ⟨its, rv, ⟨⟨cls, dd, data, sl⟩, n, ho, hc, _, hd⟩, _⟩ := I.list hq
  obtain rfl : cls = .type "list" := hc
  obtain rfl : data = .seq its.toArray n := hd
  refine call_meets PySem.F.slot_list_count ⟨_, ho, rfl⟩ PySem.F.entry_list_count (PySem.F.args_list_count_2 _ _)
    (SeqAt.list_countAt p its.toArray n dd sl u (eqU y)) ⟨ho, fun z hz => mem_eqAt ru fy rv fx z (by simpa using hz), .int _, H, I.tok _, ⟨s.toks, ?_⟩, q⟩
  rw [show its.toArray.toList = its from rfl, cnt_eqU rv fx]

/-! one rule for each operator, whatever kind it meets -/
end
section
variable {X : Cx}
def opAdd := (op_add (X := X)).or ((op_add_str (X := X)).or ((op_cat (X := X)).or (op_catT (X := X))))
def opMul := (op_mul (X := X)).or (op_rep (X := X))
def opLe := (op_le (X := X)).or (op_le_str (X := X))
def opLt := (op_lt (X := X)).or (op_lt_str (X := X))
def opEq (hu : X.A.units + 64 < cLine) := (op_eq (X := X)).or (op_eqD hu)
def opNe (hu : X.A.units + 64 < cLine) := (op_ne (X := X)).or (op_neD hu)
def opIn := (op_in_seq (X := X)).or (op_in_sign (X := X))
def opNotIn := (op_notIn_seq (X := X)).or (op_notIn_sign (X := X))
def call_lenA := (call_len_seq (X := X)).or (call_len_str (X := X))
def callInt := (call_int1 (X := X)).or (call_int_str (X := X))
def slAny := (sl_list (X := X)).or ((sl_tupA (X := X)).or (sl_str (X := X)))
end

/-! ### heaps -/
def ExB (p : Addr) (H H' : Hp) : Prop := ∀ b o, b ≠ p → H b = some o → H' b = some o
theorem ExB.refl (p : Addr) (H : Hp) : ExB p H H := fun _ _ _ h => h
theorem ExB.trans {p : Addr} {H H1 H2 : Hp} (a : ExB p H H1) (b : ExB p H1 H2) : ExB p H H2 := fun c o n h => b c o n (a c o n h)
theorem ExB.of {p : Addr} {H H1 : Hp} (a : Same H H1) : ExB p H H1 := fun c o _ h => a c o h
theorem ExB.new {p t : Addr} {H : Hp} {o : HO} (h : H t = none) : ExB p H (upd H t o) := fun c u _ e => by
  rw [upd_ne (ne_of_none e h)]
  exact e
theorem ExB.put {p : Addr} {H : Hp} {o : HO} : ExB p H (upd H p o) := fun c u n e => by
  rw [upd_ne n]
  exact e
theorem same_new {t : Addr} {H : Hp} {o : HO} (h : H t = none) : Same H (upd H t o) := fun c u e => by
  rw [upd_ne (ne_of_none e h)]
  exact e
theorem upd_old {H : Hp} {t a : Addr} {o u : HO} (hn : H t = none) (h : H a = some u) : upd H t o a = some u := by
  rw [upd_ne (ne_of_none h hn)]
  exact h
theorem upd_mut {H : Hp} {t a : Addr} {o u v : HO} (ht : H t = some v) (d : u ≠ v) (h : H a = some u) : upd H t o a = some u := by
  rw [upd_ne (ne_of h ht d)]
  exact h
theorem upd_new {H : Hp} {t a : Addr} {o : HO} (h : upd H t o a = none) : H a = none := by
  unfold upd at h
  split at h
  · cases h
  · exact h
theorem sz1000 {n : Nat} (h : n ≤ 1000) : n ≤ sizeLine := Nat.le_trans h (by decide)
theorem len_le {xs : List V} {n : Nat} (h : xs.length = n) (z : n ≤ 1000) : xs.length ≤ sizeLine := by rw [h]; exact sz1000 z
theorem len2_le {xs ys : List V} {n : Nat} (h : xs.length + ys.length = n) (z : n ≤ 1000) : xs.length + ys.length ≤ sizeLine := by rw [h]; exact sz1000 z
theorem fin_b {Q : VK} {H H' : Hp} {b c : Bool} (k : ∀ H', Same H H' → Q (.bl b) H') (e : b = c) (s : Same H H') : Q (.bl c) H' := e ▸ k H' s
theorem same_tr {H H1 H2 : Hp} (b : Same H1 H2) (a : Same H H1) : Same H H2 := a.trans b
theorem same_none {H H' : Hp} {a : Addr} (s : Same H H') (h : H' a = none) : H a = none := s.free h

/-! ### data -/
theorem rd_keep {H H' : Hp} {a : Addr} {u : HO} (e : ∀ o, H a = some o → H' a = some o) (h : Rd H a u) : Rd H' a u := by
  rcases h with h | ⟨o, h⟩
  · exact .inl (e _ h)
  · exact .inr ⟨o, e _ h⟩
theorem SqT.rd {K : PySem.W.Frag} {H : Hp} {a : Addr} {xs : List V} (h : Rd H a (.tup xs)) : SqT K H a xs := .inl h
theorem Rd.back {H H' : Hp} {a : Addr} {u : HO} (s : Same H H') (h : Rd H a u) : Rd H' a u := rd_keep (fun o q => s _ o q) h
theorem Rd.same {H H' : Hp} {a : Addr} {u : HO} (h : Rd H a u) (s : Same H H') : Rd H' a u := rd_keep (fun o q => s _ o q) h
mutual
/-- v tells the data d; lists and tuples stand at addresses that H knows, none of them p -/
inductive Rp (p : Addr) (H : Hp) : V → PyData → Prop
  | non : Rp p H .non .none
  | bl (b : Bool) : Rp p H (.bl b) (.bool b)
  | int (i : Int) : Rp p H (.int i) (.int i)
  | str (x : Str) (h : x.length ≤ 1000) : Rp p H (.str x) (.str x)
  | lst {a : Addr} {xs : List V} {ds : List PyData} (n : a ≠ p) (h : H a = some (.lst xs)) (z : xs.length ≤ 1000) (r : RpA p H xs ds) : Rp p H (.ref a) (.list ds)
  | tup {a : Addr} {xs : List V} {ds : List PyData} (n : a ≠ p) (h : Rd H a (.tup xs)) (z : xs.length ≤ 1000) (r : RpA p H xs ds) : Rp p H (.ref a) (.tuple ds)
  | dct {a : Addr} (n : a ≠ p) (h : H a = some (.dK [])) : Rp p H (.ref a) (.dict [])
inductive RpA (p : Addr) (H : Hp) : List V → List PyData → Prop
  | nil : RpA p H [] []
  | cons {v : V} {vs : List V} {d : PyData} {ds : List PyData} (h : Rp p H v d) (t : RpA p H vs ds) : RpA p H (v :: vs) (d :: ds)
end
mutual
theorem Rp.keep {p : Addr} {H H' : Hp} (e : ExB p H H') : ∀ {v : V} {d : PyData}, Rp p H v d → Rp p H' v d
  | _, _, .non => .non
  | _, _, .bl b => .bl b
  | _, _, .int i => .int i
  | _, _, .str x h => .str x h
  | _, _, .lst n h z r => .lst n (e _ _ n h) z (RpA.keep e r)
  | _, _, .tup n h z r => .tup n (rd_keep (fun o q => e _ o n q) h) z (RpA.keep e r)
  | _, _, .dct n h => .dct n (e _ _ n h)
theorem RpA.keep {p : Addr} {H H' : Hp} (e : ExB p H H') : ∀ {vs : List V} {ds : List PyData}, RpA p H vs ds → RpA p H' vs ds
  | _, _, .nil => .nil
  | _, _, .cons h t => .cons (Rp.keep e h) (RpA.keep e t)
end
theorem RpA.length {p : Addr} {H : Hp} : ∀ {vs : List V} {ds : List PyData}, RpA p H vs ds → vs.length = ds.length
  | _, _, .nil => rfl
  | _, _, .cons _ t => by rw [List.length_cons, List.length_cons, RpA.length t]
theorem RpA.get {p : Addr} {H : Hp} : ∀ {vs : List V} {ds : List PyData} {i : Nat} {v : V}, RpA p H vs ds → vs[i]? = some v → ∃ d, ds[i]? = some d ∧ Rp p H v d
  | _, _, _, _, .nil, e => by simp at e
  | _, _, 0, _, .cons h _, e => by
    obtain rfl := Option.some.inj e
    exact ⟨_, rfl, h⟩
  | _, _, i + 1, v, .cons _ t, e => RpA.get (i := i) t e
theorem RpA.append {p : Addr} {H : Hp} : ∀ {vs ws : List V} {ds es : List PyData}, RpA p H vs ds → RpA p H ws es → RpA p H (vs ++ ws) (ds ++ es)
  | _, _, _, _, .nil, s => s
  | _, _, _, _, .cons h t, s => .cons h (RpA.append t s)
/-- the built-in class of data -/
def tyD : PyData → String
  | .none => "NoneType" | .bool _ => "bool" | .int _ => "int" | .str _ => "str" | .list _ => "list" | .tuple _ => "tuple" | .dict _ => "dict"
theorem Rp.ty {K : PySem.W.Frag} {p : Addr} {H : Hp} {v : V} {d : PyData} (r : Rp p H v d) : TyX K H v (.type (tyD d)) := by
  cases r with
  | non => exact .base .non
  | bl b => exact .base (.bl b)
  | int i => exact .base (.int i)
  | str x => exact .base (.str x)
  | lst n h z r => exact .base (.lst h)
  | tup n h z r =>
    rcases h with h | ⟨o, h⟩
    · exact .base (.tup h)
    · exact .fTuple h
  | dct n h => exact .base (.dK h)
def isInt : PyData → Bool
  | .int _ => true
  | _ => false
def isBl : PyData → Bool
  | .bool _ => true
  | _ => false
def isStr : PyData → Bool
  | .str _ => true
  | _ => false
def isTup : PyData → Bool
  | .tuple _ => true
  | _ => false
theorem kit_int {K : PySem.W.Frag} {d : PyData} : PySem.W.kitOne K (.type (tyD d)) (.type "int") = some (isInt d || isBl d) := by cases d <;> exact kit_ty (by show L2.kitB _ _ = some _; simp only [tyD, isInt, isBl]; decide +kernel)
theorem kit_bool {K : PySem.W.Frag} {d : PyData} : PySem.W.kitOne K (.type (tyD d)) (.type "bool") = some (isBl d) := by cases d <;> exact kit_ty (by simp only [tyD, isBl]; decide +kernel)
theorem kit_str {K : PySem.W.Frag} {d : PyData} : PySem.W.kitOne K (.type (tyD d)) (.type "str") = some (isStr d) := by cases d <;> exact kit_ty (by simp only [tyD, isStr]; decide +kernel)
theorem kit_tup {K : PySem.W.Frag} {d : PyData} : PySem.W.kitOne K (.type (tyD d)) (.type "tuple") = some (isTup d) := by cases d <;> exact kit_ty (by simp only [tyD, isTup]; decide +kernel)
def isTupN (n : Nat) : PyData → Bool
  | .tuple ds => decide (ds.length = n)
  | _ => false
def isPair : PyData → Bool
  | .tuple [a, b] => isInt a && isInt b
  | _ => false
def letterC (c : Nat) : Bool := decide (97 ≤ c) && decide (c ≤ 122)
def isName : PyData → Bool
  | .str x => (decide (1 ≤ x.length) && decide (x.length ≤ 8)) && x.cps.toList.all letterC
  | _ => false
def isSpan (lo hi : Int) : PyData → Bool
  | .tuple [.int a, .int b] => decide (lo ≤ a) && (decide (a ≤ b) && decide (b ≤ hi))
  | _ => false
def isRow (n : Nat) : PyData → Bool
  | .tuple [nm, .tuple ss] => isName nm && (decide (ss.length = n) && ss.all (isSpan (-10000) 10000))
  | _ => false
def SpTN : Sp := fun vs H Q _ => ∃ p v d n, vs = [v, .int ((n : Nat) : Int)] ∧ Rp p H v d ∧ ∀ H', Same H H' → Q (.bl (isTupN n d)) H'
def SpSpan : Sp := fun vs H Q _ => ∃ p v d lo hi, vs = [v, .int lo, .int hi] ∧ Rp p H v d ∧ ∀ H', Same H H' → Q (.bl (isSpan lo hi d)) H'
def SpRow : Sp := fun vs H Q _ => ∃ p v d n, vs = [v, .int ((n : Nat) : Int)] ∧ Rp p H v d ∧ ∀ H', Same H H' → Q (.bl (isRow n d)) H'
theorem isPair_not {d : PyData} (h : isPair d = false) (lo hi : Int) : isSpan lo hi d = false := by
  unfold isSpan
  split
  · simp [isPair, isInt] at h
  · rfl
theorem vint_eq {a b : Nat} : decide (V.int ((a : Nat) : Int) = V.int ((b : Nat) : Int)) = decide (a = b) := by
  by_cases h : a = b
  · subst h
    rw [decide_eq_true rfl, decide_eq_true rfl]
  · rw [decide_eq_false h, decide_eq_false fun e => h (by injection e with e; omega)]
theorem one_lt {a b : Nat} : (([a] : List Nat) < [b]) ↔ a < b := by
  rw [List.cons_lt_cons_iff]
  constructor
  · rintro (h | ⟨_, h⟩)
    · exact h
    · exact absurd h (List.not_lt_nil _)
  · exact .inl
theorem letter_lo (c : Nat) : (!decide (([c] : List Nat) < [97])) = decide (97 ≤ c) := by
  rw [decide_eq_decide.mpr one_lt]
  by_cases h : 97 ≤ c
  · rw [decide_eq_true h, decide_eq_false (by omega)]; rfl
  · rw [decide_eq_false h, decide_eq_true (by omega)]; rfl
theorem letter_hi (c : Nat) : (!decide (([122] : List Nat) < [c])) = decide (c ≤ 122) := by
  rw [decide_eq_decide.mpr one_lt]
  by_cases h : c ≤ 122
  · rw [decide_eq_true h, decide_eq_false (by omega)]; rfl
  · rw [decide_eq_false h, decide_eq_true (by omega)]; rfl
/-- a value that is just given back -/
def SpB (f : PyData → Bool) : Sp := fun vs H Q _ => ∃ p v d, vs = [v] ∧ Rp p H v d ∧ ∀ H', Same H H' → Q (.bl (f d)) H'

/-! ### comprehensions that keep what there was -/
section
variable {K : PySem.W.Frag} {a : Addr} {te : TE} {vs : List Nat} {σ : L2.St} {H1 : Hp} {Q : VK} {g : TG} {tl : TE}
theorem lc_txt {x : Str} {ys : List V} (hl : ys.length = x.cps.size) (hz : x.length ≤ 1000) (ht : ∀ R : VK, R (.str x) H1 → tl σ H1 R)
    (hs : ∀ (j : Nat) (c : Nat) (y : V) (H : Hp), x.cps[j]? = some c → ys[j]? = some y → Same H1 H → ∀ R : VK, (∀ H3, Same H H3 → R y H3) →
      g (.str ⟨#[c]⟩) (wipe σ vs) H fun σ2 H2 => wipe σ2 vs = wipe σ vs ∧ te σ2 H2 R)
    (k : ∀ D H', H1 D = none → Same H1 H' → H' D = some (.lst ys) → Q (.ref D) H') : tLc (iStr tl) g tYes te vs σ H1 Q := by
  refine ht _ ⟨x, rfl, fun D hD => ?_⟩
  refine ⟨fun i m H => m + i = x.cps.size ∧ Same H1 H ∧ H D = some (.lst (ys.take i)), ⟨x.cps.size, rfl, same_new hD, upd_same⟩, fun i m H ⟨hm, sm, hd⟩ => ?_⟩
  by_cases hi : i < x.cps.size
  · refine .inr ⟨hi, fun H' => Same H1 H' ∧ H' D = some (.lst (ys.take (i + 1))), fun H' ⟨s', d'⟩ => ⟨m - 1, by omega, by omega, s', d'⟩, fun v H' ⟨e1, c, e2, e3⟩ => ?_⟩
    subst e1 e3
    have hy : i < ys.length := by omega
    have key := hs i c ys[i] H' e2 (List.getElem?_eq_getElem hy) sm (fun y H4 => ∃ acc, H4 D = some (.lst acc) ∧ acc.length < sizeLine ∧ Same H1 (upd H4 D (.lst (acc ++ [y]))) ∧ upd H4 D (.lst (acc ++ [y])) D = some (.lst (ys.take (i + 1)))) fun H3 s3 => ?_
    · exact key
    · refine ⟨ys.take i, s3 _ _ hd, ?_, fun b o e => ?_, ?_⟩
      · have q : x.length = x.cps.size := rfl
        rw [List.length_take]
        exact Nat.lt_of_le_of_lt (Nat.le_trans (Nat.min_le_right _ _) (by omega : ys.length ≤ 1000)) (by decide)
      · rw [upd_ne (ne_of_none e hD)]
        exact s3 _ _ (sm _ _ e)
      · rw [upd_same, List.take_succ, List.getElem?_eq_getElem hy]
        rfl
  · have e : i = x.cps.size := by omega
    subst e
    refine .inl ⟨Nat.le_refl _, k D H hD sm ?_⟩
    rw [hd, List.take_of_length_le (by omega)]
theorem lc_tupM {xs ys : List V} (hx : SqT K H1 a xs) (hl : ys.length = xs.length) (hz : xs.length ≤ 1000) (ht : ∀ R : VK, R (.ref a) H1 → tl σ H1 R)
    (hs : ∀ (j : Nat) (z y : V) (H : Hp), xs[j]? = some z → ys[j]? = some y → Same H1 H → ∀ R : VK, (∀ H3, Same H H3 → R y H3) →
      g z (wipe σ vs) H fun σ2 H2 => wipe σ2 vs = wipe σ vs ∧ te σ2 H2 R)
    (k : ∀ D H', H1 D = none → Same H1 H' → H' D = some (.lst ys) → Q (.ref D) H') : tLc (iTup K tl) g tYes te vs σ H1 Q := by
  have hT : ∀ {H}, Same H1 H → SqT K H a xs := fun {H} e => by
    rcases hx with (h | ⟨o, h⟩) | h
    · exact .inl (.inl (e _ _ h))
    · exact .inl (.inr ⟨o, e _ _ h⟩)
    · exact .inr h
  refine ht _ ⟨a, rfl, ⟨xs, hx⟩, fun D hD => ?_⟩
  refine lc_tup (K := K) (a := a) (xs := xs) (fun i H => Same H1 H ∧ H D = some (.lst (ys.take i))) ⟨same_new hD, upd_same⟩ (fun i H _ p => hT p.1) (fun i z H hi ⟨sm, hd⟩ => ?_) (fun H ⟨sm, hd⟩ => k D H hD sm ?_)
  · have hi2 := (List.getElem?_eq_some_iff.mp hi).1
    have hy : i < ys.length := by omega
    have key := hs i z ys[i] H hi (List.getElem?_eq_getElem hy) sm (fun y H4 => ∃ acc, H4 D = some (.lst acc) ∧ acc.length < sizeLine ∧ Same H1 (upd H4 D (.lst (acc ++ [y]))) ∧ upd H4 D (.lst (acc ++ [y])) D = some (.lst (ys.take (i + 1)))) fun H3 s3 => ?_
    · exact key
    · refine ⟨ys.take i, s3 _ _ hd, ?_, fun b o e => ?_, ?_⟩
      · rw [List.length_take]
        exact Nat.lt_of_le_of_lt (Nat.le_trans (Nat.min_le_right _ _) (by omega : ys.length ≤ 1000)) (by decide)
      · rw [upd_ne (ne_of_none e hD)]
        exact s3 _ _ (sm _ _ e)
      · rw [upd_same, List.take_succ, List.getElem?_eq_getElem hy]
        rfl
  · rw [hd, List.take_of_length_le (by omega)]
end
end Cs
set_option maxHeartbeats 4000000
local macro_rules | `(tactic| walk_at "hp") => `(tactic| first
  | assumption
  | with_reducible exact L2.upd_same
  | with_reducible exact Cs.upd_old (by assumption) (by assumption)
  | (with_reducible refine Cs.upd_old (by first | assumption | exact Cs.upd_new (by assumption)) ?_; walk_at "hp")
  | (with_reducible refine Cs.upd_mut (by walk_at "hp") (by intro z; cases z) ?_; walk_at "hp")
  | exact (by assumption : L2.Same _ _) _ _ (by walk_at "hp"))
local macro_rules | `(tactic| walk_at "rp") => `(tactic| first
  | assumption
  | exact Cs.Rp.keep (Cs.ExB.of (by assumption)) (by walk_at "rp"))
local macro_rules | `(tactic| walk_at "sm") => `(tactic| first
  | assumption
  | exact L2.Same.refl _
  | exact Cs.same_new (by assumption)
  | exact Cs.same_tr (by assumption) (by walk_at "sm")
  | exact Cs.same_tr (Cs.same_new (by assumption)) (by walk_at "sm"))
local macro_rules | `(tactic| walk_at "hz") => `(tactic| first
  | with_reducible assumption
  | exact Cs.Rd.back (by with_reducible assumption) (by with_reducible assumption)
  | exact Cs.Rd.back (by with_reducible assumption) (Cs.Rd.back (by with_reducible assumption) (by with_reducible assumption))
  | exact Cs.Rd.back (by with_reducible assumption) (Cs.Rd.back (by with_reducible assumption) (Cs.Rd.back (by with_reducible assumption) (by with_reducible assumption)))
  | exact Or.inl (by with_reducible assumption)
  | exact Or.inl (by with_reducible exact L2.upd_same)
  | exact Or.inl ((by with_reducible assumption : L2.Same _ _) _ _ (by with_reducible assumption)))
local macro_rules | `(tactic| walk_at "e") => `(tactic| first
  | refine ⟨_, rfl, ?_⟩
  | refine ⟨_, _, rfl, rfl, ?_⟩
  | refine Or.inr (Or.inl ⟨_, _, _, _, rfl, rfl, (Cs.SqT.rd (by walk_at "hz")), rfl, ?_⟩)
  | refine Or.inl ⟨_, _, rfl, Or.inr (Cs.SqT.rd (by walk_at "hz")), ?_⟩
  | refine ⟨_, _, rfl, (Cs.SqT.rd (by walk_at "hz")), rfl, ?_⟩
  | refine ⟨_, _, _, _, rfl, rfl, L2.SqL.of (by walk_at "hp"), rfl, ?_⟩
  | refine ⟨_, _, _, _, rfl, rfl, (by walk_at "hp"), rfl, ?_⟩
  | refine Or.inl ⟨_, rfl, ?_⟩
  | refine Or.inl ⟨rfl, ?_⟩
  | refine Or.inl ⟨_, _, rfl, rfl, ?_⟩
  | refine Or.inl ⟨_, _, _, _, rfl, rfl, L2.SqL.of (by walk_at "hp"), rfl, ?_⟩
  | refine Or.inr ⟨_, rfl, Cs.sz1000 (by assumption), ?_⟩
  | refine Or.inr ⟨_, _, rfl, rfl, ?_⟩
  | refine Or.inl ⟨_, _, rfl, Or.inl (L2.SqL.of (by walk_at "hp")), ?_⟩
  | refine ⟨_, _, _, _, _, rfl, .ty _, Cs.Rp.ty (by walk_at "rp"), (by first | exact Cs.kit_int | exact Cs.kit_bool | exact Cs.kit_str | exact Cs.kit_tup), ?_⟩
  | refine ⟨_, _, _, rfl, (by walk_at "rp"), fun _ _ => ?_⟩
  | refine ⟨_, _, _, _, rfl, (by walk_at "rp"), fun _ _ => ?_⟩
  | refine ⟨_, _, _, _, _, rfl, (by walk_at "rp"), fun _ _ => ?_⟩
  | refine ⟨_, _, rfl, ?_⟩
  | refine And.intro rfl ?_
  | refine And.intro (by first | decide | (dsimp only; decide)) ?_
  | refine And.intro (by first | assumption | (dsimp only; assumption)) ?_
  | refine And.intro (Or.inr ⟨by decide, by decide⟩) ?_
  | refine And.intro (Or.inl ⟨by omega, by omega⟩) ?_
  | refine And.intro ⟨by decide, by decide⟩ ?_
  | refine And.intro ⟨by assumption, by assumption⟩ ?_)
local macro_rules | `(tactic| walk_at "es") => `(tactic| repeat (walk_at "e"))
namespace Cs
open PySem L2 PyProof.Rows
def topS (i : Nat) : Stmt := PySem.Challenge.pw_cornersure_k53_whole_webs_made_and_told.main.body.getD i (.Pass ⟨0, 0, 0, 0⟩)
structure DefAt (K : PySem.W.Frag) (mg : Str → Option Value) (x : Str) (st : Stmt) (ps : List Str) : Prop where
  ex : ∃ (f : Addr) (fd : FuncData), FunD K x x (defArgs st) (defBody st) (defScope st) [] [] f fd ∧ mg x = some (.ref f) ∧ Binds K fd ps []
/-- what the module has not, so that a built-in is meant; its numbers -/
structure Txt (mg : Str → Option Value) : Prop where
  len_ : mg "len" = none
  isinstance_ : mg "isinstance" = none
  int_ : mg "int" = none
  str_ : mg "str" = none
  bool_ : mg "bool" = none
  tuple_ : mg "tuple" = none
  list_ : mg "list" = none
  all_ : mg "all" = none
  abs_ : mg "abs" = none
  divmod_ : mg "divmod" = none
  range_ : mg "range" = none
  enumerate_ : mg "enumerate" = none
  repr_ : mg "repr" = none
/-- sums -/
structure TxtS (mg : Str → Option Value) : Prop where
  sum_ : mg "sum" = none
  min_ : mg "min" = none
  max_ : mg "max" = none
/-- the greatest weight -/
structure TxtW (mg : Str → Option Value) : Prop where
  c_MOST_WEIGHT : ∃ u, mg "MOST_WEIGHT" = some u ∧ RelV (.int 1000) u
section
variable {P : Program} {w : World} {K : PySem.W.Frag} {mg : Str → Option Value} {base : Heap}
theorem DefAt.cal {x : Str} {st : Stmt} {N ps : List Str} {k : Nat} {sp : Sp} (D : DefAt K mg x st ps) (S : FnScope N ps (defScope st)) (len : ∀ vs H Q E, sp vs H Q E → vs.length = ps.length)
    (hbody : ∀ (f : Addr) (cdv : Value) (A : Around) (outer : List Env) (s : Shared) (H : Hp) (vs : List V) (Q : VK) (E : XK), Room k (A.deeper (envOfC x (defScope st) s.heap.objs.size f cdv)) → sp vs H Q E →
      ∃ t, PSs (cxOf CX0 P w K mg base N x (defScope st) f cdv A outer s H E).nox (defBody st) t ∧ t { nx := fun _ H' => Q .non H', rt := Q } (start N vs) H) : C8.Cal P w K mg base (k + 1) x sp [] := by
  obtain ⟨f, fd, F, g, b⟩ := D.ex
  refine ⟨f, fd, ps, [], F.ok S len fun cdv A outer s H vs Q E hr h => ?_, g, F.kp, b, .nil⟩
  obtain ⟨t, h1, h2⟩ := hbody f cdv A outer s H vs Q E hr h
  exact ⟨t, h1.nox, h2⟩
/-! ### kinds -/
theorem sc_is_integer : FnScope ["value"] ["value"] (defScope (topS 11)) := ⟨rfl, rfl, rfl, by decide +kernel, rfl, by decide +kernel, by decide +kernel⟩
theorem ok_is_integer (D : DefAt K mg "is_integer" (topS 11) ["value"]) (T : Txt mg) : C8.Cal P w K mg base 1 "is_integer" (SpB isInt) [] := by
  refine D.cal sc_is_integer (fun vs H Q E h => by obtain ⟨p, v, d, rfl, _⟩ := h; rfl) fun f cdv A outer s H vs Q E hr h => ?_
  obtain ⟨p, v, d, rfl, r, k⟩ := h
  refine ⟨_, (pss_one (ps_ret (pe_and (pe_callB call_isi (by rfl) T.isinstance_ (by decide +kernel) (pa_cons (pv 0) (pa_cons (pe_bltn (v := .ty "int") (u := .type "int") (by rfl) T.int_ (by decide +kernel) rfl) pa_nil))) (pe_one (pe_not (pe_callB call_isi (by rfl) T.isinstance_ (by decide +kernel) (pa_cons (pv 0) (pa_cons (pe_bltn (v := .ty "bool") (u := .type "bool") (by rfl) T.bool_ (by decide +kernel) rfl) pa_nil)))))))), ?_⟩
  walk_at "es"
  have e : isInt d = (if isInt d || isBl d then !isBl d else false) := by cases d <;> rfl
  refine ite2 (fun h => ?_) (fun h => ?_)
  · walk_at "es"
    have q := k H (Same.refl H)
    rw [e, if_pos h] at q
    exact q
  · have q := k H (Same.refl H)
    rw [e, if_neg h] at q
    exact q
theorem sc_is_tuple_of : FnScope ["value", "many"] ["value", "many"] (defScope (topS 12)) := ⟨rfl, rfl, rfl, by decide +kernel, rfl, by decide +kernel, by decide +kernel⟩
theorem ok_is_tuple_of (D : DefAt K mg "is_tuple_of" (topS 12) ["value", "many"]) (T : Txt mg) : C8.Cal P w K mg base 1 "is_tuple_of" SpTN [] := by
  refine D.cal sc_is_tuple_of (fun vs H Q E h => by obtain ⟨p, v, d, n, rfl, _⟩ := h; rfl) fun f cdv A outer s H vs Q E hr h => ?_
  obtain ⟨p, v, d, n, rfl, r, k⟩ := h
  have hu64 := hr.units
  refine ⟨_, (pss_one (ps_ret (pe_and (pe_callB call_isi (by rfl) T.isinstance_ (by decide +kernel) (pa_cons (pv 0) (pa_cons (pe_bltn (v := .ty "tuple") (u := .type "tuple") (by rfl) T.tuple_ (by decide +kernel) rfl) pa_nil))) (pe_one (pe_cmpR (opEq hu64) (pe_callB call_lenA (by rfl) T.len_ (by decide +kernel) (pa_cons (pv 0) pa_nil)) (pv 1) (nomark _)))))), ?_⟩
  walk_at "es"
  have q := k H (Same.refl H)
  cases r with
  | @tup a xs ds nn h z ra =>
    refine iteT ?_
    walk_at "es"
    show Q (V.bl (decide (V.int ((xs.length : Nat) : Int) = V.int ((n : Nat) : Int)))) H
    rw [vint_eq, ra.length]
    exact q
  | _ => exact iteF q
theorem sc_is_pair_of_integers : FnScope ["value"] ["value"] (defScope (topS 13)) := ⟨rfl, rfl, rfl, by decide +kernel, rfl, by decide +kernel, by decide +kernel⟩
theorem ok_is_pair_of_integers (D : DefAt K mg "is_pair_of_integers" (topS 13) ["value"]) (T : Txt mg) (cis_tuple_of : C8.Cal P w K mg base 1 "is_tuple_of" SpTN []) (cis_integer : C8.Cal P w K mg base 1 "is_integer" (SpB isInt) []) :
    C8.Cal P w K mg base 2 "is_pair_of_integers" (SpB isPair) [] := by
  refine D.cal sc_is_pair_of_integers (fun vs H Q E h => by obtain ⟨p, v, d, rfl, _⟩ := h; rfl) fun f cdv A outer s H vs Q E hr h => ?_
  obtain ⟨p, v, d, rfl, r, k⟩ := h
  have hu64 := hr.units
  refine ⟨_, (pss_one (ps_ret (pe_and (C8.pe_c cis_tuple_of hr (by decide) rfl (pa_cons (pv 0) (pa_cons pe_int pa_nil))) (pe_and (C8.pe_c cis_integer hr (by decide) rfl (pa_cons (pe_ix ix_seq (pv 0) pe_int (fun _ _ => rfl)) pa_nil)) (pe_one (C8.pe_c cis_integer hr (by decide) rfl (pa_cons (pe_ix ix_seq (pv 0) pe_int (fun _ _ => rfl)) pa_nil))))))), ?_⟩
  walk_at "e"
  refine ⟨p, v, d, 2, rfl, r, fun H1 s1 => ?_⟩
  walk_at "es"
  cases hd : isTupN 2 d with
  | false =>
    have e : isPair d = false := by
      unfold isPair
      split
      · simp [isTupN] at hd
      · rfl
    have q := k H1 s1
    rw [e] at q
    exact iteF q
  | true =>
    cases r with
    | @tup a xs ds nn h z ra =>
      cases ra with
      | nil => simp [isTupN] at hd
      | @cons v1 vs1 d1 ds1 r1 ra =>
        cases ra with
        | nil => simp [isTupN] at hd
        | @cons v2 vs2 d2 ds2 r2 ra =>
          cases ra with
          | cons _ _ => simp [isTupN] at hd
          | nil =>
            refine iteT ?_
            walk_at "es"
            walk_at "es"
            refine ite2 (fun e1 => ?_) (fun e1 => ?_)
            · walk_at "es"
              exact fin_b k (by simp_all [isPair]) (by walk_at "sm")
            · exact fin_b k (by simp_all [isPair]) (by walk_at "sm")
    | _ => simp [isTupN] at hd
theorem sc_is_stretch : FnScope ["value", "least", "most", "low", "high"] ["value", "least", "most"] (defScope (topS 17)) := ⟨rfl, rfl, rfl, by decide +kernel, rfl, by decide +kernel, by decide +kernel⟩
theorem ok_is_stretch (D : DefAt K mg "is_stretch" (topS 17) ["value", "least", "most"]) (cis_pair_of_integers : C8.Cal P w K mg base 2 "is_pair_of_integers" (SpB isPair) []) :
    C8.Cal P w K mg base 3 "is_stretch" SpSpan [] := by
  refine D.cal sc_is_stretch (fun vs H Q E h => by obtain ⟨p, v, d, lo, hi, rfl, _⟩ := h; rfl) fun f cdv A outer s H vs Q E hr h => ?_
  obtain ⟨p, v, d, lo, hi, rfl, r, k⟩ := h
  have nd := sc_is_stretch.nd
  refine ⟨_, (pss_cons (ps_if (pt_not (pt_val (C8.pe_c cis_pair_of_integers hr (by decide) rfl (pa_cons (pv 0) pa_nil)))) (pss_one (ps_ret pe_bl)) pss_nil)
      (pss_cons (ps_asg (pv 0) (pg_tup (by rfl) (pgs_cons (pg_name (i := 3) nd rfl (.inl rfl)) (pgs_cons (pg_name (i := 4) nd rfl (.inl rfl)) pgs_nil))))
      (pss_one (ps_ret (pe_chain3 opLe opLe opLe (pv 1) (pv 3) (pv 4) (pv 2)))))), ?_⟩
  walk_at "es"
  cases hd : isPair d with
  | false =>
    refine iteT ?_
    exact fin_b k (isPair_not hd _ _) (by walk_at "sm")
  | true =>
    refine iteF ?_
    cases r with
    | @tup a xs ds nn h z ra =>
      cases ra with
      | nil => simp [isPair] at hd
      | @cons v1 vs1 d1 ds1 r1 ra =>
        cases ra with
        | nil => simp [isPair] at hd
        | @cons v2 vs2 d2 ds2 r2 ra =>
          cases ra with
          | cons _ _ => simp [isPair] at hd
          | nil =>
            cases r1 with
            | int i =>
              cases r2 with
              | int j =>
                walk_at "es"
                refine ite2 (fun e1 => ?_) (fun e1 => ?_)
                · walk_at "es"
                  refine ite2 (fun e2 => ?_) (fun e2 => ?_)
                  · walk_at "es"
                    exact fin_b k (by show (decide _ && (decide _ && decide _)) = _; rw [e1, e2]; rfl) (by walk_at "sm")
                  · exact fin_b k (by show (decide _ && (decide _ && decide _)) = _; rw [e1, eq_false_of_ne_true e2]; rfl) (by walk_at "sm")
                · exact fin_b k (by show (decide _ && (decide _ && decide _)) = _; rw [eq_false_of_ne_true e1]; rfl) (by walk_at "sm")
              | _ => simp [isPair, isInt] at hd
            | _ => simp [isPair, isInt] at hd
    | _ => simp [isPair] at hd
end
end Cs
set_option maxHeartbeats 4000000
/-! Expressions that are data: what they tell, while the pail at p and all else stand. -/
namespace Cs
open PySem L2 PyProof.Rows
def Has (p : Addr) (H : Hp) : Prop := ∃ o, H p = some o
theorem Has.keep {p : Addr} {H H' : Hp} (h : Has p H) (s : Same H H') : Has p H' := by
  obtain ⟨o, e⟩ := h
  exact ⟨o, s _ _ e⟩
theorem Has.ne {p t : Addr} {H : Hp} (h : Has p H) (n : H t = none) : t ≠ p := by
  obtain ⟨o, e⟩ := h
  intro z
  rw [z, e] at n
  cases n
abbrev DF := L2.St → Hp → PyData → Prop
abbrev DFs := L2.St → Hp → List PyData → Prop
def tDat (p : Addr) (f : DF) : TE := fun σ H Q => Has p H ∧ ∃ d, f σ H d ∧ ∀ v H', Same H H' → Rp p H' v d → Q v H'
def tDats (p : Addr) (f : DFs) : TA := fun σ H Q => Has p H ∧ ∃ ds, f σ H ds ∧ ∀ vs H', Same H H' → RpA p H' vs ds → Q vs H'
theorem tdat {p : Addr} {f : DF} {σ : L2.St} {H : Hp} {Q : VK} {d : PyData} (hp : Has p H) (hf : f σ H d) (k : ∀ v H', Same H H' → Rp p H' v d → Q v H') : tDat p f σ H Q := ⟨hp, d, hf, k⟩
structure PD (X : Cx) (e : Expr) (p : Addr) (f : DF) : Prop where
  pe : PE X e (tDat p f)
  mono : ∀ σ H H' d, Same H H' → f σ H d → f σ H' d
structure PDs (X : Cx) (es : List Expr) (p : Addr) (f : DFs) : Prop where
  pa : PA X es (tDats p f)
  mono : ∀ σ H H' d, Same H H' → f σ H d → f σ H' d
theorem pe_wk {X : Cx} {e : Expr} {t t' : TE} (h : PE X e t) (w : ∀ σ H Q, t' σ H Q → t σ H Q) : PE X e t' := ⟨fun pins s σ H Q I q => h.run pins s σ H Q I (w σ H Q q)⟩
theorem pa_wk {X : Cx} {es : List Expr} {t t' : TA} (h : PA X es t) (w : ∀ σ H Q, t' σ H Q → t σ H Q) : PA X es t' := ⟨fun pos pins s σ H Q I q => h.run pos pins s σ H Q I (w σ H Q q)⟩
theorem Rp.int_inv {p : Addr} {H : Hp} {v : V} {i : Int} (r : Rp p H v (.int i)) : v = .int i := by cases r; rfl
theorem Rp.str_inv {p : Addr} {H : Hp} {v : V} {x : Str} (r : Rp p H v (.str x)) : v = .str x := by cases r; rfl
theorem Rp.lst_inv {p : Addr} {H : Hp} {v : V} {ds : List PyData} (r : Rp p H v (.list ds)) : ∃ a xs, v = .ref a ∧ a ≠ p ∧ H a = some (.lst xs) ∧ xs.length ≤ 1000 ∧ RpA p H xs ds := by
  cases r with
  | lst n h z r => exact ⟨_, _, rfl, n, h, z, r⟩
theorem Rp.tup_inv {p : Addr} {H : Hp} {v : V} {ds : List PyData} (r : Rp p H v (.tuple ds)) : ∃ a xs, v = .ref a ∧ a ≠ p ∧ Rd H a (.tup xs) ∧ xs.length ≤ 1000 ∧ RpA p H xs ds := by
  cases r with
  | tup n h z r => exact ⟨_, _, rfl, n, h, z, r⟩
theorem RpA.take {p : Addr} {H : Hp} : ∀ {vs : List V} {ds : List PyData} (n : Nat), RpA p H vs ds → RpA p H (vs.take n) (ds.take n)
  | _, _, 0, _ => .nil
  | _, _, n + 1, .nil => .nil
  | _, _, n + 1, .cons h t => .cons h (RpA.take n t)
theorem RpA.drop {p : Addr} {H : Hp} : ∀ {vs : List V} {ds : List PyData} (n : Nat), RpA p H vs ds → RpA p H (vs.drop n) (ds.drop n)
  | _, _, 0, h => h
  | _, _, n + 1, .nil => .nil
  | _, _, n + 1, .cons h t => RpA.drop n t
theorem RpA.rep {p : Addr} {H : Hp} {vs : List V} {ds : List PyData} (r : RpA p H vs ds) : ∀ (n : Nat), RpA p H (List.replicate n vs).flatten (List.replicate n ds).flatten
  | 0 => .nil
  | n + 1 => by
    rw [List.replicate_succ, List.replicate_succ, List.flatten_cons, List.flatten_cons]
    exact RpA.append r (RpA.rep r n)
section
variable {X : Cx} {p : Addr}
theorem pd_var {e : Expr} {t : TE} {i : Nat} (h : PE X e t) (w : ∀ σ H Q, (∃ v, σ[i]? = some (some v) ∧ Q v H) → t σ H Q) : PD X e p (fun σ H d => ∃ v, σ[i]? = some (some v) ∧ Rp p H v d) :=
  ⟨pe_wk h fun σ H Q q => by
    obtain ⟨hp, d, ⟨v, hv, r⟩, k⟩ := q
    exact w σ H Q ⟨v, hv, k v H (Same.refl H) r⟩,
  fun σ H H' d s f => by
    obtain ⟨v, hv, r⟩ := f
    exact ⟨v, hv, r.keep (ExB.of s)⟩⟩
theorem pd_c {e : Expr} {v : V} {d0 : PyData} (h : PE X e (tC v)) (r : ∀ H, Rp p H v d0) : PD X e p (fun _ _ d => d = d0) :=
  ⟨pe_wk h fun σ H Q q => by
    obtain ⟨hp, d, rfl, k⟩ := q
    exact k v H (Same.refl H) (r H),
  fun σ H H' d s f => f⟩
theorem pds_nil : PDs X [] p (fun _ _ ds => ds = []) :=
  ⟨pa_wk pa_nil fun σ H Q q => by
    obtain ⟨hp, d, rfl, k⟩ := q
    exact k [] H (Same.refl H) .nil,
  fun σ H H' d s f => f⟩
theorem pds_cons {e : Expr} {es : List Expr} {f : DF} {g : DFs} (a : PD X e p f) (b : PDs X es p g) (hs : starEach (e :: es) X.env = (false, eval e X.env) :: starEach es X.env := by rfl) :
    PDs X (e :: es) p (fun σ H l => ∃ d ds, f σ H d ∧ g σ H ds ∧ l = d :: ds) :=
  ⟨pa_wk (pa_cons a.pe b.pa hs) fun σ H Q q => by
    obtain ⟨hp, _, ⟨d, ds, hf, hg, rfl⟩, k⟩ := q
    refine ⟨hp, d, hf, fun v H1 s1 r1 => ⟨hp.keep s1, ds, b.mono σ H H1 ds s1 hg, fun vs H2 s2 r2 => k _ H2 (s1.trans s2) (.cons (r1.keep (ExB.of s2)) r2)⟩⟩,
  fun σ H H' d s f => by
    obtain ⟨d, ds, hf, hg, rfl⟩ := f
    exact ⟨d, ds, a.mono _ _ _ _ s hf, b.mono _ _ _ _ s hg, rfl⟩⟩
theorem pd_tup {es : List Expr} {k : Nat} {pos : Pos} {g : DFs} (b : PDs X es p g) : PD X (.Tuple es k pos) p (fun σ H d => ∃ ds, g σ H ds ∧ ds.length ≤ 1000 ∧ d = .tuple ds) :=
  ⟨pe_wk (pe_tup b.pa) fun σ H Q q => by
    obtain ⟨hp, _, ⟨ds, hg, hl, rfl⟩, k⟩ := q
    refine ⟨hp, ds, hg, fun vs H1 s1 r1 => ⟨by rw [r1.length]; exact sz1000 hl, fun t ht => ?_⟩⟩
    have s2 : Same H1 (upd H1 t (.tup vs)) := same_new ht
    exact k _ _ (s1.trans s2) (.tup ((hp.keep s1).ne ht) (.inl upd_same) (by rw [r1.length]; exact hl) (r1.keep (ExB.of s2))),
  fun σ H H' d s f => by
    obtain ⟨ds, hg, hl, rfl⟩ := f
    exact ⟨ds, b.mono _ _ _ _ s hg, hl, rfl⟩⟩
theorem pd_lst {es : List Expr} {k : Pos} {g : DFs} (b : PDs X es p g) (hl : PE X (.List es k) (tLst (tDats p g))) : PD X (.List es k) p (fun σ H d => ∃ ds, g σ H ds ∧ ds.length ≤ 1000 ∧ d = .list ds) :=
  ⟨pe_wk hl fun σ H Q q => by
    obtain ⟨hp, _, ⟨ds, hg, hl, rfl⟩, k⟩ := q
    refine ⟨hp, ds, hg, fun vs H1 s1 r1 => ⟨by rw [r1.length]; exact sz1000 hl, fun t ht => ?_⟩⟩
    have s2 : Same H1 (upd H1 t (.lst vs)) := same_new ht
    exact k _ _ (s1.trans s2) (.lst ((hp.keep s1).ne ht) upd_same (by rw [r1.length]; exact hl) (r1.keep (ExB.of s2))),
  fun σ H H' d s f => by
    obtain ⟨ds, hg, hl, rfl⟩ := f
    exact ⟨ds, b.mono _ _ _ _ s hg, hl, rfl⟩⟩
theorem pd_lst' {es : List Expr} {k : Pos} {g : DFs} (b : PDs X es p g) : PD X (.List es k) p (fun σ H d => ∃ ds, g σ H ds ∧ ds.length ≤ 1000 ∧ d = .list ds) := pd_lst b (pe_lst b.pa)
theorem pd_bin {a b : Expr} {op : Operator} {r : R2} {pos : Pos} {f g : DF} (ho : OpR X (binaryOp op) r) (ha : PD X a p f) (hb : PD X b p g) (F : PyData → PyData → PyData → Prop)
    (w : ∀ x y d e c H Q, Has p H → Rp p H x d → Rp p H y e → F d e c → (∀ v H', Same H H' → Rp p H' v c → Q v H') → r x y H Q) (he : PE X (.BinOp a op b pos) (tOp r (tDat p f) (tDat p g))) :
    PD X (.BinOp a op b pos) p (fun σ H c => ∃ d e, f σ H d ∧ g σ H e ∧ F d e c) :=
  ⟨pe_wk he fun σ H Q q => by
    obtain ⟨hp, c, ⟨d, e, hf, hg, hF⟩, k⟩ := q
    refine ⟨hp, d, hf, fun x H1 s1 r1 => ⟨hp.keep s1, e, hb.mono _ _ _ _ s1 hg, fun y H2 s2 r2 => ?_⟩⟩
    exact w x y d e c H2 Q (hp.keep (s1.trans s2)) (r1.keep (ExB.of s2)) r2 hF fun v H3 s3 r3 => k v H3 (s1.trans (s2.trans s3)) r3,
  fun σ H H' c s f => by
    obtain ⟨d, e, hf, hg, hF⟩ := f
    exact ⟨d, e, ha.mono _ _ _ _ s hf, hb.mono _ _ _ _ s hg, hF⟩⟩
def FAdd (d e c : PyData) : Prop := ∃ i j : Int, d = .int i ∧ e = .int j ∧ c = .int (i + j)
def FSub (d e c : PyData) : Prop := ∃ i j : Int, d = .int i ∧ e = .int j ∧ c = .int (i - j)
def FCat (d e c : PyData) : Prop := ∃ xs ys, d = .list xs ∧ e = .list ys ∧ xs.length + ys.length ≤ 1000 ∧ c = .list (xs ++ ys)
def FCatT (d e c : PyData) : Prop := ∃ xs ys, d = .tuple xs ∧ e = .tuple ys ∧ xs.length + ys.length ≤ 1000 ∧ c = .tuple (xs ++ ys)
def FRep (d e c : PyData) : Prop := ∃ xs n, d = .list xs ∧ e = .int ((n : Nat) : Int) ∧ n ≤ 1000 ∧ xs.length * n ≤ 1000 ∧ c = .list (List.replicate n xs).flatten
theorem w_add {x y : V} {d e c : PyData} {H : Hp} {Q : VK} (rx : Rp p H x d) (ry : Rp p H y e) (hF : FAdd d e c) (k : ∀ v H', Same H H' → Rp p H' v c → Q v H') : rI0 (fun i j => V.int (i + j)) x y H Q := by
  obtain ⟨i, j, rfl, rfl, rfl⟩ := hF
  exact ⟨i, j, rx.int_inv, ry.int_inv, k _ _ (Same.refl H) (.int _)⟩
theorem w_sub {x y : V} {d e c : PyData} {H : Hp} {Q : VK} (rx : Rp p H x d) (ry : Rp p H y e) (hF : FSub d e c) (k : ∀ v H', Same H H' → Rp p H' v c → Q v H') : rI0 (fun i j => V.int (i - j)) x y H Q := by
  obtain ⟨i, j, rfl, rfl, rfl⟩ := hF
  exact ⟨i, j, rx.int_inv, ry.int_inv, k _ _ (Same.refl H) (.int _)⟩
theorem w_cat {x y : V} {d e c : PyData} {H : Hp} {Q : VK} (hp : Has p H) (rx : Rp p H x d) (ry : Rp p H y e) (hF : FCat d e c) (k : ∀ v H', Same H H' → Rp p H' v c → Q v H') : rCat x y H Q := by
  obtain ⟨ds, es, rfl, rfl, hl, rfl⟩ := hF
  obtain ⟨a, xs, rfl, na, ha, za, ra⟩ := rx.lst_inv
  obtain ⟨b, ys, rfl, nb, hb, zb, rb⟩ := ry.lst_inv
  refine ⟨a, b, xs, ys, rfl, rfl, ha, hb, by rw [ra.length, rb.length]; exact sz1000 hl, fun t ht => k _ _ (same_new ht) (.lst (hp.ne ht) upd_same ?_ (RpA.keep (ExB.of (same_new ht)) (ra.append rb)))⟩
  rw [List.length_append, ra.length, rb.length]
  exact hl
theorem w_catT {K : PySem.W.Frag} {x y : V} {d e c : PyData} {H : Hp} {Q : VK} (hp : Has p H) (rx : Rp p H x d) (ry : Rp p H y e) (hF : FCatT d e c) (k : ∀ v H', Same H H' → Rp p H' v c → Q v H') : rCatA K x y H Q := by
  obtain ⟨ds, es, rfl, rfl, hl, rfl⟩ := hF
  obtain ⟨a, xs, rfl, na, ha, za, ra⟩ := rx.tup_inv
  obtain ⟨b, ys, rfl, nb, hb, zb, rb⟩ := ry.tup_inv
  refine ⟨a, b, xs, ys, rfl, rfl, SqT.rd ha, SqT.rd hb, by rw [ra.length, rb.length]; exact sz1000 hl, fun e0 => ?_, fun _ e0 => ?_, fun _ _ t ht => k _ _ (same_new ht) (.tup (hp.ne ht) (.inl upd_same) ?_ (RpA.keep (ExB.of (same_new ht)) (ra.append rb)))⟩
  · subst e0
    cases ra
    exact k _ _ (Same.refl H) (.tup nb hb zb rb)
  · subst e0
    cases rb
    rw [List.append_nil] at k
    exact k _ _ (Same.refl H) (.tup na ha za ra)
  · rw [List.length_append, ra.length, rb.length]
    exact hl
theorem w_rep {x y : V} {d e c : PyData} {H : Hp} {Q : VK} (hp : Has p H) (rx : Rp p H x d) (ry : Rp p H y e) (hF : FRep d e c) (k : ∀ v H', Same H H' → Rp p H' v c → Q v H') : rRep x y H Q := by
  obtain ⟨ds, n, rfl, rfl, hn, hl, rfl⟩ := hF
  obtain ⟨a, xs, rfl, na, ha, za, ra⟩ := rx.lst_inv
  have hl2 : xs.length * n ≤ 1000 := by rw [ra.length]; exact hl
  refine ⟨a, n, xs, rfl, ry.int_inv, ha, by omega, by omega, sz1000 hl2, fun t ht => k _ _ (same_new ht) (.lst (hp.ne ht) upd_same ?_ (RpA.keep (ExB.of (same_new ht)) (ra.rep n)))⟩
  show (List.replicate n xs).flatten.length ≤ 1000
  rw [List.length_flatten, List.map_replicate, List.sum_replicate_nat, Nat.mul_comm]
  exact hl2
theorem pd_add {a b : Expr} {pos : Pos} {f g : DF} (ha : PD X a p f) (hb : PD X b p g) : PD X (.BinOp a .Add b pos) p (fun σ H c => ∃ d e, f σ H d ∧ g σ H e ∧ FAdd d e c) :=
  pd_bin op_add ha hb FAdd (fun x y d e c H Q hp rx ry hF k => w_add rx ry hF k) (pe_op op_add ha.pe hb.pe)
theorem pd_sub {a b : Expr} {pos : Pos} {f g : DF} (ha : PD X a p f) (hb : PD X b p g) : PD X (.BinOp a .Sub b pos) p (fun σ H c => ∃ d e, f σ H d ∧ g σ H e ∧ FSub d e c) :=
  pd_bin op_sub ha hb FSub (fun x y d e c H Q hp rx ry hF k => w_sub rx ry hF k) (pe_op op_sub ha.pe hb.pe)
theorem pd_cat {a b : Expr} {pos : Pos} {f g : DF} (ha : PD X a p f) (hb : PD X b p g) : PD X (.BinOp a .Add b pos) p (fun σ H c => ∃ d e, f σ H d ∧ g σ H e ∧ FCat d e c) :=
  pd_bin op_cat ha hb FCat (fun x y d e c H Q hp rx ry hF k => w_cat hp rx ry hF k) (pe_op op_cat ha.pe hb.pe)
theorem pd_catT {a b : Expr} {pos : Pos} {f g : DF} (ha : PD X a p f) (hb : PD X b p g) : PD X (.BinOp a .Add b pos) p (fun σ H c => ∃ d e, f σ H d ∧ g σ H e ∧ FCatT d e c) :=
  pd_bin op_catA ha hb FCatT (fun x y d e c H Q hp rx ry hF k => w_catT hp rx ry hF k) (pe_op op_catA ha.pe hb.pe)
theorem pd_rep {a b : Expr} {pos : Pos} {f g : DF} (ha : PD X a p f) (hb : PD X b p g) : PD X (.BinOp a .Mult b pos) p (fun σ H c => ∃ d e, f σ H d ∧ g σ H e ∧ FRep d e c) :=
  pd_bin op_rep ha hb FRep (fun x y d e c H Q hp rx ry hF k => w_rep hp rx ry hF k) (pe_op op_rep ha.pe hb.pe)
/-! slices -/
structure PDO (X : Cx) (e : Option Expr) (p : Addr) (f : L2.St → Hp → Option Int → Prop) (t : TO) : Prop where
  po : PO X e t
  w : ∀ σ H (Q : Option Int → Hp → Prop) i, Has p H → f σ H i → (∀ H', Same H H' → Q i H') → t σ H Q
  mono : ∀ σ H H' d, Same H H' → f σ H d → f σ H' d
def cutD (ds : List PyData) (lo hi : Option Int) : List PyData := (ds.drop (HT.sIx ds.length 0 lo)).take (HT.sIx ds.length ds.length hi - HT.sIx ds.length 0 lo)
theorem RpA.cut {H : Hp} {vs : List V} {ds : List PyData} (r : RpA p H vs ds) (lo hi : Option Int) : RpA p H (cutV vs lo hi) (cutD ds lo hi) := by
  unfold cutV cutD
  rw [r.length]
  exact (r.drop _).take _
theorem pdo_none : PDO X none p (fun _ _ i => i = none) tNoPart :=
  ⟨po_none, fun σ H Q i _ hf k => by
    subst hf
    exact k H (Same.refl H), fun _ _ _ _ _ f => f⟩
theorem pdo_some {e : Expr} {f : DF} (h : PD X e p f) : PDO X (some e) p (fun σ H i => ∃ j : Int, f σ H (.int j) ∧ i = some j) (tPart (tDat p f)) :=
  ⟨po_some h.pe, fun σ H Q i hp hf k => by
    obtain ⟨j, hj, rfl⟩ := hf
    exact ⟨hp, .int j, hj, fun v H' s r => ⟨j, r.int_inv, k H' s⟩⟩, fun σ H H' i s hf => by
    obtain ⟨j, hj, rfl⟩ := hf
    exact ⟨j, h.mono _ _ _ _ s hj, rfl⟩⟩
theorem w_slL {K : PySem.W.Frag} {x : V} {ds : List PyData} {lo hi : Option Int} {H : Hp} {Q : VK} (hp : Has p H) (rx : Rp p H x (.list ds)) (hl : (cutD ds lo hi).length ≤ 1000)
    (k : ∀ v H', Same H H' → Rp p H' v (.list (cutD ds lo hi)) → Q v H') : rSlL K x lo hi H Q := by
  obtain ⟨a, xs, rfl, na, ha, za, ra⟩ := rx.lst_inv
  have rc := ra.cut lo hi
  exact ⟨a, xs, rfl, SqL.of ha, fun t ht => k _ _ (same_new ht) (.lst (hp.ne ht) upd_same (by rw [rc.length]; exact hl) (rc.keep (ExB.of (same_new ht))))⟩
theorem w_slT {K : PySem.W.Frag} {x : V} {ds : List PyData} {lo hi : Option Int} {H : Hp} {Q : VK} (hp : Has p H) (rx : Rp p H x (.tuple ds)) (hl : (cutD ds lo hi).length ≤ 1000)
    (k : ∀ v H', Same H H' → Rp p H' v (.tuple (cutD ds lo hi)) → Q v H') : rSlA K x lo hi H Q := by
  obtain ⟨a, xs, rfl, na, ha, za, ra⟩ := rx.tup_inv
  have rc := ra.cut lo hi
  refine ⟨a, xs, rfl, SqT.rd ha, fun e => ?_, fun _ t ht => k _ _ (same_new ht) (.tup (hp.ne ht) (.inl upd_same) (by rw [rc.length]; exact hl) (rc.keep (ExB.of (same_new ht))))⟩
  have e2 : cutD ds lo hi = ds := by
    unfold cutD
    rw [← ra.length, e.1, e.2, List.drop_zero, Nat.sub_zero, List.take_of_length_le (by rw [ra.length]; exact Nat.le_refl _)]
  rw [e2] at k
  exact k _ _ (Same.refl H) (.tup na ha za ra)
theorem pd_slL {e : Expr} {lo hi : Option Expr} {pos p2 : Pos} {f : DF} {fl fh : L2.St → Hp → Option Int → Prop} {tl th : TO} (h : PD X e p f) (hl : PDO X lo p fl tl) (hh : PDO X hi p fh th) :
    PD X (.Subscript e (.Slice lo hi none p2) pos) p (fun σ H c => ∃ ds i j, f σ H (.list ds) ∧ fl σ H i ∧ fh σ H j ∧ (cutD ds i j).length ≤ 1000 ∧ c = .list (cutD ds i j)) :=
  ⟨pe_wk (pe_slice sl_list h.pe hl.po hh.po) fun σ H Q q => by
    obtain ⟨hp, _, ⟨ds, i, j, h1, h2, h3, h4, rfl⟩, k⟩ := q
    exact ⟨hp, _, h1, fun v H1 s1 r1 => hl.w σ H1 _ i (hp.keep s1) (hl.mono _ _ _ _ s1 h2) fun H2 s2 => hh.w σ H2 _ j (hp.keep (s1.trans s2)) (hh.mono _ _ _ _ (s1.trans s2) h3) fun H3 s3 =>
      w_slL (hp.keep (s1.trans (s2.trans s3))) (r1.keep (ExB.of (s2.trans s3))) h4 fun u H4 s4 r4 => k u H4 (s1.trans (s2.trans (s3.trans s4))) r4⟩,
  fun σ H H' c s q => by
    obtain ⟨ds, i, j, h1, h2, h3, h4, rfl⟩ := q
    exact ⟨ds, i, j, h.mono _ _ _ _ s h1, hl.mono _ _ _ _ s h2, hh.mono _ _ _ _ s h3, h4, rfl⟩⟩
theorem pd_slT {e : Expr} {lo hi : Option Expr} {pos p2 : Pos} {f : DF} {fl fh : L2.St → Hp → Option Int → Prop} {tl th : TO} (h : PD X e p f) (hl : PDO X lo p fl tl) (hh : PDO X hi p fh th) :
    PD X (.Subscript e (.Slice lo hi none p2) pos) p (fun σ H c => ∃ ds i j, f σ H (.tuple ds) ∧ fl σ H i ∧ fh σ H j ∧ (cutD ds i j).length ≤ 1000 ∧ c = .tuple (cutD ds i j)) :=
  ⟨pe_wk (pe_slice sl_tupA h.pe hl.po hh.po) fun σ H Q q => by
    obtain ⟨hp, _, ⟨ds, i, j, h1, h2, h3, h4, rfl⟩, k⟩ := q
    exact ⟨hp, _, h1, fun v H1 s1 r1 => hl.w σ H1 _ i (hp.keep s1) (hl.mono _ _ _ _ s1 h2) fun H2 s2 => hh.w σ H2 _ j (hp.keep (s1.trans s2)) (hh.mono _ _ _ _ (s1.trans s2) h3) fun H3 s3 =>
      w_slT (hp.keep (s1.trans (s2.trans s3))) (r1.keep (ExB.of (s2.trans s3))) h4 fun u H4 s4 r4 => k u H4 (s1.trans (s2.trans (s3.trans s4))) r4⟩,
  fun σ H H' c s q => by
    obtain ⟨ds, i, j, h1, h2, h3, h4, rfl⟩ := q
    exact ⟨ds, i, j, h.mono _ _ _ _ s h1, hl.mono _ _ _ _ s h2, hh.mono _ _ _ _ s h3, h4, rfl⟩⟩
/-! items -/
theorem RpA.at_ {H : Hp} {vs : List V} {ds : List PyData} {i : Int} {d : PyData} (r : RpA p H vs ds) (h : atI ds i = some d) : ∃ v, atI vs i = some v ∧ Rp p H v d := by
  unfold atI at h ⊢
  rw [← r.length] at h
  obtain ⟨j, hj, hd⟩ := Option.bind_eq_some_iff.mp h
  have hv : j < vs.length := by
    rw [r.length]
    exact (List.getElem?_eq_some_iff.mp hd).1
  obtain ⟨d2, h2, rd⟩ := r.get (List.getElem?_eq_getElem hv)
  rw [hd] at h2
  cases h2
  exact ⟨vs[j], by rw [hj]; exact List.getElem?_eq_getElem hv, rd⟩
theorem pd_ixT {e i : Expr} {pos : Pos} {f g : DF} (h : PD X e p f) (hi : PD X i p g) (pl : PlainIx i) :
    PD X (.Subscript e i pos) p (fun σ H c => ∃ ds j, f σ H (.tuple ds) ∧ g σ H (.int j) ∧ atI ds j = some c) :=
  ⟨pe_wk (pe_ix ix_seq h.pe hi.pe pl) fun σ H Q q => by
    obtain ⟨hp, c, ⟨ds, j, h1, h2, h3⟩, k⟩ := q
    refine ⟨hp, _, h1, fun x H1 s1 r1 => ⟨hp.keep s1, _, hi.mono _ _ _ _ s1 h2, fun y H2 s2 r2 => ?_⟩⟩
    obtain ⟨a, xs, rfl, na, ha, za, ra⟩ := (r1.keep (ExB.of s2)).tup_inv
    obtain ⟨v, hv, rv⟩ := ra.at_ h3
    exact .inr (.inl ⟨a, xs, j, v, rfl, r2.int_inv, SqT.rd ha, hv, k v H2 (s1.trans s2) rv⟩),
  fun σ H H' c s q => by
    obtain ⟨ds, j, h1, h2, h3⟩ := q
    exact ⟨ds, j, h.mono _ _ _ _ s h1, hi.mono _ _ _ _ s h2, h3⟩⟩
/-! list(t), str(i) -/
theorem pd_list {e : Expr} {q pos : Pos} {f : DF} (h : PD X e p f) (hg : Gl X "list") (hm : X.mg "list" = none) (hs : starEach [e] X.env = (false, eval e X.env) :: starEach [] X.env := by rfl)
    (hpl : ((backTo pos (starEach [] X.env)).any fun x => x.1) = false := by rfl) : PD X (.Call (.Name "list" q) [e] [] pos) p (fun σ H c => ∃ ds, f σ H (.tuple ds) ∧ c = .list ds) :=
  ⟨pe_wk (pe_callTy call_list_of hg hm (by decide +kernel) (pa_cons h.pe pa_nil hs) (by decide) (by decide) hs hpl) fun σ H Q q => by
    obtain ⟨hp, _, ⟨ds, h1, rfl⟩, k⟩ := q
    refine ⟨hp, _, h1, fun x H1 s1 r1 => ?_⟩
    obtain ⟨a, xs, rfl, na, ha, za, ra⟩ := r1.tup_inv
    exact ⟨a, xs, rfl, .inr (SqT.rd ha), fun t ht => k _ _ (s1.trans (same_new ht)) (.lst ((hp.keep s1).ne ht) upd_same za (ra.keep (ExB.of (same_new ht))))⟩,
  fun σ H H' c s q => by
    obtain ⟨ds, h1, rfl⟩ := q
    exact ⟨ds, h.mono _ _ _ _ s h1, rfl⟩⟩
theorem pd_str {e : Expr} {q pos : Pos} {f : DF} (h : PD X e p f) (hg : Gl X "str") (hm : X.mg "str" = none) (hs : starEach [e] X.env = (false, eval e X.env) :: starEach [] X.env := by rfl)
    (hpl : ((backTo pos (starEach [] X.env)).any fun x => x.1) = false := by rfl) : PD X (.Call (.Name "str" q) [e] [] pos) p (fun σ H c => ∃ n : Nat, f σ H (.int (n : Nat)) ∧ n ≤ 20 ∧ c = .str (toString ((n : Nat) : Int))) :=
  ⟨pe_wk (pe_callTy call_str_int hg hm (by decide +kernel) (pa_cons h.pe pa_nil hs) (by decide) (by decide) hs hpl) fun σ H Q q => by
    obtain ⟨hp, _, ⟨n, h1, hn, rfl⟩, k⟩ := q
    refine ⟨hp, _, h1, fun x H1 s1 r1 => ?_⟩
    refine ⟨n, by rw [r1.int_inv], Nat.lt_of_le_of_lt (Nat.log2_le_self n) (by omega), k _ _ s1 (.str _ ?_)⟩
    exact (by decide +kernel : ∀ n, n < 21 → (Str.ofString (toString ((n : Nat) : Int))).length ≤ 1000) n (by omega),
  fun σ H H' c s q => by
    obtain ⟨n, h1, hn, rfl⟩ := q
    exact ⟨n, h.mono _ _ _ _ s h1, hn, rfl⟩⟩
theorem pd_neg {e : Expr} {pos : Pos} {f : DF} (h : PD X e p f) : PD X (.UnaryOp .USub e pos) p (fun σ H c => ∃ i : Int, f σ H (.int i) ∧ c = .int (-i)) :=
  ⟨pe_wk (pe_un un_neg h.pe) fun σ H Q q => by
    obtain ⟨hp, _, ⟨i, h1, rfl⟩, k⟩ := q
    exact ⟨hp, _, h1, fun x H1 s1 r1 => ⟨i, r1.int_inv, k _ _ s1 (.int _)⟩⟩,
  fun σ H H' c s q => by
    obtain ⟨i, h1, rfl⟩ := q
    exact ⟨i, h.mono _ _ _ _ s h1, rfl⟩⟩
theorem pd_ifGt {a b c e : Expr} {pos pos2 : Pos} {fa fb fc fe : DF} (hc : PD X c p fc) (he : PD X e p fe) (ha : PD X a p fa) (hb : PD X b p fb) :
    PD X (.IfExp (.Compare c [.Gt] [e] pos2) a b pos) p (fun σ H d => ∃ i j : Int, fc σ H (.int i) ∧ fe σ H (.int j) ∧ (j < i → fa σ H d) ∧ (¬ j < i → fb σ H d)) :=
  ⟨pe_wk (pe_ifExp (pt_cmpR op_gt hc.pe he.pe (nomark _)) ha.pe hb.pe) fun σ H Q q => by
    obtain ⟨hp, d, ⟨i, j, h1, h2, h3, h4⟩, k⟩ := q
    refine ⟨hp, _, h1, fun x H1 s1 r1 => ⟨hp.keep s1, _, he.mono _ _ _ _ s1 h2, fun y H2 s2 r2 => ⟨i, j, (r1.keep (ExB.of s2)).int_inv, r2.int_inv, _, rfl, ?_⟩⟩⟩
    have s3 := s1.trans s2
    refine ite2 (fun e => ?_) (fun e => ?_)
    · exact ⟨hp.keep s3, d, ha.mono _ _ _ _ s3 (h3 (of_decide_eq_true e)), fun v H4 s4 r4 => k v H4 (s3.trans s4) r4⟩
    · exact ⟨hp.keep s3, d, hb.mono _ _ _ _ s3 (h4 (of_decide_eq_false (eq_false_of_ne_true e))), fun v H4 s4 r4 => k v H4 (s3.trans s4) r4⟩,
  fun σ H H' d s q => by
    obtain ⟨i, j, h1, h2, h3, h4⟩ := q
    exact ⟨i, j, hc.mono _ _ _ _ s h1, he.mono _ _ _ _ s h2, fun z => ha.mono _ _ _ _ s (h3 z), fun z => hb.mono _ _ _ _ s (h4 z)⟩⟩
theorem pd_dict {pos : Pos} : PD X (.Dict [] [] pos) p (fun _ _ d => d = .dict []) :=
  ⟨pe_wk pe_dnewK fun σ H Q q => by
    obtain ⟨hp, _, rfl, k⟩ := q
    exact fun t ht => k _ _ (same_new ht) (.dct (hp.ne ht) upd_same),
  fun σ H H' d s f => f⟩
end
/-! data of tuples alone -/
mutual
inductive RpT (p : Addr) (H : Hp) : V → PyData → Prop
  | non : RpT p H .non .none
  | bl (b : Bool) : RpT p H (.bl b) (.bool b)
  | int (i : Int) : RpT p H (.int i) (.int i)
  | str (x : Str) (h : x.length ≤ 1000) : RpT p H (.str x) (.str x)
  | tup {a : Addr} {xs : List V} {ds : List PyData} (n : a ≠ p) (h : Rd H a (.tup xs)) (z : xs.length ≤ 1000) (r : RpTA p H xs ds) : RpT p H (.ref a) (.tuple ds)
inductive RpTA (p : Addr) (H : Hp) : List V → List PyData → Prop
  | nil : RpTA p H [] []
  | cons {v : V} {vs : List V} {d : PyData} {ds : List PyData} (h : RpT p H v d) (t : RpTA p H vs ds) : RpTA p H (v :: vs) (d :: ds)
end
def ExT (p : Addr) (H H' : Hp) : Prop := ∀ b xs, b ≠ p → Rd H b (.tup xs) → Rd H' b (.tup xs)
theorem ExT.of {p : Addr} {H H' : Hp} (e : ExB p H H') : ExT p H H' := fun b _ n h => rd_keep (fun o q => e b o n q) h
theorem ExT.trans {p : Addr} {H H1 H2 : Hp} (a : ExT p H H1) (b : ExT p H1 H2) : ExT p H H2 := fun c xs n h => b c xs n (a c xs n h)
theorem ExT.put {p l : Addr} {H : Hp} {xs : List V} {o : HO} (h : H l = some (.lst xs)) : ExT p H (upd H l o) := fun b ys n e => rd_keep (fun u q => by
  rw [upd_ne (fun z => by
    rw [z] at e
    rcases e with e | ⟨o', e⟩ <;> (rw [h] at e; cases e))]
  exact q) e
mutual
theorem RpT.keep {p : Addr} {H H' : Hp} (e : ExT p H H') : ∀ {v : V} {d : PyData}, RpT p H v d → RpT p H' v d
  | _, _, .non => .non
  | _, _, .bl b => .bl b
  | _, _, .int i => .int i
  | _, _, .str x h => .str x h
  | _, _, .tup n h z r => .tup n (e _ _ n h) z (RpTA.keep e r)
theorem RpTA.keep {p : Addr} {H H' : Hp} (e : ExT p H H') : ∀ {vs : List V} {ds : List PyData}, RpTA p H vs ds → RpTA p H' vs ds
  | _, _, .nil => .nil
  | _, _, .cons h t => .cons (RpT.keep e h) (RpTA.keep e t)
end
mutual
theorem RpT.rp {p : Addr} {H : Hp} : ∀ {v : V} {d : PyData}, RpT p H v d → Rp p H v d
  | _, _, .non => .non
  | _, _, .bl b => .bl b
  | _, _, .int i => .int i
  | _, _, .str x h => .str x h
  | _, _, .tup n h z r => .tup n h z (RpTA.rp r)
theorem RpTA.rp {p : Addr} {H : Hp} : ∀ {vs : List V} {ds : List PyData}, RpTA p H vs ds → RpA p H vs ds
  | _, _, .nil => .nil
  | _, _, .cons h t => .cons (RpT.rp h) (RpTA.rp t)
end
theorem RpTA.append {p : Addr} {H : Hp} : ∀ {vs ws : List V} {ds es : List PyData}, RpTA p H vs ds → RpTA p H ws es → RpTA p H (vs ++ ws) (ds ++ es)
  | _, _, _, _, .nil, s => s
  | _, _, _, _, .cons h t, s => .cons h (RpTA.append t s)
theorem RpTA.length {p : Addr} {H : Hp} {vs : List V} {ds : List PyData} (r : RpTA p H vs ds) : vs.length = ds.length := r.rp.length
/-! how what is told is found -/
theorem x_tup {g : List PyData → Prop} {ds : List PyData} (h : g ds) (hl : ds.length ≤ 1000) : ∃ es, g es ∧ es.length ≤ 1000 ∧ PyData.tuple ds = .tuple es := ⟨ds, h, hl, rfl⟩
theorem x_lst {g : List PyData → Prop} {ds : List PyData} (h : g ds) (hl : ds.length ≤ 1000) : ∃ es, g es ∧ es.length ≤ 1000 ∧ PyData.list ds = .list es := ⟨ds, h, hl, rfl⟩
theorem x_cons {f : PyData → Prop} {g : List PyData → Prop} {d : PyData} {ds : List PyData} (h : f d) (k : g ds) : ∃ e es, f e ∧ g es ∧ d :: ds = e :: es := ⟨d, ds, h, k, rfl⟩
theorem x_neg {f : Int → Prop} {i : Int} (h : f i) : ∃ j, f j ∧ PyData.int (-i) = .int (-j) := ⟨i, h, rfl⟩
theorem x_var {σ : L2.St} {i : Nat} {p : Addr} {H : Hp} {v : V} {d : PyData} (h : σ[i]? = some (some v)) (r : Rp p H v d) : ∃ u, σ[i]? = some (some u) ∧ Rp p H u d := ⟨v, h, r⟩
theorem x_bin {f g : PyData → Prop} {F : PyData → PyData → PyData → Prop} {d e c : PyData} (h : f d) (k : g e) (l : F d e c) : ∃ d e, f d ∧ g e ∧ F d e c := ⟨d, e, h, k, l⟩
theorem x_add {i j : Int} : FAdd (.int i) (.int j) (.int (i + j)) := ⟨i, j, rfl, rfl, rfl⟩
theorem x_sub {i j : Int} : FSub (.int i) (.int j) (.int (i - j)) := ⟨i, j, rfl, rfl, rfl⟩
theorem x_cat {xs ys : List PyData} (h : xs.length + ys.length ≤ 1000) : FCat (.list xs) (.list ys) (.list (xs ++ ys)) := ⟨xs, ys, rfl, rfl, h, rfl⟩
theorem x_catT {xs ys : List PyData} (h : xs.length + ys.length ≤ 1000) : FCatT (.tuple xs) (.tuple ys) (.tuple (xs ++ ys)) := ⟨xs, ys, rfl, rfl, h, rfl⟩
theorem x_rep {xs : List PyData} {n : Nat} (h1 : n ≤ 1000) (h : xs.length * n ≤ 1000) : FRep (.list xs) (.int (n : Nat)) (.list (List.replicate n xs).flatten) := ⟨xs, n, rfl, rfl, h1, h, rfl⟩
theorem x_sl {f : List PyData → Prop} {fl fh : Option Int → Prop} {C : List PyData → PyData} {ds : List PyData} {i j : Option Int} (h : f ds) (h1 : fl i) (h2 : fh j) (hl : (cutD ds i j).length ≤ 1000) :
    ∃ es a b, f es ∧ fl a ∧ fh b ∧ (cutD es a b).length ≤ 1000 ∧ C (cutD ds i j) = C (cutD es a b) := ⟨ds, i, j, h, h1, h2, hl, rfl⟩
theorem x_po {f : Int → Prop} {j : Int} (h : f j) : ∃ k, f k ∧ some j = some k := ⟨j, h, rfl⟩
theorem x_ix {f : List PyData → Prop} {g : Int → Prop} {ds : List PyData} {j : Int} {c : PyData} (h : f ds) (k : g j) (e : atI ds j = some c) : ∃ es i, f es ∧ g i ∧ atI es i = some c := ⟨ds, j, h, k, e⟩
theorem x_list {f : List PyData → Prop} {ds : List PyData} (h : f ds) : ∃ es, f es ∧ PyData.list ds = .list es := ⟨ds, h, rfl⟩
theorem x_str {f : Nat → Prop} {n : Nat} (h : f n) (k : n ≤ 20) : ∃ m, f m ∧ m ≤ 20 ∧ PyData.str (toString ((n : Nat) : Int)) = .str (toString ((m : Nat) : Int)) := ⟨n, h, k, rfl⟩
end Cs
set_option maxHeartbeats 4000000
/-! Rules of my own: isinstance and fields of a caught error that keeps something, also in a def called in the suite; three classes in one except. -/
namespace Cs
open PySem L2 PyProof.Rows
open PySem.W (KitX InstAt)
theorem cs_check {M : Model} {A : Around} {E : Value → Shared → Prop} {s : Shared} {self u : Value} {i o n : String} {Q : Unit → Shared → Prop} (k2 : builtinKind i = some Manifest.AttrKind.slot)
    (k3 : splitId i = some (o, n)) (sub : PySem.W.Looks M s.heap (isInstance self (.type o)) true) (ao : argsOk i ⟨[self, u], []⟩) (q : Q () s) : wpAny M A (checkBuiltinCall i ⟨[self, u], []⟩) Q E s :=
  PySem.W.check_slot k2 k3 sub ao q
theorem cs_classX {prog : Program} {w : World} {A : Around} {E : Value → Shared → Prop} {s : Shared} {K : PySem.W.Frag} {x D : Addr} {ox od : Obj} {Q : Option Value → Shared → Prop} (C : ExcC K D)
    (X : K.In s.heap) (I : InstAt s.heap x ox D (some od)) (h : Q (some (.ref D)) { s with toks := s.toks + 1 }) : wpAny (model prog w) A (getAttr? (.ref x) "__class__") Q E s := by
  have hf : PySem.W.findObj K D (some od) "__class__" = _ := PySem.W.findObj_data (by
    obtain ⟨cd, hc, _⟩ := PySem.W.any_some C.hd
    rw [hc]; rfl) C.ha C.hn C.ht
  obtain ⟨hp, g, d, t, os⟩ := s
  have L0 := fun M => InstAt.type (M := M) I
  have L1 := fun M => PySem.W.looks_findIn (M := M) X C.hg
  have L2 := fun M => PySem.W.looks_findIn (M := M) X C.hk
  have L3 := fun M => PySem.W.looks_find (M := M) X I hf
  have sub : PySem.W.Looks (model prog w) hp (isInstance (.ref x) (.type "BaseException")) true := PySem.W.Looks.andThen (L0 (model prog w)) (PySem.W.looks_subIn X C.hs)
  refine wpAny_bind (wpAny_mkText ?_)
  refine wpAny_bind (wpAny_attempt (wpAny_holding (wpAny_bind ((L0 _).at (wpAny_bind ((L1 _).at ?_))))))
  have hx1 : (onTheHeap (.ref D) && (Value.builtin "BaseException.__getattribute__" == Value.builtin "object.__getattribute__")) = false := by
    rw [PySem.W.kin_classE._proof_1, Bool.and_false]
  dsimp only
  rw [hx1, if_neg Bool.false_ne_true]
  refine wpAny_bind ?_
  unfold hookBefore
  rw [if_pos (by rfl)]
  refine (L2 _).at (wpAny_bind (wpAny_attempt (wpAny_holding ?_)))
  dsimp only [Option.toList]
  unfold callGetattribute
  rw [if_neg (by decide)]
  unfold boundAndCalled
  refine wpAny_bind ?_
  rw [F.excAttr_ValueError.ga.bind (.ref x)]
  refine wpAny_pure ?_
  refine wpAny_call ?_
  refine codeAny_call_builtin F.excAttr_ValueError.ga.plain F.entry_bexc_ga ?_
  dsimp only [List.cons_append, List.nil_append]
  have ao := F.args_bexc_ga (.ref x) (.str "__class__" t)
  have z := fun Q E => @cs_check (model prog w) A.in1 E ⟨hp, g, d, t + 1, os⟩ (.ref x) (.str "__class__" t) _ _ _ Q PySem.W.kin_classE._proof_2 PySem.W.kin_classE._proof_3 sub ao
  refine z _ _ ?_
  refine wpAny_bind (wpAny_of_eq (Eq.refl (slotArgs "__getattribute__" 1 ⟨[.ref x, .str "__class__" t], []⟩)) (wpAny_bind (wpAny_pure ?_)))
  refine wpAny_bind ((L0 _).at ?_)
  refine wpAny_bind ((L3 _).at ?_)
  refine wpAny_bind (wpAny_holding ?_)
  refine wpAny_call (PySem.W.class_get X I C.hm (wpAny_pure ?_))
  dsimp only
  rw [PySem.W.handedOut_of rfl]
  exact wpAny_pure (wpAny_pure h)
theorem cs_cls {K : PySem.W.Frag} {D : Addr} (h : PySem.W.hasDictIn K D = true) : ∃ cls dict cd sl, K.lookup D = some ⟨cls, dict, .cls cd, sl⟩ := by
  obtain ⟨cd, hc, _⟩ := PySem.W.any_some h
  unfold PySem.W.clsIn at hc
  split at hc
  · rename_i e
    exact ⟨_, _, _, _, e⟩
  · cases hc
theorem cs_kitx {K : PySem.W.Frag} {x D : Addr} {ox od : Obj} (C : ExcC K D) : KitX K (.ref x) (.ref D) fun h => InstAt h x ox D (some od) := by
  obtain ⟨cls, dict, cd, sl, e⟩ := cs_cls C.hd
  refine ⟨fun M h X I => I.type, fun M h X _ A Q E s k q => ?_, fun h tp dd its n sl' X ht => ?_, fun X I q => cs_classX C X I q⟩
  · exact wpAny_bind (wpAny_loadPart (k D _ (X D _ e)) (wpAny_pure q))
  · refine Bool.eq_false_iff.mpr fun q => ?_
    have e1 := Value.ref.inj (beq_iff_eq.mp q)
    subst e1
    rw [X D _ e] at ht
    cases ht
/-- a caught error of the class C, whose own dict stands at dd, is pinned at a -/
def ExPin (X : Cx) (a C dd : Addr) : Prop := ∃ oe, (a, oe) ∈ X.pn ∧ Zc (.ref C) (some dd) oe ∧ ∃ vs, oe.data = .fields vs
theorem ExPin.inst {X : Cx} {a C dd : Addr} (P : ExPin X a C dd) {pins : List (Addr × Obj)} {s : Shared} {σ : L2.St} {H : Hp} (I : L2.Inv X pins σ H s) {fs : List (Str × V)} (h : H dd = some (.xd fs)) :
    ∃ ox od, InstAt s.heap a ox C (some od) ∧ ∀ f v, fs.lookup f = some v → ∃ u, PySem.W.lookIn f od = some (some u) ∧ RelV v u := by
  obtain ⟨oe, hm, ⟨hc, hd⟩, vs, hv⟩ := P
  obtain ⟨hg, _⟩ := I.pin (a, oe) (List.mem_append_left pins hm)
  obtain ⟨mA, hns, hr⟩ := I.hok dd _ h
  obtain ⟨od, ho, hl⟩ := lookIn_ns hns
  refine ⟨oe, od, ⟨hg, hc, ?_, ?_⟩, fun f v hf => ?_⟩
  · unfold PySem.W.notCls
    rw [hv]
  · rw [hd]
    exact ho
  · have r := hr f
    rw [hf] at r
    obtain ⟨u, e, ru⟩ := RelO.some_of r
    exact ⟨u, by rw [hl f, e], ru⟩
section
variable {X : Cx} {a C dd : Addr}
def rIsX (K : PySem.W.Frag) (C a dd : Addr) : List V → Hp → VK → Prop := fun xs H Q => ∃ (c : V) (cv : Value) (b : Bool) (fs : List (Str × V)), xs = [.ref a, c] ∧ ClsV c cv ∧ H dd = some (.xd fs) ∧ PySem.W.kitOne K (.ref C) cv = some b ∧ Q (.bl b) H
theorem call_isX (P : ExPin X a C dd) (T : ExcC X.K C) : CallR X (.builtin "isinstance") (rIsX X.K C a dd) := by
  rintro pins s σ H xs us Q I r ⟨c, cv, b, fs, rfl, hc, hd, e, q⟩
  obtain ⟨ox, od, i, _⟩ := P.inst I hd
  obtain ⟨u1, u2, rfl, r1, r2⟩ := vals2 r
  have e2 := hc.eq r2
  subst e2
  cases r1
  exact PySem.W.kia_one (cs_kitx T) I.kIn i e (by intro z; cases z) fun tk => ⟨.bl b, H, I.tok tk, rfl, q⟩
def tXfX (a dd : Addr) (f : Str) (te : TE) : TE := fun σ H Q => te σ H fun x H1 => x = .ref a ∧ ∃ (fs : List (Str × V)) (v : V), H1 dd = some (.xd fs) ∧ fs.lookup f = some v ∧ Q v H1
theorem pe_xfX {e : Expr} {te : TE} {pos : Pos} {n : Str} (P : ExPin X a C dd) (T : XfC X.K C) (hno : PySem.W.findIn X.K (.ref C) n = some none) (he : PE X e te)
    (hb : attributeBase e n X.env (eval e X.env) = eval e X.env := by rfl) : PE X (.Attribute e n pos) (tXfX a dd n te) := by
  refine ⟨fun pins s σ H Q I h => attr_of hb (thn (he.run pins s σ H _ I h) ?_)⟩
  rintro u s1 ⟨x, H1, I1, rx, rfl, fs, v, hd, hf, q⟩
  cases rx
  obtain ⟨ox, od, i, k⟩ := P.inst I1 hd
  obtain ⟨u, hl, ru⟩ := k n v hf
  exact PySem.HandSPX.exc_get I1.kIn i T.ga T.gg T.exC (PySem.W.findObj_own T.hdC hno rfl hl) (handed_of ru) ⟨v, H1, I1.tok _, ru, q⟩
end
end Cs
set_option maxHeartbeats 4000000
/-! A def called in an except suite with the caught error: its promise may speak of the error. Three classes in one except. -/
namespace Cs
open PySem L2 L2H PyProof.Rows
structure FnE (P : Program) (w : World) (K : PySem.W.Frag) (mg : Str → Option Value) (base : Heap) (k : Nat) (f : Addr) (fd : FuncData) (ps : List Str) (sp : Addr × Obj → Sp) : Prop where
  len : ∀ p vs H Q E, sp p vs H Q E → vs.length = ps.length
  run : ∀ (A : Around) (outer : List Env) (s : Shared) (H : Hp) (args : Args) (us : List Value) (vs : List V) (Q : VK) (E : XK) (p : Addr × Obj),
    RoomH k A → PinOk outer H s p → Env0 P w K mg base A outer s H → BindsTo s fd args (ps.zip us) → Vals vs us → sp p vs H Q E → codeAny (model P w) A (.call (.ref f) args) (CR CX0 outer P w H s Q E) s
theorem fn_ofE {P : Program} {w : World} {K : PySem.W.Frag} {mg : Str → Option Value} {base : Heap} {k : Nat} {f : Addr} {name qual : Str} {params : Arguments} {body : List Stmt} {scope : Scope}
    {dV kV doc pm cdv ct oc : Value} {an od : Option Addr} {osl : Array (Option Value)} {N ps : List Str} {sp : Addr × Obj → Sp}
    (lk : K.lookup f = some ⟨oc, od, .func (PySem.W.fnOf name qual params body scope dV kV doc pm an cdv ct), osl⟩) (hcd : PySem.W.codeIn K cdv qual = true) (S : FnScope N ps scope)
    (len : ∀ p vs H Q E, sp p vs H Q E → vs.length = ps.length)
    (hbody : ∀ (A : Around) (outer : List Env) (s : Shared) (H : Hp) (vs : List V) (Q : VK) (E : XK) (p : Addr × Obj), RoomH k (A.deeper (envOfC qual scope s.heap.objs.size f cdv)) → sp p vs H Q E →
      ∃ t, PSs (cxH CX0 P w K mg base N qual scope f cdv A outer s H E p) body t ∧ t { nx := fun _ H' => Q .non H', rt := Q } (L2.start N vs) H) :
    FnE P w K mg base (k + 1) f (PySem.W.fnOf name qual params body scope dV kV doc pm an cdv ct) ps sp := by
  refine ⟨len, fun A outer s H args us vs Q E p hr hpin e0 hb r hsp => ?_⟩
  have hl := len p vs H Q E hsp
  have KX := PySem.W.Frag.In.keeps e0.mod.kin fun b o e => (e0.bs b o e).1
  have lim := Heap.NoLimit.keeps e0.mod.nolimit fun b o e => (e0.bs b o e).1
  refine codeAny_call_function hr.depth (KX f _ lk) rfl S.co S.gen rfl (PySem.W.codeRec_of KX hcd) ?_
  refine hb (model P w) A.in1 _ _ ?_
  refine wpAny_newFunctionEnv_cells S.kind (fun y hy => ?_) fun env he s1 x => ?_
  · obtain ⟨n, v⟩ := y
    rcases S.par n (List.of_mem_zip hy).1 with q | q
    · exact .inl q
    · exact .inr ⟨q, PySem.W.cellsFrom_some scope.names (s.heap.objs.size + 1) [] (.inl q)⟩
  · subst he
    refine ⟨lim.keeps x.toInCall.keep, codeAny_func ?_⟩
    obtain ⟨t, ht, hq⟩ := hbody A outer s H vs Q E p (hr.deeper _) hsp
    have I := inv_startH (CX := CX0) (w := w) (E := E) S hpin e0 hl r x
    refine wpAny_mono (ht.run [] s1 (L2.start N vs) H _ I hq) (fun fl s' hs => ?_) (fun e s' hs => hs)
    cases fl with
    | next =>
      obtain ⟨σ', H', J, q⟩ := hs
      exact ⟨V.non, H', J.os, J.bare, J.base, J.hok, rfl, q⟩
    | brk =>
      obtain ⟨_, _, _, q⟩ := hs
      exact q.elim
    | cont =>
      obtain ⟨_, _, _, q⟩ := hs
      exact q.elim
    | ret u =>
      obtain ⟨v, σ', H', J, rv, q⟩ := hs
      exact ⟨v, H', J.os, J.bare, J.base, J.hok, rv, q⟩
section
variable {X : Cx}
theorem pe_callE {k : Nat} {f : Addr} {fd : FuncData} {ps : List Str} {sp : Addr × Obj → Sp} {x : Str} {q pos : Pos} {e : Expr} {es : List Expr} {t : TA} {p : Addr × Obj}
    (F : FnE X.prog X.w X.K X.mg X.base k f fd ps sp) (hr : RoomH k X.A) (hp : p ∈ X.pn) (hg : Gl X x) (hm : X.mg x = some (.ref f)) (hk : PySem.W.keepIn X.K (.ref f) = true) (hb : Binds X.K fd ps [])
    (ha : PA X (e :: es) t) (hdb : (x == ("__debug__" : Str)) = false := by rfl) (he : starEach (e :: es) X.env = (false, eval e X.env) :: starEach es X.env := by rfl)
    (hpl : ((backTo pos (starEach es X.env)).any fun x => x.1) = false := by rfl) : PE X (.Call (.Name x q) (e :: es) [] pos) (fun σ H Q => t σ H fun vs H1 => sp p vs H1 Q fun _ _ _ => False) := by
  refine ⟨fun pins s σ H Q I h => wpAny_Call_Name_kw (ld_glob I hg hm (PySem.W.callWith_K I.ok.mod.kin hk (thn (ha.run pos pins s σ H _ I h) ?_) he hpl) hdb)⟩
  rintro us s1 ⟨vs, H1, I1, r, q1⟩
  refine ⟨I1.kIn, ?_⟩
  have hl : us.length = ps.length := by
    rw [← r.length]
    exact F.len p vs H1 Q _ q1
  have b := hb s1 us I1.kIn (by rw [List.append_nil]; exact hl)
  have P1 := I1.pin p (List.mem_append_left pins hp)
  have hpin : PinOk X.stack H1 s1 p := ⟨P1.1, P1.2.1, fun hm => (List.mem_cons.mp (I1.stkSub p.1 hm)).elim P1.2.2.1 P1.2.2.2.1, P1.2.2.2.2⟩
  rw [List.append_nil] at b
  refine wpAny_call (codeAny_mono (F.run X.A X.stack s1 H1 ⟨us, []⟩ us vs Q _ p hr hpin I1.env0 b r q1) fun rr s' hq => ?_)
  cases rr with
  | error e => exact hq.elim
  | ok fl =>
    cases fl with
    | next => exact hq.elim
    | brk => exact hq.elim
    | cont => exact hq.elim
    | ret u => exact I1.after hq
end
theorem funFrames_keep {h h' base : Heap} (k : ∀ b o, h.get? b = some o → h'.get? b = some o) : ∀ {l : List Env}, h.FunFrames base l → h'.FunFrames base l
  | [], f => f
  | e :: l, f => by
    unfold Heap.FunFrames at f ⊢
    obtain ⟨f1, ⟨L, o, e1, e2, e3, e4⟩, f3⟩ := f
    exact ⟨f1, ⟨L, o, e1, e2, k _ _ e3, e4⟩, funFrames_keep k f3⟩
theorem flying_keep {base h h' : Heap} {l : List Env} {e : Addr} {Z : Obj → Prop} (F : HandSPX.FlyingZ base l e Z h) (k : ∀ b o, h.get? b = some o → h'.get? b = some o) : HandSPX.FlyingZ base l e Z h' := by
  obtain ⟨f1, f2, f3, oe, vs, T, oT, ts, g1, g2, g3, g4, g5, g6, g7, g8, g9⟩ := F
  exact ⟨fun b o q => k _ _ (f1 b o q), f2, funFrames_keep k f3, oe, vs, T, oT, ts, k _ _ g1, g2, g3, g4, g5, g6, k _ _ g7, g8, g9⟩
theorem upTo_keep {h h' : Heap} (k : ∀ b o, h.get? b = some o → h'.get? b = some o) : h.UpToSlots h' := fun b o e _ => ⟨o.slots, k b o e⟩
def wAs3 (K : PySem.W.Frag) (cs : List Value) (m i : Nat) (ts : Addr → Value → Option Addr → TS) (D : Ends) : WX := fun cls d σ H => σ.length = m → PySem.W.exmAny K cls cs = some true ∧ ∀ a, H a = none →
  ts a cls d { nx := fun σ' H' => D.nx (σ'.set i none) H', rt := D.rt, bk := fun σ' H' => D.bk (σ'.set i none) H', ct := fun σ' H' => D.ct (σ'.set i none) H' } (σ.set i (some (.ref a))) H
theorem name_ok {X : Cx} {x : Str} {c : Value} (hc : Names X x c) {a : Addr} {pn : List (Addr × Obj)} {pins : List (Addr × Obj)} {s : Shared} {σ : L2.St} {H : Hp} (I : L2.Inv (X.suite a pn) pins σ H s)
    {p : Pos} {Q : Value → Shared → Prop} {E : Value → Shared → Prop} (q : Q c s) : wpAny (model X.prog X.w) (X.A.mark (some (.ref a))) (eval (.Name x p) X.env) Q E s := by
  obtain ⟨hg, hd, hm | ⟨hm, hv, hn⟩⟩ := hc
  · exact ld_glob I hg hm q hd
  · exact ld_blt I hg hm hv q hn hd
theorem ps_try_as3 {X : Cx} {x1 x2 x3 n : Str} {c1 c2 c3 : Value} {i : Nat} {body suite : List Stmt} {b₀ : Stmt} {p1 p2 p3 tp pos pos' : Pos} {kk m : Nat} {tb : WX → TS} {ts : Addr → Value → Option Addr → TS}
    (hs : X.stack = X.env :: X.outer) (hf : X.env.frame = some X.env.locals) (hN : X.N.Nodup) (hi : X.N[i]? = some n) (hln : X.env.kindOf n = some .local)
    (hm : X.N.length = m) (hc1 : Names X x1 c1) (hc2 : Names X x2 c2) (hc3 : Names X x3 c3)
    (hb : ∀ (W : WX) (pn : List (Addr × Obj)) (xe : Value → Shared → Prop), Takes (X.tr pn xe) W → PassesOwn (model X.prog X.w) X.A X.env xe → PSs (X.tr pn xe) body (tb W))
    (hsu : ∀ (a : Addr) (oe : Obj) (cls : Value) (d : Option Addr) (pn : List (Addr × Obj)), Zc cls d oe → (∃ vs, oe.data = .fields vs) → PSs (X.suite a ((a, oe) :: pn)) (b₀ :: suite) (ts a cls d)) :
    PS X (.Try body [.ExceptHandler (some (.Tuple [.Name x1 p1, .Name x2 p2, .Name x3 p3] kk tp)) (some n) (b₀ :: suite) pos'] [] [] pos) (fun D σ H => tb (wAs3 X.K [c1, c2, c3] m i ts D) D σ H) := by
  refine ⟨fun pins s σ H D I h => ?_⟩
  have ok := I.ok
  have hfr : X.A.frames = some (X.env :: X.outer) := by rw [ok.frames, hs]
  refine wpAny_Try_except (wpAny_mono ((hb (wAs3 X.K [c1, c2, c3] m i ts D) (X.pn ++ pins) _ ?_ PassesOwn.looking).run [] s σ H D (I.toTry _) h) (fun f s1 hsp => ?_) (fun e s1 he => he))
  · rintro u s' ⟨a, B, sI, pins', σ', H', cls, d, rfl, J', nb, up, sky, na, os, ag, hW⟩
    obtain ⟨hb1, hyes⟩ := hW (J'.len.trans hm)
    have J := J'.ofTry ok
    have sky' : L2.Sky B (X.env :: X.outer) a (Zc cls d) X.env.locals s'.heap := by
      rw [← hs]
      exact sky
    refine L2.Sky.land Zc.steady hfr hf sky' fun h3 fl3 up3 => ?_
    have J3 : L2.Inv X pins σ' H' { s' with heap := h3 } := J.landed nb fl3.1 (up.trans up3) os ag
    obtain ⟨oe3, vs3, he3, hz3, hd3⟩ := fl3.there
    have nfr : a ∉ frs (X.env :: X.outer) := fun hm => by
      obtain ⟨_, o', e', hnf⟩ := Heap.FunFrames.mem fl3.2.2.1 hm
      have e2 := e'.symm.trans he3
      cases e2
      exact hnf vs3 hd3
    have nL : a ≠ X.env.locals := fun z => nfr (List.mem_filterMap.mpr ⟨X.env, List.mem_cons_self, by rw [hf, z]⟩)
    have nF : a ∉ X.fs := fun hm => by
      obtain ⟨e, he, q⟩ := List.mem_filterMap.mp hm
      exact nfr (List.mem_filterMap.mpr ⟨e, List.mem_cons_of_mem _ he, q⟩)
    have S3 := J3.suite he3 hd3 na nL nF
    refine wpAny_handleBy_cons (codeAny_handlers_test ?_) (by intro q; cases q)
    refine wpAny_Tuple ?_
    refine Calls.spliced_cons (name_ok hc1 S3 (Calls.spliced_cons (name_ok hc2 S3 (Calls.spliced_cons (name_ok hc3 S3 (Calls.spliced_nil ?_))))))
    refine ⟨(by show 3 ≤ sizeLine; decide), ?_⟩
    have kp : ∀ b o, h3.get? b = some o → (h3.push { cls := .type "tuple", data := .seq #[c1, c2, c3] }).get? b = some o := fun b o e => Heap.get?_push_of_some _ e
    have fl5 := flying_keep fl3 kp
    have up5 := upTo_keep kp
    have LT : PySem.W.Looks (model X.prog X.w) (h3.push { cls := .type "tuple", data := .seq #[c1, c2, c3] }) (typeOf (.ref a)) cls := fun A Q E s k q => wpAny_typeOf_ref (k a oe3 (kp _ _ he3)) (by
      rw [hz3.1]
      exact q)
    have K5 : X.K.In (h3.push { cls := .type "tuple", data := .seq #[c1, c2, c3] }) := PySem.W.Frag.In.keeps J3.kIn kp
    have LM := PySem.W.exm_tup3 K5 LT (Heap.get?_push_size h3 rfl) hb1
    refine PySem.W.Looks.here LM ?_
    refine codeAny_handlers_suite_as (HandSPX.lands_againZ fl5 fun h4 fl4 up4 => ?_)
    have J4 : L2.Inv X pins σ' H' { s' with heap := h4 } := J.landed nb fl4.1 (((up.trans up3).trans up5).trans up4) os ag
    obtain ⟨oe4, vs4, he4, hz4, hd4⟩ := fl4.there
    have S4 := J4.suite he4 hd4 na nL nF
    refine store_ok (X := X.suite a ((a, oe4) :: (X.pn ++ pins))) (pins := []) (σ := σ') (H := H') (v := .ref a) S4 hN hi (.inl hln) rfl (fun s5 S5 => ?_) (.inr hln)
    refine wpAny_mono ((hsu a oe4 cls d (X.pn ++ pins) hz4 ⟨vs4, hd4⟩).run [] s5 _ H' _ S5 (hyes a na)) (fun f s6 hsp => ?_) (fun _ _ z => z.elim)
    cases f with
    | next =>
      obtain ⟨σ6, H6, S6, q6⟩ := hsp
      exact gone_ok (S6.unsuite ok) hN hi hln fun s7 J7 => ⟨_, H6, J7, q6⟩
    | brk =>
      obtain ⟨σ6, H6, S6, q6⟩ := hsp
      exact gone_ok (S6.unsuite ok) hN hi hln fun s7 J7 => ⟨_, H6, J7, q6⟩
    | cont =>
      obtain ⟨σ6, H6, S6, q6⟩ := hsp
      exact gone_ok (S6.unsuite ok) hN hi hln fun s7 J7 => ⟨_, H6, J7, q6⟩
    | ret u =>
      obtain ⟨v6, σ6, H6, S6, r6, q6⟩ := hsp
      exact gone_ok (S6.unsuite ok) hN hi hln fun s7 J7 => ⟨v6, _, H6, J7, r6, q6⟩
  · cases f with
    | next =>
      obtain ⟨σ', H', J', q⟩ := hsp
      exact wpAny_execs_nil ⟨σ', H', J'.ofTry ok, q⟩
    | brk =>
      obtain ⟨σ', H', J', q⟩ := hsp
      exact ⟨σ', H', J'.ofTry ok, q⟩
    | cont =>
      obtain ⟨σ', H', J', q⟩ := hsp
      exact ⟨σ', H', J'.ofTry ok, q⟩
    | ret u =>
      obtain ⟨v, σ', H', J', r, q⟩ := hsp
      exact ⟨v, σ', H', J'.ofTry ok, r, q⟩
theorem pe_weak {X : Cx} {e : Expr} {t t' : TE} (h : PE X e t) (w : ∀ σ H Q, t' σ H Q → t σ H Q) : PE X e t' := ⟨fun pins s σ H Q I q => h.run pins s σ H Q I (w σ H Q q)⟩
end Cs
set_option maxHeartbeats 4000000
/-! Rules of my own: errors of own classes over any built-in base, held as values. -/
namespace PySem
namespace CsLow
open PySem.W PySem.Calls PyProof.Rows PySem.HandSPX Builtin
abbrev rawX (C t : Addr) (d : Option Addr) : Obj := { cls := .ref C, dict := d, data := .fields #[.ref t, .none, .none, .none, .bool false, .none] }
section
variable {prog : Program} {w : World} {A : Around} {R : Result → Shared → Prop} {h : Heap} {g : Array GenState} {d : Drawn} {t : Nat} {os : OsState}
variable {nm q : Str} {C N : Addr} {bs bm bmB : List Value} {hdct : Bool} {sn : List Str} {sub : List Value} {ab : Bool} {col : Option Bool} {dd : Option Addr} {k0 k1 k2 k3 k5 : Option Value} {B newId initId : String}
/-- BaseException.__new__ given keywords: it does not look at them -/
theorem fresh_kw (FB : ExcBaseFacts B newId initId bmB) (tl : ∀ Y : String, bm.contains (.type Y) = bmB.contains (.type Y)) {f : Str} {u : Value}
    (at_ : h.get? C = some (excClassObj nm q C N bs bm hdct sn sub ab col dd k0 k1 k2 k3 k5 newId)) (k : R (.ok (.ret (.ref (h.objs.size + 1)))) ⟨(h.push { cls := .type "tuple", data := .seq #[] }).push (rawX C h.objs.size none), g, d, t, os⟩) :
    codeAny (model prog w) A (.builtin newId ⟨[.ref C], [(f, u)]⟩) R ⟨h, g, d, t, os⟩ := by
  have inB : ∀ Y, bmB.contains (.type Y) = true → (Value.ref C :: bm).contains (.type Y) = true := fun Y z => by rw [List.contains_cons, tl, z, Bool.or_true]
  have noB : ∀ Y, bmB.contains (.type Y) = false → (Value.ref C :: bm).contains (.type Y) = false := fun Y z => by
    rw [List.contains_cons, tl, z]
    rfl
  have b1 := inB _ FB.hasB
  have b2 := noB _ FB.noAttr
  have b3 := noB _ FB.noName
  have ends := FB.ends
  refine codeAny_builtinAt FB.entry ?_
  unfold Builtin.«BaseException.__new__»
  refine wpAt_bind (show wpAt _ _ _ (stack >>= _) _ _ _ from wpAt_bind (wpAt_stack fun _ _ => wpAt_of_wpAny ?_))
  wp_walk
  refine wpAt_of_wpAny ?_
  rw [FB.owner]
  repeat (first | with_reducible refine wpAny_madeHere_exc FB.canon at_ ?_ | with_reducible refine wpAny_loadPart_at at_ ?_ | (with_reducible refine wpAny_isSubtype_exc at_ ?_; first | rw [b1] | rw [b2] | rw [b3]) | wp_step)
  show R _ _
  rw [Heap.size_push]
  exact k
/-- .. and its check lets them pass -/
theorem check_kw {M : Model} {E : Value → Shared → Prop} (FB : ExcBaseFacts B newId initId bmB) (tl : ∀ Y : String, bm.contains (.type Y) = bmB.contains (.type Y)) {f : Str} {u : Value} {Q : Unit → Shared → Prop}
    (at_ : h.get? C = some (excClassObj nm q C N bs bm hdct sn sub ab col dd k0 k1 k2 k3 k5 newId)) (k : Q () ⟨h, g, d, t, os⟩) : wpAny M A (checkBuiltinCall newId ⟨[.ref C], [(f, u)]⟩) Q E ⟨h, g, d, t, os⟩ := by
  have inB : (Value.ref C :: bm).contains (.type B) = true := by rw [List.contains_cons, tl, FB.hasB, Bool.or_true]
  have star := FB.noStar
  simp only [checkBuiltinCall, FB.newKind, FB.newSplit, FB.newRow]
  repeat (first | refine wpAny_loadPart_at at_ ?_ | (refine wpAny_isSubtype_exc at_ ?_; rw [inB]) | refine wpAny_staticBase_exc at_ ?_ | refine wpAny_madeBy_exc at_ ?_ | simp only [bne_self_eq_false, Bool.false_eq_true, if_false] | wp_step)
  exact k
theorem type_kw (FB : ExcBaseFacts B newId initId bmB) (tl : ∀ Y : String, bm.contains (.type Y) = bmB.contains (.type Y)) {f : Str} {u : Value} {fI : Addr} {Q : Fin → Shared → Prop} {E : Value → Shared → Prop}
    (at_ : h.get? C = some (excClassObj nm q C N bs bm hdct sn sub ab col dd k0 k1 k2 k3 k5 newId)) (hi : W.Looks (model prog w) h (typeLookup (.ref C) "__init__") (some (.ref fI))) (hb : ∀ self, W.Looks (model prog w) h (bindSpecial (.ref fI) self) (.ref fI, [self]))
    (k : codeAny (model prog w) A (.call (.ref fI) ⟨[.ref (h.objs.size + 1)], [(f, u)]⟩)
      (fun r s' => match r with | .ok (.ret v) => v = .none ∧ Q (.done (.ret (.ref (h.objs.size + 1)))) s' | .ok _ => False | .error e => E e s')
      ⟨(h.push { cls := .type "tuple", data := .seq #[] }).push (rawX C h.objs.size none), g, d, t, os⟩) :
    wpAny (model prog w) A (Builtin.«type.__call__» ⟨[.ref C], [(f, u)]⟩) Q E ⟨h, g, d, t, os⟩ := by
  repeat (first | with_reducible refine wpAny_loadPart_at at_ ?_ | with_reducible refine wpAny_madeBy_exc at_ ?_ | wp_step)
  refine codeAny_call_builtin_code (Code.quiet_builtin _ FB.quiet) (check_kw FB tl at_ (fresh_kw FB tl at_ (show wpAny _ _ _ _ _ _ from ?_)))
  have grow : ∀ b o, h.get? b = some o → ((h.push { cls := .type "tuple", data := .seq #[] }).push (rawX C h.objs.size none)).get? b = some o := fun b o e => Heap.get?_push_of_some _ (Heap.get?_push_of_some _ e)
  have at2 := grow _ _ at_
  have atE : ((h.push { cls := .type "tuple", data := .seq #[] }).push (rawX C h.objs.size none)).get? (h.objs.size + 1) = some (rawX C h.objs.size none) := by heap_get
  have own : (Value.ref C :: bm).contains (.ref C) = true := by simp
  have j1 := hi.keeps grow
  have j2 := (hb (.ref (h.objs.size + 1))).keeps grow
  unfold isInstance
  repeat (first | with_reducible refine wpAny_loadPart_at atE ?_ | (with_reducible refine wpAny_isSubtype_exc at2 ?_; rw [own]) | wp_step)
  refine (show wpAny _ _ (typeLookup (.ref C) _) _ _ _ from j1.at (wpAny_holding (wpAny_bind (j2.at (wpAny_bind (wpAny_call (codeAny_mono k fun r s' z => ?_)))))))
  rcases r with e | (v | _ | _ | _) <;> first | exact z | exact z.elim | skip
  obtain ⟨rfl, z⟩ := z
  first | exact wpAny_pure (wpAny_pure z) | (wp_walk; exact z)
/-- C(f=u), C of errors with an __init__ of its own: the new error, then __init__ with it and the keyword -/
theorem call_kw (FB : ExcBaseFacts B newId initId bmB) (tl : ∀ Y : String, bm.contains (.type Y) = bmB.contains (.type Y)) {f : Str} {u : Value} {fI : Addr}
    (at_ : h.get? C = some (excClassObj nm q C N bs bm hdct sn sub ab col dd k0 k1 k2 k3 k5 newId)) (hi : W.Looks (model prog w) h (typeLookup (.ref C) "__init__") (some (.ref fI))) (hb : ∀ self, W.Looks (model prog w) h (bindSpecial (.ref fI) self) (.ref fI, [self]))
    (k : codeAny (model prog w) (A.under (.builtin "type.__call__" ⟨[.ref C], [(f, u)]⟩)) (.call (.ref fI) ⟨[.ref (h.objs.size + 1)], [(f, u)]⟩) (W.InitBack (h.objs.size + 1) R)
      ⟨(h.push { cls := .type "tuple", data := .seq #[] }).push (rawX C h.objs.size none), g, d, t, os⟩) :
    codeAny (model prog w) A (.call (.ref C) ⟨[], [(f, u)]⟩) R ⟨h, g, d, t, os⟩ := by
  have l1 := tc_lookup
  have l2 := tc_bind (.ref C)
  have isT : (⟨h, g, d, t, os⟩ : Shared).TypeIs (.ref C) "type" := ⟨_, at_, rfl⟩
  have grow : ∀ b o, h.get? b = some o → ((h.push { cls := .type "tuple", data := .seq #[] }).push (rawX C h.objs.size none)).get? b = some o := fun b o e => Heap.get?_push_of_some _ (Heap.get?_push_of_some _ e)
  refine codeAny_of_tree (show wpAny _ _ (callAny (.ref C) _) _ _ _ from ?_)
  repeat (any_goals (first | assumption | with_reducible refine wpAny_loadPart_at at_ ?_ | wp_step))
  refine ⟨rfl, ?_⟩
  refine codeAny_call_builtin_at (Code.quiet_builtin _ (by decide +kernel)) entry_typeCall (wpAny_check_type_call_sub at_ ?_)
  refine type_kw (A := A.under _) FB tl at_ hi hb (codeAny_mono k fun r s' z => ?_)
  rcases r with e | (v | _ | _ | _) <;> exact z
end
end CsLow
end PySem
set_option maxHeartbeats 4000000
/-! Comprehensions over data. -/
namespace Cs
open PySem L2 PyProof.Rows
theorem RpTA.get {p : Addr} {H : Hp} : ∀ {vs : List V} {ds : List PyData} {i : Nat} {v : V}, RpTA p H vs ds → vs[i]? = some v → ∃ d, ds[i]? = some d ∧ RpT p H v d
  | _, _, i, v, .nil, h => by simp at h
  | _, _, 0, v, .cons r t, h => by
    cases h
    exact ⟨_, rfl, r⟩
  | _, _, i + 1, v, .cons r t, h => by
    rw [List.getElem?_cons_succ] at h
    obtain ⟨d, e, q⟩ := RpTA.get t h
    exact ⟨d, by rw [List.getElem?_cons_succ]; exact e, q⟩
theorem RpTA.at_ {p : Addr} {H : Hp} : ∀ {vs : List V} {ds : List PyData} {i : Nat} {d : PyData}, RpTA p H vs ds → ds[i]? = some d → ∃ v, vs[i]? = some v ∧ RpT p H v d
  | _, _, i, d, .nil, h => by simp at h
  | _, _, 0, d, .cons r t, h => by
    cases h
    exact ⟨_, rfl, r⟩
  | _, _, i + 1, d, .cons r t, h => by
    rw [List.getElem?_cons_succ] at h
    obtain ⟨v, e, q⟩ := RpTA.at_ t h
    exact ⟨v, by rw [List.getElem?_cons_succ]; exact e, q⟩
theorem RpTA.snoc {p : Addr} {H : Hp} {vs : List V} {ds : List PyData} {v : V} {d : PyData} (h : RpTA p H vs ds) (r : RpT p H v d) : RpTA p H (vs ++ [v]) (ds ++ [d]) := h.append (.cons r .nil)
theorem take_snoc {α : Type} {xs : List α} {i : Nat} {x : α} (h : xs[i]? = some x) : xs.take (i + 1) = xs.take i ++ [x] := by
  rw [List.take_succ, h]
  rfl
section
variable {K : PySem.W.Frag} {p : Addr} {ds es : List PyData} {tl : TE} {ta : TA} {g : TG} {te : TE} {vs : List Nat} {σ : L2.St} {H1 : Hp} {Q : VK}
theorem lc_data (hl : es.length = ds.length) (hz : ds.length ≤ 1000) (ht : ∀ R : VK, (∀ v H2, Same H1 H2 → RpT p H2 v (.tuple ds) → R v H2) → tl σ H1 R)
    (hs : ∀ (j : Nat) (z : V) (d e : PyData) (H : Hp), ds[j]? = some d → es[j]? = some e → Same H1 H → RpT p H z d → ∀ R : VK, (∀ y H3, Same H H3 → RpT p H3 y e → R y H3) → g z (wipe σ vs) H fun σ2 H2 => wipe σ2 vs = wipe σ vs ∧ te σ2 H2 R)
    (k : ∀ D ys H', H1 D = none → Same H1 H' → H' D = some (.lst ys) → RpTA p H' ys es → Q (.ref D) H') : tLc (iTup K tl) g tYes te vs σ H1 Q := by
  refine ht _ fun v H2 s12 rv => ?_
  cases rv with
  | @tup a xs _ n h z r =>
    refine ⟨a, rfl, ⟨xs, SqT.rd h⟩, fun D hD => ?_⟩
    have ln := r.length
    refine lc_tup (K := K) (a := a) (xs := xs) (fun i H => Same H2 H ∧ ∃ ys, H D = some (.lst ys) ∧ ys.length = i ∧ RpTA p H ys (es.take i)) ⟨same_new hD, [], upd_same, rfl, .nil⟩ (fun i H _ p => SqT.rd (Rd.same h p.1)) (fun i x H hi ⟨sm, ys, hd, ly, ry⟩ => ?_) (fun H ⟨sm, ys, hd, ly, ry⟩ => k D ys H (s12.free hD) (s12.trans sm) hd (by rw [List.take_of_length_le (by omega)] at ry; exact ry))
    have hi2 := (List.getElem?_eq_some_iff.mp hi).1
    obtain ⟨d, hd2, rd⟩ := r.get hi
    have hy : i < es.length := by omega
    have key := hs i x d es[i] H hd2 (List.getElem?_eq_getElem hy) (s12.trans sm) (rd.keep (ExT.of (ExB.of sm))) (fun y H4 => ∃ acc, H4 D = some (.lst acc) ∧ acc.length < sizeLine ∧ Same H2 (upd H4 D (.lst (acc ++ [y]))) ∧ ∃ ys, upd H4 D (.lst (acc ++ [y])) D = some (.lst ys) ∧ ys.length = i + 1 ∧ RpTA p (upd H4 D (.lst (acc ++ [y]))) ys (es.take (i + 1))) fun y H3 s3 r3 => ?_
    · exact key
    · have hd3 := s3 _ _ hd
      refine ⟨ys, hd3, ?_, fun b o e => ?_, _, upd_same, ?_, ?_⟩
      · rw [ly]
        exact Nat.lt_of_lt_of_le (by omega : i < 1000) (by decide)
      · rw [upd_ne (ne_of_none e hD)]
        exact s3 _ _ (sm _ _ e)
      · rw [List.length_append, ly]
        rfl
      · rw [take_snoc (List.getElem?_eq_getElem hy)]
        exact ((ry.keep (ExT.of (ExB.of s3))).snoc r3).keep (ExT.put hd3)
theorem lc_dataL (hl : es.length = ds.length) (hz : ds.length ≤ 1000) (ht : ∀ R : VK, (∀ a xs H2, Same H1 H2 → H2 a = some (.lst xs) → RpTA p H2 xs ds → R (.ref a) H2) → tl σ H1 R)
  (hs : ∀ (j : Nat) (z : V) (d e : PyData) (H : Hp), ds[j]? = some d → es[j]? = some e → Same H1 H → RpT p H z d → ∀ R : VK, (∀ y H3, Same H H3 → RpT p H3 y e → R y H3) → g z (wipe σ vs) H fun σ2 H2 => wipe σ2 vs = wipe σ vs ∧ te σ2 H2 R)
  (k : ∀ D ys H', H1 D = none → Same H1 H' → H' D = some (.lst ys) → RpTA p H' ys es → Q (.ref D) H') : tLc (iList K tl) g tYes te vs σ H1 Q := by
  refine ht _ fun a xs H2 s12 h r => ?_
  refine ⟨a, rfl, ⟨xs, SqL.of h⟩, fun D hD => ?_⟩
  have ln := r.length
  refine lc_list (K := K) (a := a) (xs := xs) (fun i H => Same H2 H ∧ ∃ ys, H D = some (.lst ys) ∧ ys.length = i ∧ RpTA p H ys (es.take i)) ⟨same_new hD, [], upd_same, rfl, .nil⟩ (fun i H _ p => SqL.of (p.1 _ _ h)) (fun i x H hi ⟨sm, ys, hd, ly, ry⟩ => ?_) (fun H ⟨sm, ys, hd, ly, ry⟩ => k D ys H (s12.free hD) (s12.trans sm) hd (by rw [List.take_of_length_le (by omega)] at ry; exact ry))
  have hi2 := (List.getElem?_eq_some_iff.mp hi).1
  obtain ⟨d, hd2, rd⟩ := r.get hi
  have hy : i < es.length := by omega
  have key := hs i x d es[i] H hd2 (List.getElem?_eq_getElem hy) (s12.trans sm) (rd.keep (ExT.of (ExB.of sm))) (fun y H4 => ∃ acc, H4 D = some (.lst acc) ∧ acc.length < sizeLine ∧ Same H2 (upd H4 D (.lst (acc ++ [y]))) ∧ ∃ ys, upd H4 D (.lst (acc ++ [y])) D = some (.lst ys) ∧ ys.length = i + 1 ∧ RpTA p (upd H4 D (.lst (acc ++ [y]))) ys (es.take (i + 1))) fun y H3 s3 r3 => ?_
  · exact key
  · have hd3 := s3 _ _ hd
    refine ⟨ys, hd3, ?_, fun b o e => ?_, _, upd_same, ?_, ?_⟩
    · rw [ly]
      exact Nat.lt_of_lt_of_le (by omega : i < 1000) (by decide)
    · rw [upd_ne (ne_of_none e hD)]
      exact s3 _ _ (sm _ _ e)
    · rw [List.length_append, ly]
      rfl
    · rw [take_snoc (List.getElem?_eq_getElem hy)]
      exact ((ry.keep (ExT.of (ExB.of s3))).snoc r3).keep (ExT.put hd3)
theorem lc_zipD {fs : List PyData} (hl : es.length = min ds.length fs.length) (hz : ds.length ≤ 1000) (ht : ∀ R : List V → Hp → Prop, (∀ u v H2, Same H1 H2 → RpT p H2 u (.tuple ds) → RpT p H2 v (.tuple fs) → R [u, v] H2) → ta σ H1 R)
    (hs : ∀ (j : Nat) (T : Addr) (x y : V) (d f e : PyData) (H : Hp), ds[j]? = some d → fs[j]? = some f → es[j]? = some e → Same H1 H → H T = some (.tup [x, y]) → RpT p H x d → RpT p H y f → ∀ R : VK, (∀ y H3, Same H H3 → RpT p H3 y e → R y H3) → g (.ref T) (wipe σ vs) H fun σ2 H2 => wipe σ2 vs = wipe σ vs ∧ te σ2 H2 R)
    (k : ∀ D ys H', H1 D = none → Same H1 H' → H' D = some (.lst ys) → RpTA p H' ys es → Q (.ref D) H') : tLc (RZ.iZipA K ta) g tYes te vs σ H1 Q := by
  refine ht _ fun u v H2 s12 ru rv => ?_
  cases ru with
  | @tup a xs _ n h z r =>
    cases rv with
    | @tup b zs _ n' h' z' r' =>
      have ln := r.length
      have ln' := r'.length
      refine ⟨a, b, xs, zs, rfl, .inr ⟨SqT.rd h, SqT.rd h', fun D hD => ?_⟩⟩
      refine ⟨fun i m H => m = es.length - i ∧ i ≤ es.length ∧ Same H2 H ∧ ∃ ys, H D = some (.lst ys) ∧ ys.length = i ∧ RpTA p H ys (es.take i), ⟨es.length, by simp, Nat.zero_le _, same_new hD, [], upd_same, rfl, .nil⟩, ?_⟩
      rintro i m H ⟨rfl, hi, sm, ys, hd, ly, ry⟩
      by_cases hlt : i < es.length
      · have hx : i < xs.length := by omega
        have hy : i < zs.length := by omega
        refine .inr ⟨⟨xs, zs, xs[i], zs[i], SqT.rd (Rd.same h sm), SqT.rd (Rd.same h' sm), List.getElem?_eq_getElem hx, List.getElem?_eq_getElem hy⟩, fun H' => Same H2 H' ∧ ∃ ys, H' D = some (.lst ys) ∧ ys.length = i + 1 ∧ RpTA p H' ys (es.take (i + 1)), fun H' p' => ⟨es.length - (i + 1), by omega, rfl, hlt, p'⟩, fun w H' yl => ?_⟩
        obtain ⟨T, x, y, rfl, hT, rfl, e1, e2⟩ := yl
        have gx := e1 xs (SqT.rd (Rd.same h sm))
        have gy := e2 zs (SqT.rd (Rd.same h' sm))
        obtain ⟨d, hd2, rd⟩ := r.get gx
        obtain ⟨f, hf2, rf⟩ := r'.get gy
        have sT : Same H (upd H T (.tup [x, y])) := same_new hT
        have key := hs i T x y d f es[i] _ hd2 hf2 (List.getElem?_eq_getElem hlt) ((s12.trans sm).trans sT) upd_same (rd.keep (ExT.of (ExB.of (sm.trans sT)))) (rf.keep (ExT.of (ExB.of (sm.trans sT))))
          (fun y H4 => ∃ acc, H4 D = some (.lst acc) ∧ acc.length < sizeLine ∧ Same H2 (upd H4 D (.lst (acc ++ [y]))) ∧ ∃ ys, upd H4 D (.lst (acc ++ [y])) D = some (.lst ys) ∧ ys.length = i + 1 ∧ RpTA p (upd H4 D (.lst (acc ++ [y]))) ys (es.take (i + 1))) fun y H3 s3 r3 => ?_
        · exact key
        · have hd3 := s3 _ _ (sT _ _ hd)
          refine ⟨ys, hd3, ?_, fun b o e => ?_, _, upd_same, ?_, ?_⟩
          · rw [ly]
            exact Nat.lt_of_lt_of_le (by omega : i < 1000) (by decide)
          · rw [upd_ne (ne_of_none e hD)]
            exact s3 _ _ (sT _ _ (sm _ _ e))
          · rw [List.length_append, ly]
            rfl
          · rw [take_snoc (List.getElem?_eq_getElem hlt)]
            exact ((ry.keep (ExT.of (ExB.of (sT.trans s3)))).snoc r3).keep (ExT.put hd3)
      · have e : i = es.length := by omega
        subst e
        refine .inl ⟨⟨xs, zs, SqT.rd (Rd.same h sm), SqT.rd (Rd.same h' sm), by omega⟩, k D ys H (s12.free hD) (s12.trans sm) hd (by rw [List.take_of_length_le (Nat.le_refl _)] at ry; exact ry)⟩
/-- over zip, by a test: as many v's as pass -/
theorem lc_zipF {fs : List PyData} {tt : TT} {c : PyData → PyData → Bool} {v : V} (hl : ds.length ≤ 1000) (ht : ∀ R : List V → Hp → Prop, (∀ u v H2, Same H1 H2 → RpT p H2 u (.tuple ds) → RpT p H2 v (.tuple fs) → R [u, v] H2) → ta σ H1 R)
    (hs : ∀ (j : Nat) (T : Addr) (x y : V) (d f : PyData) (H : Hp), ds[j]? = some d → fs[j]? = some f → Same H1 H → H T = some (.tup [x, y]) → RpT p H x d → RpT p H y f → ∀ R : Bool → Hp → Prop, (∀ H3, Same H H3 → R (c d f) H3) → g (.ref T) (wipe σ vs) H fun σ2 H2 => wipe σ2 vs = wipe σ vs ∧ tt σ2 H2 R)
    (k : ∀ D n H', H1 D = none → Same H1 H' → H' D = some (.lst (List.replicate n v)) → (decide (n = 0) = (ds.zip fs).all fun q => !c q.1 q.2) → Q (.ref D) H') : tLc (RZ.iZipA K ta) g tt (tC v) vs σ H1 Q := by
  refine ht _ fun u w H2 s12 ru rv => ?_
  cases ru with
  | @tup a xs _ n h z r =>
    cases rv with
    | @tup b zs _ n' h' z' r' =>
      have ln := r.length
      have ln' := r'.length
      have lz : (ds.zip fs).length = min ds.length fs.length := List.length_zip
      refine ⟨a, b, xs, zs, rfl, .inr ⟨SqT.rd h, SqT.rd h', fun D hD => ?_⟩⟩
      refine ⟨fun i m H => m = (ds.zip fs).length - i ∧ i ≤ (ds.zip fs).length ∧ Same H2 H ∧ ∃ n, H D = some (.lst (List.replicate n v)) ∧ n ≤ i ∧ decide (n = 0) = ((ds.zip fs).take i).all (fun q => !c q.1 q.2), ⟨(ds.zip fs).length, by simp, Nat.zero_le _, same_new hD, 0, upd_same, Nat.le_refl _, rfl⟩, ?_⟩
      rintro i m H ⟨rfl, hi, sm, cn, hd, lc, ec⟩
      by_cases hlt : i < (ds.zip fs).length
      · have hx : i < xs.length := by omega
        have hy : i < zs.length := by omega
        refine .inr ⟨⟨xs, zs, xs[i], zs[i], SqT.rd (Rd.same h sm), SqT.rd (Rd.same h' sm), List.getElem?_eq_getElem hx, List.getElem?_eq_getElem hy⟩, fun H' => Same H2 H' ∧ ∃ n, H' D = some (.lst (List.replicate n v)) ∧ n ≤ i + 1 ∧ decide (n = 0) = ((ds.zip fs).take (i + 1)).all (fun q => !c q.1 q.2), fun H' p' => ⟨(ds.zip fs).length - (i + 1), by omega, rfl, hlt, p'⟩, fun w' H' yl => ?_⟩
        obtain ⟨T, x, y, rfl, hT, rfl, e1, e2⟩ := yl
        have gx := e1 xs (SqT.rd (Rd.same h sm))
        have gy := e2 zs (SqT.rd (Rd.same h' sm))
        obtain ⟨d, hd2, rd⟩ := r.get gx
        obtain ⟨f, hf2, rf⟩ := r'.get gy
        have sT : Same H (upd H T (.tup [x, y])) := same_new hT
        have gz : (ds.zip fs)[i]? = some (d, f) := by
          rw [List.getElem?_zip_eq_some]
          exact ⟨hd2, hf2⟩
        have key := hs i T x y d f _ hd2 hf2 ((s12.trans sm).trans sT) upd_same (rd.keep (ExT.of (ExB.of (sm.trans sT)))) (rf.keep (ExT.of (ExB.of (sm.trans sT))))
          (fun b H3 => if b = true then ∃ acc, H3 D = some (.lst acc) ∧ acc.length < sizeLine ∧ (Same H2 (upd H3 D (.lst (acc ++ [v]))) ∧ ∃ n, upd H3 D (.lst (acc ++ [v])) D = some (.lst (List.replicate n v)) ∧ n ≤ i + 1 ∧ decide (n = 0) = ((ds.zip fs).take (i + 1)).all (fun q => !c q.1 q.2))
            else Same H2 H3 ∧ ∃ n, H3 D = some (.lst (List.replicate n v)) ∧ n ≤ i + 1 ∧ decide (n = 0) = ((ds.zip fs).take (i + 1)).all (fun q => !c q.1 q.2)) fun H3 s3 => ?_
        · exact key
        have hd3 := s3 _ _ (sT _ _ hd)
        have sA := sm.trans (sT.trans s3)
        cases e : c d f with
        | false =>
          rw [if_neg Bool.false_ne_true]
          refine ⟨sA, cn, hd3, by omega, ?_⟩
          rw [take_snoc gz, List.all_append, ← ec]
          simp [e]
        | true =>
          rw [if_pos rfl]
          refine ⟨_, hd3, ?_, fun b o q => ?_, cn + 1, ?_, by omega, ?_⟩
          · rw [List.length_replicate]
            exact Nat.lt_of_lt_of_le (by omega : cn < 1001) (by decide)
          · rw [upd_ne (ne_of_none q hD)]
            exact sA _ _ q
          · rw [upd_same, List.replicate_succ']
          · rw [take_snoc gz, List.all_append]
            simp [e]
      · have e : i = (ds.zip fs).length := by omega
        subst e
        refine .inl ⟨⟨xs, zs, SqT.rd (Rd.same h sm), SqT.rd (Rd.same h' sm), by omega⟩, k D cn H (s12.free hD) (s12.trans sm) hd ?_⟩
        rw [ec, List.take_of_length_le (Nat.le_refl _)]
end
section
variable {X : Cx} {K : PySem.W.Frag} {es : List Expr} {k n : Nat} {t : TGs} {pos : Pos} {e : Expr} {ta : TE} {f : Str}
/-- the target of a comprehension, K told apart -/
theorem pg_tupK (hK : X.K = K) (hc : X.calm = true) (h : PGs X es t) (hn : (assignEach es X.env).length = n := by rfl) (hst : (assignEach es X.env).findIdx? (fun x => x.1) = none := by rfl) : PG X (.Tuple es k pos) (gTup K n t) := by
  subst hK
  exact pg_tup hc h hn hst
theorem pe_fldK (hK : X.K = K) (ha : PE X e ta) (hb : attributeBase e f X.env (eval e X.env) = eval e X.env) : PE X (.Attribute e f pos) (tFld K ta f) := by
  subst hK
  exact pe_fld ha hb
end
mutual
theorem RpT.dp {p : Addr} {H : Hp} {K : PySem.W.Frag} : ∀ {v : V} {d : PyData}, RpT p H v d → Dp K H v d
  | _, _, .non => .non
  | _, _, .bl b => .bl b
  | _, _, .int i => .int i
  | _, _, .str x h => .str x
  | _, _, .tup n h z r => .tup (SqT.rd h) (RpTA.dp r)
theorem RpTA.dp {p : Addr} {H : Hp} {K : PySem.W.Frag} : ∀ {vs : List V} {ds : List PyData}, RpTA p H vs ds → DpAll K H vs ds
  | _, _, .nil => .nil
  | _, _, .cons h t => .cons (RpT.dp h) (RpTA.dp t)
end
theorem lay_map {α : Type} {f : α → PyData} : ∀ {xs : List α}, (∀ x ∈ xs, (f x).canLay0 = true) → PyData.canLayAll0 (xs.map f) = true
  | [], _ => rfl
  | x :: xs, h => by
    show ((f x).canLay0 && PyData.canLayAll0 (xs.map f)) = true
    rw [h x List.mem_cons_self, lay_map fun y hy => h y (List.mem_cons_of_mem _ hy)]
    rfl
theorem dep_map {α : Type} {f : α → PyData} {b : Nat} : ∀ {xs : List α}, (∀ x ∈ xs, (f x).depth ≤ b) → PyData.depthAll (xs.map f) ≤ b
  | [], _ => Nat.zero_le _
  | x :: xs, h => Nat.max_le.mpr ⟨h x List.mem_cons_self, dep_map fun y hy => h y (List.mem_cons_of_mem _ hy)⟩
theorem strOk_name {x : Str} (h : isName (.str x) = true) : PyData.strOk x = true := by
  have h2 := (Bool.and_eq_true_iff.mp (show ((decide (1 ≤ x.length) && decide (x.length ≤ 8)) && x.cps.toList.all letterC) = true from h)).2
  show x.cps.all (fun c => decide (c < 0x110000)) = true
  rw [← Array.all_toList, List.all_eq_true]
  intro c hc
  have h3 := List.all_eq_true.mp h2 c hc
  have h4 := of_decide_eq_true (Bool.and_eq_true_iff.mp (show (decide (97 ≤ c) && decide (c ≤ 122)) = true from h3)).2
  exact decide_eq_true (by omega)
end Cs
set_option maxHeartbeats 4000000
/-! Rules of my own: errors of own classes over any built-in base, held as values. -/
namespace Cs
open PySem L2 PyProof.Rows
open PySem.W (InstAt)
open Builtin Builtin.ObjectAttr
/-- what is known of an own class of errors at C, over the built-in base B -/
structure OexG (K : PySem.W.Frag) (C : Addr) (bmB : List Value) (newId : String) : Prop where
  ini : PySem.W.excInitIn K C bmB newId = true
  over : PySem.W.excOver K C bmB = true
  sa : PySem.W.findIn K (.ref C) "__setattr__" = some (some (.builtin "object.__setattr__"))
  hd : PySem.W.hasDictIn K C = true
  kC : PySem.W.keepIn K (.ref C) = true
abbrev rawX (C t : Addr) (d : Option Addr) : Obj := { cls := .ref C, dict := d, data := .fields #[.ref t, .none, .none, .none, .bool false, .none] }
section
variable {prog : Program} {w : World} {A : Around} {E : Value → Shared → Prop} {s : Shared}
/-- the first store to an error that has no dict yet -/
theorem store_first {K : PySem.W.Frag} {x C t : Addr} {name : Str} {tk : Tok} {v : Value} {b : Bool} {Q : Fin → Shared → Prop} (X : K.In s.heap) (hx : s.heap.get? x = some (rawX C t none)) (hh : PySem.W.hasDictIn K C = true)
    (k : ∀ h' tk' dx, (∀ b o, b ≠ x → s.heap.get? b = some o → h'.get? b = some o) → s.heap.objs.size ≤ dx → dx ≠ x → h'.get? x = some (rawX C t (some dx)) → h'.Ns1 dx (fun y => if y = name then some v else none) →
      Q (.done (.ret .none)) { s with heap := h', toks := tk' }) :
    wpAny (model prog w) A (storeInOwnDict (.ref x) (.ref C) (.str name tk) name v b) Q E s := by
  obtain ⟨cd, hc, hh⟩ := PySem.W.any_some hh
  have LC : PySem.W.Looks (model prog w) s.heap (classData C) cd := PySem.W.looks_clsIn X hc
  obtain ⟨hp, g, d, tok, os⟩ := s
  have nx : x ≠ hp.objs.size := Nat.ne_of_lt (Heap.lt_size hx)
  obtain ⟨c1, c2, c3, c4, c5, c6, c7, c8, c9, c10, c11⟩ := cd
  have hh : c6 = true := hh
  subst hh
  unfold storeInOwnDict ownDictForStores
  repeat (first | with_reducible refine HandSPX.store_in_new ?_ ?_ | with_reducible refine wpAny_loadPart_at hx ?_ | with_reducible refine LC.at ?_ | wp_step)
  · exact ⟨_, #[], _, (Heap.get?_update_ne _ _ _ _ (Ne.symm nx)).trans (Heap.get?_push_at rfl rfl), rfl, fun y hy => absurd hy (by simp), fun _ => rfl⟩
  · intro h2 t2 n2 b2
    have old : (hp.push { cls := .type "dict", data := .dict #[] }).get? x = some (rawX C t none) := Heap.get?_push_of_some _ hx
    refine k h2 t2 hp.objs.size (fun y o ny hy => ?_) (Nat.le_refl _) (Ne.symm nx) ?_ n2
    · rw [b2.2 y (Nat.ne_of_lt (Heap.lt_size hy)), Heap.get?_update_ne _ _ _ _ ny]
      exact Heap.get?_push_of_some _ hy
    · rw [b2.2 x nx]
      exact Heap.get?_update_self _ old rfl
end
section
variable {X : Cx} {pins : List (Addr × Obj)} {σ : L2.St} {H : Hp} {s : Shared} {a C : Addr} {f : Str} {y : V} {u : Value} {bmB : List Value} {B newId initId : String}
/-- self.f = y in an __init__, the first one -/
theorem set_first {A : Around} {E : Value → Shared → Prop} {Q : Unit → Shared → Prop} (SF : StoreFacts B bmB "object.__setattr__" "object") (T : OexG X.K C bmB newId) (I : L2.Inv X pins σ H s) (e : H a = some (exo a C none)) (ht : PySem.W.takerIn X.K C f = some none) (ry : RelV y u)
    (h : ∀ dx s', H dx = none → dx ≠ a → L2.Inv X pins σ (upd (upd H dx (exd dx [(f, y)])) a (exo a C (some dx))) s' → Q () s') : wpAny (model X.prog X.w) A (setAttr (.ref a) f u) Q E s := by
  obtain ⟨t, ho⟩ := exo_at I.hok e
  have KI := I.kIn
  obtain ⟨hp, g, d, tok, os⟩ := s
  refine PySem.W.set_plain KI (ox := rawX C t none) (od := none) ⟨ho, rfl, rfl, trivial⟩ T.sa (PySem.W.osa_openX (ox := rawX C t none) (od := none) SF KI ⟨ho, rfl, rfl, trivial⟩ T.over ht fun b => store_first KI ho T.hd fun h2 t2 dx kp ge ne at2 ns => ?_)
  have hdx : H dx = none := I.hok.fresh ge
  have da : ∀ {b : Addr}, H b = none → b ≠ a := fun {b} n z => by
    rw [z, e] at n
    exact nomatch n
  have dd : ∀ {b : Addr} {o : Obj}, hp.get? b = some o → b ≠ dx := fun {b o} q z => absurd (Heap.lt_size q) (by rw [z]; exact Nat.not_lt.mpr ge)
  have eq2 : ∀ b o, H b = some o → o ≠ exo a C none → upd (upd H dx (exd dx [(f, y)])) a (exo a C (some dx)) b = some o := fun b o q nq => by
    rw [upd_ne (fun z => by rw [z, e] at q; exact nq (Option.some.inj q).symm), upd_ne (ne_of_none q hdx)]
    exact q
  have U : Un X.fs [] H (upd (upd H dx (exd dx [(f, y)])) a (exo a C (some dx))) hp h2 := by
    refine ⟨?_, ?_, ?_, ?_, ?_, ?_, ?_⟩
    · exact fun b o q n _ _ => kp b o (da n) q
    · exact fun b o q n _ _ => ⟨o.slots, kp b o (da n) q⟩
    · exact fun b o q n _ => (upd_ne (da n)).trans ((upd_ne (dd q)).trans n)
    · intro b o q _
      by_cases z : b = a
      · exact z ▸ ⟨_, at2⟩
      · exact ⟨o, kp b o z q⟩
    · exact fun b xs q => eq2 b _ q (Ne.symm exo_tup)
    · exact fun b o v q => eq2 b _ q (Ne.symm exo_frz)
    · exact fun b ps q => ⟨#[], by rw [eq2 b _ q (Ne.symm exo_tbl)]; simp⟩
  refine h dx _ hdx ne (I.un (t' := t2) U fun b o q => ?_)
  by_cases za : b = a
  · subst za
    obtain rfl := Option.some.inj ((upd_same).symm.trans q)
    exact exo_ok at2
  · rw [upd_ne za] at q
    by_cases zd : b = dx
    · subst zd
      obtain rfl := Option.some.inj ((upd_same).symm.trans q)
      exact exd_ok ns (relO_put (fs := []) ry fun _ => trivial)
    · rw [upd_ne zd] at q
      refine (I.hok b o q).stay (fun c v hc z => kp c v ?_ z) (fun c hc => eq2 c _ hc (Ne.symm exo_own)) (fun c xs hc => eq2 c _ hc (Ne.symm exo_tup))
      rcases hc with hc | hc
      · exact hc ▸ za
      · exact at_ne e hc exo_own
def tSetF (a C : Addr) (f : Str) (te : TE) : TS := fun D σ H => te σ H fun y H1 => H1 a = some (exo a C none) ∧ σ[0]? = some (some (.ref a)) ∧ ∀ dx, H1 dx = none → dx ≠ a → D.nx σ (upd (upd H1 dx (exd dx [(f, y)])) a (exo a C (some dx)))
end
/-- __init__ of an error that keeps what it is made with under the name f -/
def SpXI (C : Addr) (f : Str) : Sp := fun vs H Q _ => ∃ (a : Addr) (y : V), vs = [.ref a, y] ∧ H a = some (exo a C none) ∧
  ∀ d, H d = none → d ≠ a → Q .non (upd (upd H d (exd d [(f, y)])) a (exo a C (some d)))
section
variable {X : Cx} {C : Addr} {f : Str} {bmB : List Value} {B newId initId : String} {o e : Expr} {to te : TE} {p' pos : Pos}
def tOsG (C : Addr) (f : Str) (to te : TE) : TS := fun D σ H => te σ H fun y H1 => to σ H1 fun x H2 => ∃ a : Addr, x = .ref a ∧ H2 a = some (exo a C none) ∧ ∀ dx, H2 dx = none → dx ≠ a → D.nx σ (upd (upd H2 dx (exd dx [(f, y)])) a (exo a C (some dx)))
theorem ps_osG (SF : StoreFacts B bmB "object.__setattr__" "object") (T : OexG X.K C bmB newId) (ht : PySem.W.takerIn X.K C f = some none) (ho : PE X o to) (he : PE X e te) (hs : swapsWith e (some (.Attribute o f p')) pos.line X.env = pure false := by rfl) :
    PS X (.Assign [.Attribute o f p'] e pos) (tOsG C f to te) := by
  refine ⟨fun pins s σ H D I h => plainObj_wpAny_Assign_Attribute (thn (he.run pins s σ H _ I h) ?_) hs⟩
  rintro v s1 ⟨y, H1, I1, r1, q1⟩
  refine thn (ho.run pins s1 σ H1 _ I1 q1) ?_
  rintro u s2 ⟨x, H2, I2, r2, a, rfl, ea, q⟩
  cases r2
  exact set_first SF T I2 ea ht r1 fun dx s' n ne J => ⟨σ, _, J, q dx n ne⟩
end
/-- what C(v) makes: a new error at a, its dict at d -/
def tMkV (C : Addr) (f : Str) (ta : TA) : TE := fun σ H Q => ta σ H fun vs H1 => ∃ v, vs = [v] ∧ ∀ a d H', H1 a = none → H1 d = none → Same H1 H' → H' a = some (exo a C (some d)) → H' d = some (exd d [(f, v)]) → Q (.ref a) H'
/-- what is known of the class x, which keeps one thing under f -/
structure XAt (K : PySem.W.Frag) (mg : Str → Option Value) (x : Str) (C : Addr) (f : Str) (bmB : List Value) (newId : String) (fI : Addr) (fd : FuncData) : Prop where
  T : OexG K C bmB newId
  g : mg x = some (.ref C)
  ini : PySem.W.findIn K (.ref C) "__init__" = some (some (.ref fI))
  ty : PySem.W.typeIn K (.ref fI) = some (.type "function")
  b : Binds K fd ["self", f] []
  kb : KBn K fd ["self", f] 1 [f] (fun us ws => us ++ ws) (fun vs zs => vs ++ zs)
/-- what __init__ has made of the new error at a -/
def MadeOf (H : Hp) (C : Addr) (f : Str) (v : V) (a : Addr) (H' : Hp) : Prop := ∃ d, H d = none ∧ Same H H' ∧ H' a = some (exo a C (some d)) ∧ H' d = some (exd d [(f, v)])
section
variable {X : Cx} {C fI : Addr} {f : Str} {bmB : List Value} {B newId initId : String} {e : Expr} {te : TE} {fd : FuncData} {p pos kp : Pos} {x : Str} {pins : List (Addr × Obj)} {σ : L2.St} {H : Hp} {s : Shared} {u : Value} {v : V} {Q : VK}
/-- the making, whatever way v comes in: what __init__ leaves is the error -/
theorem made_end {A : Around} {args : Args} (F : FnOk X.prog X.w X.K X.mg X.base CX0 1 fI fd ["self", f] (SpXI C f)) (hr : Room 1 A) {h2 : Heap} {g : Array GenState} {dr : Drawn} {tk : Nat} {os : OsState} {a : Addr} (hn : H a = none)
    (e0 : Env0 X.prog X.w X.K X.mg X.base A X.stack ⟨h2, g, dr, tk, os⟩ (upd H a (exo a C none))) (I2 : L2.Inv X pins σ (upd H a (exo a C none)) ⟨h2, g, dr, tk, os⟩) (hb : BindsTo ⟨h2, g, dr, tk, os⟩ fd args [("self", .ref a), (f, u)]) (r : RelV v u)
    (k : ∀ d H', H d = none → Same H H' → H' a = some (exo a C (some d)) → H' d = some (exd d [(f, v)]) → Q (.ref a) H') :
    codeAny (model X.prog X.w) A (.call (.ref fI) args) (fun r s' => match r with | .ok (.ret z) => z = .none ∧ EP X pins σ Q (.ref a) s' | _ => False) ⟨h2, g, dr, tk, os⟩ := by
  refine codeAny_mono (F.run A X.stack ⟨h2, g, dr, tk, os⟩ (upd H a (exo a C none)) args [.ref a, u] [.ref a, v] (fun z H3 => z = .non ∧ MadeOf H C f v a H3) (fun _ _ _ => False) hr e0 hb (.cons rfl (.cons r .nil)) ⟨a, v, rfl, upd_same, fun d hd hne => ⟨rfl, d, ?_, fun b o q => ?_, upd_same, ?_⟩⟩) fun rr s' hq => ?_
  · rw [upd_ne hne] at hd
    exact hd
  · rw [upd_ne hne] at hd
    rw [upd_ne (ne_of_none q hn), upd_ne (ne_of_none q hd), upd_ne (ne_of_none q hn)]
    exact q
  · rw [upd_ne hne, upd_same]
  · cases rr with
    | error z => exact False.elim hq
    | ok fl =>
      cases fl with
      | next => exact False.elim hq
      | brk => exact False.elim hq
      | cont => exact False.elim hq
      | ret z =>
        obtain ⟨y, H3, o3, b3, u3, k3, rz, ez, d, hd, sm, h1, h2'⟩ := hq
        subst ez
        refine ⟨rz, .ref a, H3, I2.call' (ch := []) o3 u3 k3 b3 (fun b hb => (List.not_mem_nil hb).elim), rfl, k d H3 hd sm h1 h2'⟩
theorem run_pos (FB : ExcBaseFacts B newId initId bmB) (D : XAt X.K X.mg x C f bmB newId fI fd) (F : FnOk X.prog X.w X.K X.mg X.base CX0 1 fI fd ["self", f] (SpXI C f)) (hr : Room 2 X.A) (I : L2.Inv X pins σ H s) (r : RelV v u)
    (k : ∀ a d H', H a = none → H d = none → Same H H' → H' a = some (exo a C (some d)) → H' d = some (exd d [(f, v)]) → Q (.ref a) H') : wpAny (model X.prog X.w) X.A (call (.ref C) [u]) (EP X pins σ Q) X.xe s := by
  have KI := I.kIn
  obtain ⟨nm, N', qn, bs, bm, hdct, sn, sub, ab, col, dd, k0, k1, k2, k3, k5, hC, hT⟩ := PySem.W.excInit_of KI D.T.ini
  obtain ⟨hp, g, dr, tk, os⟩ := s
  have ge : hp.objs.size ≤ hp.objs.size + 1 := Nat.le_succ _
  have hn : H (hp.objs.size + 1) = none := I.hok.fresh ge
  have at2 : ((hp.push (PySem.W.kdv_tup [u])).push (HandSPX.excO C hp.objs.size)).get? (hp.objs.size + 1) = some (HandSPX.excO C hp.objs.size) := by heap_get
  have I2 := I.laid (t' := tk) (a := hp.objs.size + 1) (o := exo (hp.objs.size + 1) C none) (h' := (hp.push (PySem.W.kdv_tup [u])).push (HandSPX.excO C hp.objs.size)) (fun b o q => Heap.get?_push_of_some _ (Heap.get?_push_of_some _ q)) ge (exo_ok at2)
  refine wpAny_call (HandSPX.call_own FB hT hC (PySem.W.looks_findIn KI D.ini) (fun self => PySem.W.bind_fn KI self D.ty) (by show 1 ≤ sizeLine; decide) (codeAny_mono (made_end F (hr.make C [u] []) hn (I2.env0.make C [u] []) I2
    (D.b _ [.ref (hp.objs.size + 1), u] I2.kIn rfl) r fun d H' => k _ d H' hn) fun rr s' hq => ?_))
  rcases rr with z | (z | _ | _ | _) <;> first | exact hq | exact False.elim hq
theorem run_kw (FB : ExcBaseFacts B newId initId bmB) (D : XAt X.K X.mg x C f bmB newId fI fd) (F : FnOk X.prog X.w X.K X.mg X.base CX0 1 fI fd ["self", f] (SpXI C f)) (hr : Room 2 X.A) (I : L2.Inv X pins σ H s) (r : RelV v u)
    (k : ∀ a d H', H a = none → H d = none → Same H H' → H' a = some (exo a C (some d)) → H' d = some (exd d [(f, v)]) → Q (.ref a) H') : codeAny (model X.prog X.w) X.A (.call (.ref C) ⟨[], [(f, u)]⟩) (fun r s' => match r with | .ok (.ret z) => EP X pins σ Q z s' | _ => False) s := by
  have KI := I.kIn
  obtain ⟨nm, N', qn, bs, bm, hdct, sn, sub, ab, col, dd, k0, k1, k2, k3, k5, hC, hT⟩ := PySem.W.excInit_of KI D.T.ini
  obtain ⟨hp, g, dr, tk, os⟩ := s
  have ge : hp.objs.size ≤ hp.objs.size + 1 := Nat.le_succ _
  have hn : H (hp.objs.size + 1) = none := I.hok.fresh ge
  have at2 : ((hp.push { cls := .type "tuple", data := .seq #[] }).push (CsLow.rawX C hp.objs.size none)).get? (hp.objs.size + 1) = some (CsLow.rawX C hp.objs.size none) := by heap_get
  have I2 := I.laid (t' := tk) (a := hp.objs.size + 1) (o := exo (hp.objs.size + 1) C none) (h' := (hp.push { cls := .type "tuple", data := .seq #[] }).push (CsLow.rawX C hp.objs.size none)) (fun b o q => Heap.get?_push_of_some _ (Heap.get?_push_of_some _ q)) ge (exo_ok at2)
  refine CsLow.call_kw FB hT hC (PySem.W.looks_findIn KI D.ini) (fun self => PySem.W.bind_fn KI self D.ty) (codeAny_mono (made_end F (hr.make C [] [(f, u)]) hn (I2.env0.make C [] [(f, u)]) I2
    (D.kb.to _ [.ref (hp.objs.size + 1)] [u] I2.kIn rfl rfl) r fun d H' => k _ d H' hn) fun rr s' hq => ?_)
  rcases rr with z | (z | _ | _ | _) <;> first | exact hq | exact False.elim hq
/-- C(e), as a value -/
theorem mk_pos (FB : ExcBaseFacts B newId initId bmB) (D : XAt X.K X.mg x C f bmB newId fI fd) (F : FnOk X.prog X.w X.K X.mg X.base CX0 1 fI fd ["self", f] (SpXI C f)) (hr : Room 2 X.A) (hg : Gl X x) (he : PE X e te) (hdb : (x == ("__debug__" : Str)) = false := by rfl)
    (hs : starEach [e] X.env = (false, eval e X.env) :: starEach [] X.env := by rfl) (hpl : ((backTo pos (starEach [] X.env)).any fun x => x.1) = false := by rfl) : PE X (.Call (.Name x p) [e] [] pos) (tMkV C f (tCons te tNil)) := by
  refine ⟨fun pins s σ H Q I h => wpAny_Call_Name_kw (ld_glob I hg D.g (PySem.W.callWith_K I.ok.mod.kin D.T.kC (thn ((pa_cons he pa_nil hs).run pos pins s σ H _ I h) ?_) hs hpl) hdb)⟩
  rintro us s1 ⟨vs, H1, I1, r, v, rfl, k⟩
  refine ⟨I1.kIn, ?_⟩
  obtain ⟨u, rfl, ru⟩ := r.one
  exact run_pos FB D F hr I1 ru k
/-- C(f=e), as a value -/
theorem mk_kw (FB : ExcBaseFacts B newId initId bmB) (D : XAt X.K X.mg x C f bmB newId fI fd) (F : FnOk X.prog X.w X.K X.mg X.base CX0 1 fI fd ["self", f] (SpXI C f)) (hr : Room 2 X.A) (hg : Gl X x) (he : PE X e te) (hdb : (x == ("__debug__" : Str)) = false := by rfl)
    (hall : ((backToKw pos (keywordEach [⟨some f, e, kp⟩] X.env)).all fun x => x.1.isSome) = true := by rfl) (hks : (backToKw pos (keywordEach [⟨some f, e, kp⟩] X.env)).filterMap (fun x => x.1) = [f] := by rfl)
    (hpl : (((backTo pos (starEach [] X.env)).any fun x => x.1) || ((backToKw pos (keywordEach [⟨some f, e, kp⟩] X.env)).any fun x => x.1.isNone)) = false := by rfl) : PE X (.Call (.Name x p) [] [⟨some f, e, kp⟩] pos) (tMkV C f (tCons te tNil)) := by
  refine ⟨fun pins s σ H Q I h => wpAny_Call_Name_kw (ld_glob I hg D.g (PySem.W.callWith_KW0 (h₀ := X.base) I.ok.mod.kin D.T.kC hall (thn ((pk_cons he pk_nil).run pos pins s σ H _ I h) ?_) hpl) hdb)⟩
  rintro us s1 ⟨vs, H1, I1, r, v, rfl, k⟩
  refine ⟨I1.kIn, ?_⟩
  obtain ⟨u, rfl, ru⟩ := r.one
  rw [hks]
  refine wpAny_call (codeAny_mono (run_kw FB D F hr I1 ru k) fun rr s' hq => ?_)
  rcases rr with z | (z | _ | _ | _) <;> first | exact hq | exact False.elim hq
end
end Cs
set_option maxHeartbeats 4000000
/-! Rules of my own: len, str, == of an own object; a raise of an own error over any built-in base. -/
namespace Cs
open PySem L2 PyProof.Rows
section
variable {X : Cx} {CX : CXT} {k : Nat} {g C : Addr} {fd : FuncData} {ps : List Str} {sp : Sp} {E : XK}
/-- a def of the text, called from within a builtin that the body runs -/
theorem run_at {A' : Around} {pins : List (Addr × Obj)} {σ : L2.St} {H : Hp} {s : Shared} {us : List Value} {vs : List V} {Q : VK} (sb : Sub X k A') (F : FnOk X.prog X.w X.K X.mg X.base CX k g fd ps sp) (hb : Binds X.K fd ps []) (hx : Passes CX X E) (I : L2.Inv X pins σ H s) (r : Vals vs us) (h : sp vs H Q E) :
    wpAny (model X.prog X.w) A' (call (.ref g) us) (EP X pins σ Q) X.xe s := by
  have e0 : Env0 X.prog X.w X.K X.mg X.base A' X.stack s H := by
    have e := I.env0
    exact ⟨by rw [sb.fr]; exact e.frames, e.mod, e.bs, e.bsz, e.funs, e.frf, e.hok, e.bare⟩
  have hl2 : us.length = ps.length := by rw [← r.length]; exact F.len _ _ _ _ h
  refine wpAny_call (codeAny_mono (F.run A' X.stack s H ⟨us, []⟩ us vs Q E sb.room e0 (by
    have z := hb s us I.kIn (by rw [List.append_nil]; exact hl2)
    rw [List.append_nil] at z
    exact z) r h) fun rr s' hq => ?_)
  cases rr with
  | error e => exact hx pins σ H s e s' I hq
  | ok fl =>
    cases fl with
    | ret w => exact I.after hq
    | next => exact False.elim hq
    | brk => exact False.elim hq
    | cont => exact False.elim hq
def rLenI (C : Addr) (sp : Sp) (E : XK) : List V → Hp → VK → Prop := fun xs H Q => ∃ (a dx : Addr) (fs : List (Str × V)), xs = [.ref a] ∧ H a = some (.ins C dx fs) ∧ sp [.ref a] H (fun v H' => ∃ n : Nat, v = .int (n : Nat) ∧ n < 1000000 ∧ Q (.int (n : Nat)) H') E
theorem call_lenI (F : FnOk X.prog X.w X.K X.mg X.base CX k g fd ps sp) (hr : Room (k + 1) X.A) (hb : Binds X.K fd ps []) (hx : Passes CX X E) (hs : PySem.W.findIn X.K (.ref C) "__len__" = some (some (.ref g))) (hf : PySem.W.isFn X.K (.ref g) = true) :
    CallR X (.builtin "len") (rLenI C sp E) := by
  rintro pins s σ H xs us Q I r ⟨a, dx, fs, rfl, ha, q⟩
  obtain ⟨u, rfl, ru⟩ := r.one
  cases ru
  obtain ⟨mA, J, _⟩ := ins_get I.hok ha
  obtain ⟨od, J, _⟩ := J.look
  obtain ⟨m, hF⟩ := I.fr
  refine PySem.W.len_K hF I.ok.mod.kin J hs hf (wpAny_mono (run_at (vs := [.ref a]) (Sub.in1 ⟨hr, rfl⟩) F hb hx I (.cons rfl .nil) q) (fun v s' hv => ?_) fun _ _ e => e)
  obtain ⟨x, H', I', rx, n, rfl, hn, q'⟩ := hv
  obtain ⟨t, rfl⟩ := rx
  exact ⟨⟨by omega, by omega⟩, .int (n : Nat), H', I'.tok _, ⟨_, rfl⟩, q'⟩
def rStrI (C : Addr) (sp : Sp) (E : XK) : List V → Hp → VK → Prop := fun xs H Q => ∃ (a dx : Addr) (fs : List (Str × V)), xs = [.ref a] ∧ H a = some (.ins C dx fs) ∧ sp [.ref a] H (fun v H' => ∃ y : Str, v = .str y ∧ Q (.str y) H') E
theorem call_strI (F : FnOk X.prog X.w X.K X.mg X.base CX k g fd ps sp) (hr : Room (k + 2) X.A) (hb : Binds X.K fd ps []) (hx : Passes CX X E) (hs : PySem.W.findIn X.K (.ref C) "__str__" = some (some (.ref g))) (hf : PySem.W.isFn X.K (.ref g) = true) :
    CallR X (.type "str") (rStrI C sp E) := by
  rintro pins s σ H xs us Q I r ⟨a, dx, fs, rfl, ha, q⟩
  obtain ⟨u, rfl, ru⟩ := r.one
  cases ru
  obtain ⟨mA, J, _⟩ := ins_get I.hok ha
  obtain ⟨od, J, _⟩ := J.look
  have sb : Sub X k X.A.in1.in1 := Sub.in1 (Sub.in1 ⟨hr, rfl⟩)
  refine PySem.W.kso_call sb.room.units0 I.kIn J hs hf (wpAny_mono (run_at (vs := [.ref a]) sb F hb hx I (.cons rfl .nil) q) (fun v s' hv => ?_) fun _ _ e => e)
  obtain ⟨x, H', I', rx, y, rfl, q'⟩ := hv
  obtain ⟨t, rfl⟩ := rx
  exact ⟨.str y, H', I', ⟨_, rfl⟩, q'⟩
/-- two objects of the class C, compared by its own == -/
def rEqI (C : Addr) (sp : Sp) (E : XK) : R2 := fun x y H Q => ∃ (a b dx dy : Addr) (fs gs : List (Str × V)), x = .ref a ∧ y = .ref b ∧ H a = some (.ins C dx fs) ∧ H b = some (.ins C dy gs) ∧ sp [.ref a, .ref b] H (fun v H' => ∃ z : Bool, v = .bl z ∧ Q (.bl z) H') E
theorem op_eqI (F : FnOk X.prog X.w X.K X.mg X.base CX k g fd ps sp) (hr : Room k X.A) (hb : Binds X.K fd ps []) (hx : Passes CX X E) (hs : PySem.W.findIn X.K (.ref C) "__eq__" = some (some (.ref g))) (hf : PySem.W.isFn X.K (.ref g) = true) :
    OpR X (compareOp .Eq) (rEqI C sp E) := by
  rintro pins s σ H x y v u Q I rx ry ⟨a, b, dx, dy, fs, gs, rfl, rfl, ha, hb', q⟩
  cases rx
  cases ry
  obtain ⟨mA, J, _⟩ := ins_get I.hok ha
  obtain ⟨mB, J', _⟩ := ins_get I.hok hb'
  obtain ⟨od, J, _⟩ := J.look
  obtain ⟨od', J', _⟩ := J'.look
  obtain ⟨m, hF⟩ := I.fr
  show wpAny (model X.prog X.w) X.A (richCompare .Eq (.ref a) (.ref b)) (EP X pins σ Q) X.xe s
  refine PySem.W.cmp_K (op := .Eq) (tb := .ref C) hr.units0 hF I.ok.mod.kin J J'.type (by simp [PySem.W.notFirst]) hs hf (wpAny_mono (run_at (vs := [.ref a, .ref b]) ⟨hr, rfl⟩ F hb hx I (.cons rfl (.cons rfl .nil)) q) (fun v s' hv => ?_) fun _ _ e => e)
  obtain ⟨x, H', I', rx, z, rfl, q'⟩ := hv
  cases rx
  exact ⟨.bl z, H', I', rfl, q'⟩
end
section
variable {X : Cx} {x : Str} {C fI : Addr} {k : Nat} {fd : FuncData} {ps : List Str} {sp : Sp} {e : Expr} {es : List Expr} {ta : TA} {p pos : Pos} {B newId initId : String} {bmB : List Value}
/-- C(e, ..) of an own error over any built-in base, to be raised -/
theorem pmk_oexG {CX : CXT} {ds : List Value} {dvs : List V} (FB : ExcBaseFacts B newId initId bmB) (T : OexG X.K C bmB newId) (exC : PySem.W.subIn X.K (.ref C) (.type "BaseException") = some true) (tyC : PySem.W.typeIn X.K (.ref C) = some (.type "type"))
    (iC : PySem.W.findIn X.K (.ref C) "__init__" = some (some (.ref fI))) (tI : PySem.W.typeIn X.K (.ref fI) = some (.type "function"))
    (F1 : FnOk X.prog X.w X.K X.mg X.base CX k fI fd ps sp) (hr : Room (k + 1) X.A) (hb : Binds X.K fd ps ds) (hd : Vals dvs ds) (hx : Passes CX X (fun _ _ _ => False)) (hg : Gl X x) (hm : X.mg x = some (.ref C)) (ha : PA X (e :: es) ta)
    (hdb : (x == ("__debug__" : Str)) = false) (he : starEach (e :: es) X.env = (false, eval e X.env) :: starEach es X.env) (hpl : ((backTo pos (starEach es X.env)).any fun x => x.1) = false) :
    PMk X (.Call (.Name x p) (e :: es) [] pos) (tMkO C sp dvs ta) := by
  intro pins s σ H Q I h
  refine wpAny_Call_Name_kw (ld_glob I hg hm ?_ hdb)
  refine PySem.W.callWith_K (h₀ := X.base) I.ok.mod.kin T.kC (thn (ha.run pos pins s σ H _ I h) fun us s1 ⟨vs, H1, I1, r1, hz, q1⟩ => ⟨I1.kIn, ?_⟩) he hpl
  show wpAny _ _ (call (.ref C) us) _ _ _
  obtain ⟨nm, N', qn, bs, bm, hdct, sn, sub, ab, col, dd, k0, k1, k2, k3, k5, hC, hT⟩ := PySem.W.excInit_of I1.kIn T.ini
  obtain ⟨hp, g, dr, tk, os⟩ := s1
  have hsz : hp.objs.size ≤ hp.objs.size + 1 := Nat.le_succ _
  have hn : H1 (hp.objs.size + 1) = none := I1.hok.fresh hsz
  have hq := q1 (hp.objs.size + 1) hn
  have kk : ∀ b o, hp.get? b = some o → ((hp.push (PySem.W.kdv_tup us)).push (PySem.HandSPX.excO C hp.objs.size)).get? b = some o := fun b o e => Heap.get?_push_of_some _ (Heap.get?_push_of_some _ e)
  have hget : ((hp.push (PySem.W.kdv_tup us)).push (PySem.HandSPX.excO C hp.objs.size)).get? (hp.objs.size + 1) = some (PySem.HandSPX.excO C hp.objs.size) := by heap_get
  have I2 : L2.Inv X pins σ (upd H1 (hp.objs.size + 1) (exo (hp.objs.size + 1) C none)) ⟨(hp.push (PySem.W.kdv_tup us)).push (PySem.HandSPX.excO C hp.objs.size), g, dr, tk, os⟩ :=
    I1.laid (t' := tk) (a := hp.objs.size + 1) (o := exo (hp.objs.size + 1) C none) (h' := (hp.push (PySem.W.kdv_tup us)).push (PySem.HandSPX.excO C hp.objs.size)) kk hsz (exo_ok hget)
  have r2 : Vals (V.ref (hp.objs.size + 1) :: (vs ++ dvs)) (Value.ref (hp.objs.size + 1) :: (us ++ ds)) := .cons rfl (r1.append hd)
  have hl : (Value.ref (hp.objs.size + 1) :: us ++ ds).length = ps.length := by
    have e := r2.length
    rw [F1.len _ _ _ _ hq] at e
    exact e.symm
  have hus : us.length ≤ sizeLine := by
    rw [← Paired.length r1, sizeLine_eq]
    omega
  refine wpAny_call (PySem.HandSPX.call_own FB hT hC (PySem.W.looks_findIn I1.kIn iC) (fun self => PySem.W.bind_fn I1.kIn self tI) hus
    (codeAny_mono (F1.run _ X.stack _ _ ⟨Value.ref (hp.objs.size + 1) :: us, []⟩ (Value.ref (hp.objs.size + 1) :: (us ++ ds)) _ _ (fun _ _ _ => False) (hr.make C us []) (I2.env0.make C us []) (hb _ (Value.ref (hp.objs.size + 1) :: us) I2.kIn hl) r2 hq) fun r s' hq' => ?_))
  cases r with
  | error er => exact hx pins σ _ _ er s' I2 hq'
  | ok fl =>
    cases fl with
    | ret u =>
      obtain ⟨v, H2, os2, bare2, un2, hok2, rv, ev, d, fs, ea, ed, hd1, q2⟩ := hq'
      subst ev
      obtain ⟨h2, g2, d2, t2, os'⟩ := s'
      exact ⟨rv, mk_end (raises_own exC tyC) I1 hsz kk un2 hok2 os2 bare2 ea ed hd1 q2⟩
    | next => exact False.elim hq'
    | brk => exact False.elim hq'
    | cont => exact False.elim hq'
end
/-- an error class of the text that can be raised with one argument, kept under f -/
structure RaiseAt (P : Program) (w : World) (K : PySem.W.Frag) (mg : Str → Option Value) (base : Heap) (x : Str) (C : Addr) (f : Str) : Prop where
  ex : ∃ (B newId initId : String) (bmB : List Value) (fI : Addr) (fd : FuncData), ExcBaseFacts B newId initId bmB ∧ XAt K mg x C f bmB newId fI fd ∧ FnOk P w K mg base CX0 1 fI fd ["self", f] (SpXI C f)
  exC : PySem.W.subIn K (.ref C) (.type "BaseException") = some true
  tyC : PySem.W.typeIn K (.ref C) = some (.type "type")
section
variable {X : Cx} {x f : Str} {C : Addr} {e : Expr} {te : TE} {p pos : Pos}
theorem pmk_rx (h : RaiseAt X.prog X.w X.K X.mg X.base x C f) (hr : Room 2 X.A) (hg : Gl X x) (he : PE X e te) (hdb : (x == ("__debug__" : Str)) = false) (hs : starEach [e] X.env = (false, eval e X.env) :: starEach [] X.env) (hpl : ((backTo pos (starEach [] X.env)).any fun x => x.1) = false) :
    PMk X (.Call (.Name x p) [e] [] pos) (tMkO C (SpXI C f) [] (tCons te tNil)) := by
  obtain ⟨B, newId, initId, bmB, fI, fd, FB, D, F⟩ := h.ex
  exact pmk_oexG FB D.T h.exC h.tyC D.ini D.ty F hr D.b .nil pass0 hg D.g (pa_cons he pa_nil hs) hdb hs hpl
/-- behind the argument -/
theorem xmkI {v : V} {H1 : Hp} {Q : XK} (k : ∀ d H', H1 d = none → Same H1 H' → H' d = some (.xd [(f, v)]) → Q (.ref C) (some d) H') :
    [v].length ≤ 1000 ∧ ∀ a, H1 a = none → SpXI C f (.ref a :: ([v] ++ [])) (upd H1 a (exo a C none))
      (fun u H2 => u = .non ∧ ∃ (d : Addr) (fs : List (Str × V)), H2 a = some (exo a C (some d)) ∧ H2 d = some (exd d fs) ∧ H1 d = none ∧ Q (.ref C) (some d) (upd (del H2 a) d (.xd fs))) (fun _ _ _ => False) := by
  refine ⟨(by show 1 ≤ 1000; decide), fun a ha => ⟨a, v, rfl, upd_same, fun d hd hda => ⟨rfl, d, [(f, v)], upd_same, ?_, ?_, k d _ ?_ (fun b o e => ?_) upd_same⟩⟩⟩
  · rw [upd_ne hda, upd_same]
  · rw [upd_ne hda] at hd
    exact hd
  · rw [upd_ne hda] at hd
    exact hd
  · rw [upd_ne hda] at hd
    have nb : b ≠ d := ne_of_none e hd
    have na : b ≠ a := ne_of_none e ha
    rw [upd_ne nb, del_ne na, upd_ne na, upd_ne nb, upd_ne na]
    exact e
end
/-! ### tuples known whole, so that their methods can be called -/
def Fz (H : Hp) (a : Addr) (xs : List V) : Prop := ∃ o : Obj, H a = some (.frz o (.tup xs)) ∧ o.dict = none ∧ o.cls = .type "tuple"
theorem Fz.rd {H : Hp} {a : Addr} {xs : List V} (h : Fz H a xs) : Rd H a (.tup xs) := by
  obtain ⟨o, e, _⟩ := h
  exact .inr ⟨o, e⟩
theorem Fz.keep {H H' : Hp} {a : Addr} {xs : List V} (h : Fz H a xs) (e : ∀ o, H a = some o → H' a = some o) : Fz H' a xs := by
  obtain ⟨o, e1, h1, h2⟩ := h
  exact ⟨o, e _ e1, h1, h2⟩
section
variable {X : Cx} {o e : Expr} {es : List Expr} {to : TE} {t : TA} {name : Str} {apos cpos : Pos} {id : String} {r : V → List V → Hp → VK → Prop}
theorem call_tupF : CallR X (.type "tuple") (fun xs H Q => ∃ p ys, xs = [.ref p] ∧ ((SqL X.K H p ys ∧ ∀ l H', H l = none → Same H H' → Fz H' l ys → Q (.ref l) H') ∨ (SqT X.K H p ys ∧ Q (.ref p) H))) := by
  intro pins s σ H xs us Q I r h
  obtain ⟨p, ys, rfl, h⟩ := h
  obtain ⟨u, rfl, rx⟩ := r.one
  cases rx
  rcases h with ⟨hq, q⟩ | ⟨hq, q⟩
  · obtain ⟨its, r', pl, hz⟩ := I.list hq
    have hlen := r'.length
    refine call_tuple_list pl.isList (fun h' kp => ?_) (by simp only [List.size_toArray] <;> omega)
    have I1 : L2.Inv X pins σ H { s with heap := h' } := I.kept (t' := s.toks) kp
    have I2 : L2.Inv X pins σ (upd H h'.objs.size (.frz { cls := .type "tuple", data := .seq its.toArray } (.tup ys))) { s with heap := h'.push { cls := .type "tuple", data := .seq its.toArray } } :=
      I1.laid (t' := s.toks) (fun b o e => Heap.get?_push_of_some _ e) (Nat.le_refl _) (show ObjOk X.prog X.w _ _ _ (.frz { cls := .type "tuple", data := .seq its.toArray } (.tup ys)) from ⟨Heap.get?_push_size h' rfl, hz, its, r', IsTup.new _ _⟩)
    have hn : H h'.objs.size = none := I1.hok.fresh (Nat.le_refl _)
    exact ⟨.ref h'.objs.size, _, I2, rfl, q _ _ hn (same_new hn) ⟨_, upd_same, rfl, rfl⟩⟩
  · obtain ⟨its, r', pl, hz⟩ := I.tuple hq
    exact call_tuple_same pl ⟨.ref p, H, I, rfl, q⟩
def tTM (r : V → List V → Hp → VK → Prop) (to : TE) (t : TA) : TE := fun σ H Q => to σ H fun x H1 => (∃ a xs, x = .ref a ∧ Fz H1 a xs) ∧ t σ H1 fun xs H2 => r x xs H2 Q
theorem pe_tbm (slot : Slot "tuple" name id) (hty : typeOf (.builtin id) = pure (.type "method_descriptor")) (hm : MtR X id r) (ho : PE X o to) (ha : PA X (e :: es) t)
    (hbase : attributeBase o name X.env (eval o X.env) = eval o X.env := by rfl)
    (hfew : ((backTo cpos (starEach (e :: es) X.env)).all (fun x => !x.1) && (backToKw cpos (keywordEach [] X.env)).all (fun x => x.1.isSome)
      && decide ((e :: es).length + ([] : List Keyword).length + (if ([] : List Keyword).isEmpty then 0 else 1) < 30)) = true := by rfl)
    (hline : (apos.endLine == cpos.line) = true := by rfl) (hs : starEach (e :: es) X.env = (false, eval e X.env) :: starEach es X.env := by rfl) (hplain : ((backTo cpos (starEach es X.env)).any fun x => x.1) = false := by rfl) :
    PE X (.Call (.Attribute o name apos) (e :: es) [] cpos) (tTM r to t) := by
  refine ⟨fun pins s σ H Q I h => ?_⟩
  refine wpAny_Call_method_late hbase hfew hline rfl (thn (ho.run pins s σ H _ I h) fun v s1 ⟨x, H1, I1, r1, ty, q1⟩ => ?_)
  have h12 : s1.TypeIs v "tuple" ∧ ∀ a, v = .ref a → ∃ ob, s1.heap.get? a = some ob ∧ ob.dict = none := by
    obtain ⟨a, xs, rfl, o, e1, h1, h2⟩ := ty
    cases r1
    have g := (show s1.heap.get? a = some o ∧ _ from I1.hok a _ e1).1
    refine ⟨⟨o, g, h2⟩, fun b z => ?_⟩
    cases z
    exact ⟨o, g, h1⟩
  refine ⟨"tuple", id, PySem.F.plainAttrs_tuple, slot, hty, h12.1, h12.2, ?_⟩
  have hA := ha.run cpos pins s1 σ H1 _ I1 q1
  rw [hs] at hA ⊢
  refine Calls.callWith_builtin (by show (false || ((backTo cpos (starEach es X.env)).any fun x => x.1)) = false; rw [hplain]; rfl) (Calls.evalArgs_plain ?_)
  exact thn hA fun us s2 ⟨vs, H2, I2, r2, q2⟩ => hm pins s2 σ H2 x vs v us Q I2 r1 r2 q2
end
def dCols (cs : List Str) : PyData := .tuple (cs.map PyData.str)
/-- v is a tuple of these texts, known whole -/
def NmT (p : Addr) (H : Hp) (v : V) (xs : List Str) : Prop := ∃ a, v = .ref a ∧ a ≠ p ∧ Fz H a (xs.map V.str) ∧ RpT p H v (dCols xs)
theorem NmT.keep {p : Addr} {H H' : Hp} {v : V} {xs : List Str} (h : NmT p H v xs) (e : ExB p H H') : NmT p H' v xs := by
  obtain ⟨a, rfl, n, f, r⟩ := h
  exact ⟨a, rfl, n, f.keep fun o q => e a o n q, r.keep (ExT.of e)⟩
theorem NmT.rp {p : Addr} {H : Hp} {v : V} {xs : List Str} (h : NmT p H v xs) : RpT p H v (dCols xs) := by
  obtain ⟨a, rfl, n, f, r⟩ := h
  exact r
end Cs
set_option maxHeartbeats 4000000
/-! Rules of my own: min and max of a tuple of whole numbers. -/
namespace PySem
namespace CsMin
section
variable {prog : Program} {w : World} {A : Around} {E : Value → Shared → Prop} {s : Shared} {l : Addr} {xs : Array (Int × Tok)}
theorem tup_kept {h' : Heap} {o0 : Obj} (hk : ∀ b o, b ∉ [s.heap.objs.size] → (s.heap.push o0).get? b = some o → h'.get? b = some o) :
    ∀ b o, s.heap.get? b = some o → h'.get? b = some o := fun b o e => by
  refine hk b o (fun hm => ?_) (Heap.get?_push_of_some _ e)
  rcases List.mem_cons.mp hm with e1 | hm
  · exact absurd (e1 ▸ Heap.lt_size e) (Nat.lt_irrefl _)
  · cases hm
theorem tup_in (hlt : l < s.heap.objs.size) {o0 : Obj} : ∀ b ∈ [s.heap.objs.size, l], b < (s.heap.push o0).objs.size := fun b hb => by
  rw [Heap.size_push]
  rcases List.mem_cons.mp hb with rfl | hb
  · exact Nat.lt_succ_self _
  · rcases List.mem_cons.mp hb with rfl | hb
    · exact Nat.lt_succ_of_lt hlt
    · cases hb
theorem min_tup {Q : Value → Shared → Prop} (hh : A.handled = none) (hl : s.heap.IsTuple l (intItems xs)) (hne : 0 < xs.size)
    (h : ∀ v h' tk, (intItems xs)[argBest (fun i j => decide (numAt xs i < numAt xs j)) (xs.size - 1)]? = some v → (∀ b o, s.heap.get? b = some o → h'.get? b = some o) → Q v { s with heap := h', toks := tk }) :
    wpAny (model prog w) A (call (.builtin "min") [.ref l]) Q E s := by
  have hlt : l < s.heap.objs.size := by obtain ⟨_, e, _⟩ := hl; exact Heap.lt_size e
  refine call_min_walk (wpAny_pyIter_tuple hl ?_)
  refine ⟨_, [s.heap.objs.size, l], [s.heap.objs.size], _, _, _, _, rfl, Walks.tuple (A := A.in1) hh _ l (Nat.ne_of_lt hlt) (intItems xs), ⟨⟨_, Heap.get?_push_size _ rfl, rfl, rfl⟩, hl.push _⟩, tup_in hlt, by simpa [intItems] using hne, CmpOf.ints_lt (numAt xs) (fun _ _ => intItems_at), fun v h' tk hP hk => ?_⟩
  exact h v h' tk (by simpa [intItems] using hP) (tup_kept hk)
theorem max_tup {Q : Value → Shared → Prop} (hh : A.handled = none) (hl : s.heap.IsTuple l (intItems xs)) (hne : 0 < xs.size)
    (h : ∀ v h' tk, (intItems xs)[argBest (fun i j => decide (numAt xs i > numAt xs j)) (xs.size - 1)]? = some v → (∀ b o, s.heap.get? b = some o → h'.get? b = some o) → Q v { s with heap := h', toks := tk }) :
    wpAny (model prog w) A (call (.builtin "max") [.ref l]) Q E s := by
  have hlt : l < s.heap.objs.size := by obtain ⟨_, e, _⟩ := hl; exact Heap.lt_size e
  refine call_max_walk (wpAny_pyIter_tuple hl ?_)
  refine ⟨_, [s.heap.objs.size, l], [s.heap.objs.size], _, _, _, _, rfl, Walks.tuple (A := A.in1) hh _ l (Nat.ne_of_lt hlt) (intItems xs), ⟨⟨_, Heap.get?_push_size _ rfl, rfl, rfl⟩, hl.push _⟩, tup_in hlt, by simpa [intItems] using hne, CmpOf.ints_gt (numAt xs) (fun _ _ => intItems_at), fun v h' tk hP hk => ?_⟩
  exact h v h' tk (by simpa [intItems] using hP) (tup_kept hk)
end
end CsMin
end PySem
namespace Cs
open PySem L2 PyProof.Rows
section
variable {prog : Program} {w : World} {A : Around} {E : Value → Shared → Prop} {s : Shared} {l : Addr} {its : List Value} {ns : List Int} {Q : Value → Shared → Prop}
theorem max_rawT (hh : A.handled = none) (hl : s.heap.IsTuple l its.toArray) (hi : IntsAre its ns) (hne : 0 < ns.length)
    (h : ∀ h' tk M t', (∀ b o, s.heap.get? b = some o → h'.get? b = some o) → M ∈ ns → (∀ a, a ∈ ns → a ≤ M) → Q (.int M t') { s with heap := h', toks := tk }) : wpAny (model prog w) A (call (.builtin "max") [.ref l]) Q E s := by
  obtain ⟨xs, e⟩ := hi.allInts.items
  have hn : numsOf (intItems xs).toList = ns := by rw [← e]; exact hi.numsOf
  rw [nums_intItems] at hn
  subst hn
  rw [e] at hl
  have hsz : 0 < xs.size := by simpa using hne
  refine CsMin.max_tup hh hl hsz fun v h' tk hv hk => ?_
  obtain ⟨t, rfl⟩ := intItems_at hv
  obtain ⟨h1, h2⟩ := argBest_gt (numAt xs) (xs.size - 1)
  refine h h' tk _ t hk ?_ fun a ha => ?_
  · rw [numAt_eq]; exact PySem.getD_mem (by rw [List.length_map, Array.length_toList]; omega)
  · obtain ⟨j, hj, rfl⟩ := mem_getD ha
    rw [List.length_map, Array.length_toList] at hj
    rw [← numAt_eq]; exact h2 j (by omega)
theorem min_rawT (hh : A.handled = none) (hl : s.heap.IsTuple l its.toArray) (hi : IntsAre its ns) (hne : 0 < ns.length)
    (h : ∀ h' tk M t', (∀ b o, s.heap.get? b = some o → h'.get? b = some o) → M ∈ ns → (∀ a, a ∈ ns → M ≤ a) → Q (.int M t') { s with heap := h', toks := tk }) : wpAny (model prog w) A (call (.builtin "min") [.ref l]) Q E s := by
  obtain ⟨xs, e⟩ := hi.allInts.items
  have hn : numsOf (intItems xs).toList = ns := by rw [← e]; exact hi.numsOf
  rw [nums_intItems] at hn
  subst hn
  rw [e] at hl
  have hsz : 0 < xs.size := by simpa using hne
  refine CsMin.min_tup hh hl hsz fun v h' tk hv hk => ?_
  obtain ⟨t, rfl⟩ := intItems_at hv
  obtain ⟨h1, h2⟩ := argBest_lt (numAt xs) (xs.size - 1)
  refine h h' tk _ t hk ?_ fun a ha => ?_
  · rw [numAt_eq]; exact PySem.getD_mem (by rw [List.length_map, Array.length_toList]; omega)
  · obtain ⟨j, hj, rfl⟩ := mem_getD ha
    rw [List.length_map, Array.length_toList] at hj
    rw [← numAt_eq]; exact h2 j (by omega)
end
section
variable {X : Cx}
def rMinT (K : PySem.W.Frag) : List V → Hp → VK → Prop := fun vs H Q => ∃ (a : Addr) (ns : List Int), vs = [V.ref a] ∧ SqT K H a (ns.map V.int) ∧ 0 < ns.length ∧ ∀ m, m ∈ ns → (∀ y, y ∈ ns → m ≤ y) → Q (.int m) H
def rMaxT (K : PySem.W.Frag) : List V → Hp → VK → Prop := fun vs H Q => ∃ (a : Addr) (ns : List Int), vs = [V.ref a] ∧ SqT K H a (ns.map V.int) ∧ 0 < ns.length ∧ ∀ m, m ∈ ns → (∀ y, y ∈ ns → y ≤ m) → Q (.int m) H
theorem cr_maxT (hc : X.calm = true) : CallR X (.builtin "max") (rMaxT X.K) := by
  intro pins s σ H vs us Q I r h
  obtain ⟨a, ns, rfl, hs, hne, q⟩ := h
  obtain ⟨its, rv, hl, _⟩ := I.tuple hs
  rw [Vals.ref1 r]
  exact max_rawT (I.ok.hd hc) hl rv.ints hne fun h' tk m t' hk h1 h2 => ⟨.int _, H, I.kept hk, ⟨_, rfl⟩, q m h1 h2⟩
theorem cr_minT (hc : X.calm = true) : CallR X (.builtin "min") (rMinT X.K) := by
  intro pins s σ H vs us Q I r h
  obtain ⟨a, ns, rfl, hs, hne, q⟩ := h
  obtain ⟨its, rv, hl, _⟩ := I.tuple hs
  rw [Vals.ref1 r]
  exact min_rawT (I.ok.hd hc) hl rv.ints hne fun h' tk m t' hk h1 h2 => ⟨.int _, H, I.kept hk, ⟨_, rfl⟩, q m h1 h2⟩
end
theorem wipe_set_not {τ : L2.St} {i : Nat} {x : Option V} : ∀ {vs : List Nat}, i ∉ vs → wipe (τ.set i x) vs = (wipe τ vs).set i x
  | [], _ => rfl
  | v :: vs, h => by
    have h1 : i ≠ v := fun e => h (by rw [e]; exact List.mem_cons_self)
    have h2 : i ∉ vs := fun e => h (List.mem_cons_of_mem _ e)
    show (wipe (τ.set i x) vs).set v none = ((wipe τ vs).set v none).set i x
    rw [wipe_set_not h2, List.set_comm _ _ h1]
theorem wipe_set_mem {τ : L2.St} {i : Nat} {x : Option V} : ∀ {vs : List Nat}, i ∈ vs → wipe (τ.set i x) vs = wipe τ vs
  | [], h => by cases h
  | v :: vs, h => by
    show (wipe (τ.set i x) vs).set v none = (wipe τ vs).set v none
    by_cases e : i ∈ vs
    · rw [wipe_set_mem e]
    · rcases List.mem_cons.mp h with rfl | h
      · rw [wipe_set_not e, List.set_set]
      · exact absurd h e
theorem wipe_wipe {τ : L2.St} : ∀ {ws vs : List Nat}, (∀ v ∈ ws, v ∈ vs) → wipe (wipe τ ws) vs = wipe τ vs
  | [], _, _ => rfl
  | w :: ws, vs, h => by
    show wipe ((wipe τ ws).set w none) vs = wipe τ vs
    rw [wipe_set_mem (h w List.mem_cons_self), wipe_wipe fun v hv => h v (List.mem_cons_of_mem _ hv)]
/-- the targets of a comprehension do not outlive it -/
theorem wipe_back {τ : L2.St} {vs : List Nat} : wipe (wipe τ vs) vs = wipe τ vs := wipe_wipe fun _ h => h
end Cs
set_option maxHeartbeats 4000000
/-! Rules of my own: zip of a tuple and a list, in either order. -/
namespace CsZip
open PySem
open PySem.Sem (wp)
/-- an iterator at i over the sequence at l; these are the items -/
structure Src (i l : Addr) (J : Nat → Heap → Prop) (B : Heap → Prop) (xs : Array Value) : Prop where
  go : ∀ {prog : Program} {w : World} {A : Around} {E : Value → Shared → Prop} {s : Shared} {k : Nat} {x : Value} {Q : Value → Shared → Prop}, J k s.heap → B s.heap → xs[k]? = some x →
    (∀ h', J (k + 1) h' → Heap.SameBut i s.heap h' → Q x { s with heap := h' }) → wpAny (model prog w) A (Builtin.SmallTypes.nextOf (.ref i)) Q E s
  fin : ∀ {prog : Program} {w : World} {A : Around} {E : Value → Shared → Prop} {s : Shared} {k : Nat} {Q : Value → Shared → Prop}, A.handled = none → J k s.heap → B s.heap → xs[k]? = none →
    (∀ h' e, Heap.ExtBut i s.heap h' → (∃ o, h'.get? e = some o ∧ o.cls = .type "StopIteration") → E (.ref e) { s with heap := h' }) → wpAny (model prog w) A (Builtin.SmallTypes.nextOf (.ref i)) Q E s
  jx : ∀ {c k h h'}, J k h → Heap.ExtBut c h h' → i ≠ c → J k h'
  bx : ∀ {c h h'}, B h → Heap.ExtBut c h h' → l ≠ c → B h'
  ja : ∀ {k h h'}, J k h → (∀ o, h.get? i = some o → h'.get? i = some o) → J k h'
  jo : ∀ {k h}, J k h → ∃ o, h.get? i = some o ∧ ∀ v, o.data ≠ .cell v
def jB (t : Bool) (i l : Addr) (k : Nat) (h : Heap) : Prop := match t with
  | true => h.IsTupleIter i l k
  | false => h.IsListIter i l k
def bB (t : Bool) (l : Addr) (xs : Array Value) (h : Heap) : Prop := match t with
  | true => h.IsTuple l xs
  | false => h.IsList l xs
theorem src (t : Bool) (i l : Addr) (xs : Array Value) : Src i l (jB t i l) (bB t l xs) xs := by
  cases t with
  | true => exact ⟨fun j b => RZ.nextOf_tuple_item j b, fun n j b => RZ.nextOf_tuple_end n j b, fun j e n => Heap.IsTupleIter.extBut j e n, fun j e n => Heap.IsTuple.extBut j e n, fun j e => Heap.IsTupleIter.at j e, fun ⟨o, e, _, d⟩ => ⟨o, e, fun v q => by rw [d] at q; cases q⟩⟩
  | false => exact ⟨fun j b => wpAny_nextOf_list_item j b, fun n j b => wpAny_nextOf_list_end n j b, fun j e n => Heap.IsListIter.extBut j e n, fun j e n => Heap.IsList.extBut j e n, fun j e => Heap.IsListIter.at j e, fun ⟨o, e, _, d⟩ => ⟨o, e, fun v q => by rw [d] at q; cases q⟩⟩
section
variable {prog : Program} {w : World} {A : Around} {E : Value → Shared → Prop} {s : Shared} {z P O i j l m : Addr} {k n : Nat} {xs ys : Array Value} {x y a b : Value} {J1 J2 : Nat → Heap → Prop} {B1 B2 : Heap → Prop}
theorem step {Q : Value → Shared → Prop} (D : ZipApart z P O i j l m) (S1 : Src i l J1 B1 xs) (S2 : Src j m J2 B2 ys) (hz : IsZip s.heap z P O .none) (hP : IsPair s.heap P (.ref i) (.ref j)) (hO : IsPair s.heap O a b) (g1 : J1 k s.heap) (g2 : J2 n s.heap) (c1 : B1 s.heap) (c2 : B2 s.heap)
    (ex : xs[k]? = some x) (ey : ys[n]? = some y)
    (K : ∀ h', IsZip h' z P O (rawInt s.heap.objs.size) → IsPair h' O x y → J1 (k + 1) h' → J2 (n + 1) h' → IsPair h' s.heap.objs.size x y → h'.objs.size = s.heap.objs.size + 1 → (∀ c o, c ≠ z → c ≠ O → c ≠ i → c ≠ j → s.heap.get? c = some o → h'.get? c = some o) →
      Q (.ref s.heap.objs.size) { s with heap := h' }) : wpAny (model prog w) A (Builtin.«zip.__next__» ⟨[.ref z], []⟩) (fun r t => ∃ v, r = .done (.ret v) ∧ Q v t) E s := by
  show wpAny _ _ (field (.ref z) 2 >>= _) _ _ s
  refine wpAny_bind (wpAny_field hz rfl (x := .bool false) rfl (show wpAny _ _ (field (.ref z) 3 >>= _) _ _ s from wpAny_bind (wpAny_field hz rfl (x := .ref P) rfl (wpAny_bind (wpAny_seqItems hP rfl ?_)))))
  refine (show wpAny _ _ (Builtin.SmallTypes.ownedTupleIsFree (.ref z) >>= _) _ _ s from wpAny_bind ?_)
  unfold Builtin.SmallTypes.ownedTupleIsFree
  refine wpAny_bind (wpAny_field hz rfl (x := .none) rfl (wpAny_pure ?_)); simp only [if_true]
  refine wpAny_bind (wpAny_rule (wpAny_bind (wpAny_field hz rfl (x := .ref O) rfl (wpAny_bind (wpAny_setField_rec hz (by simp) fun p1 z1 t1 => ?_)))))
  replace z1 : IsZip p1 z P O .ellipsis := z1
  refine wpAny_bind ?_; simp only [List.zipIdx_cons, List.zipIdx_nil, List.forIn_cons, List.forIn_nil]
  refine wpAny_bind (wpAny_bind (wpAny_onRaise (show wpAny _ _ (Builtin.SmallTypes.nextOf (.ref i) >>= _) _ _ _ from wpAny_bind (S1.go (S1.jx g1 t1.extBut D.i1z) (S1.bx c1 t1.extBut D.l1z) ex fun p2 u2 t2 => wpAny_pure ?_))))
  have o2 : IsPair p2 O a b := t2.extBut _ _ D.TOi1 (t1.extBut _ _ D.TOz hO)
  refine wpAny_bind (wpAny_seqItems o2 rfl (wpAny_bind (wpAny_updateSeq_pair o2 fun p3 o3 t3 => wpAny_bind (wpAny_letGo (wpAny_pure ?_)))))
  replace o3 : IsPair p3 O x b := o3
  refine wpAny_bind (wpAny_bind (wpAny_onRaise (show wpAny _ _ (Builtin.SmallTypes.nextOf (.ref j) >>= _) _ _ _ from wpAny_bind (S2.go (S2.jx (S2.jx (S2.jx g2 t1.extBut D.i2z) t2.extBut D.i12.symm) t3.extBut D.TOi2.symm)
    (S2.bx (S2.bx (S2.bx c2 t1.extBut D.l2z) t2.extBut D.l2i1) t3.extBut D.l2TO) ey fun p4 u4 t4 => wpAny_pure ?_))))
  have o4 : IsPair p4 O x b := t4.extBut _ _ D.TOi2 o3
  refine wpAny_bind (wpAny_seqItems o4 rfl (wpAny_bind (wpAny_updateSeq_pair o4 fun p5 o5 t5 => wpAny_bind (wpAny_letGo (wpAny_pure (wpAny_pure ?_))))))
  replace o5 : IsPair p5 O x y := o5
  refine wpAny_bind (wpAny_seqItems o5 rfl (wpAny_bind (wpAny_newTuple ?_)))
  have sz : p5.objs.size = s.heap.objs.size := by rw [t5.1, t4.1, t3.1, t2.1, t1.1]
  have z5 : IsZip p5 z P O .ellipsis := t5.extBut _ _ D.TOz.symm (t4.extBut _ _ D.i2z.symm (t3.extBut _ _ D.TOz.symm (t2.extBut _ _ D.i1z.symm z1)))
  have kp : ∀ c o, c ≠ z → c ≠ O → c ≠ i → c ≠ j → s.heap.get? c = some o → p5.get? c = some o := fun c o d1 d2 d3 d4 e => t5.extBut _ _ d2 (t4.extBut _ _ d4 (t3.extBut _ _ d2 (t2.extBut _ _ d3 (t1.extBut _ _ d1 e))))
  have v1 : J1 (k + 1) p5 := S1.jx (S1.jx (S1.jx u2 t3.extBut D.TOi1.symm) t4.extBut D.i12) t5.extBut D.TOi1.symm
  have v2 : J2 (n + 1) p5 := S2.jx u4 t5.extBut D.TOi2.symm
  have zl : z < p5.objs.size := Heap.lt_size z5
  refine (show wpAny _ _ (Builtin.SmallTypes.ownedTupleHandOut (.ref z) (.ref p5.objs.size) >>= _) _ _ _ from wpAny_bind ?_)
  unfold Builtin.SmallTypes.ownedTupleHandOut
  have z6 : IsZip (p5.push { cls := .type "tuple", data := .seq #[x, y] }) z P O .ellipsis := Heap.get?_push_of_some _ z5
  refine wpAny_bind (wpAny_setField_rec z6 (by simp) fun p7 z7 t7 => ?_)
  replace z7 : IsZip p7 z P O (rawInt p5.objs.size) := z7
  refine wpAny_setField_rec z7 (by simp) fun p8 z8 t8 => ?_
  replace z8 : IsZip p8 z P O (rawInt p5.objs.size) := z8
  have lift : ∀ c o, c ≠ z → p5.get? c = some o → p8.get? c = some o := fun c o d e => t8.extBut _ _ d (t7.extBut _ _ d (Heap.get?_push_of_some _ e))
  have T8 : IsPair p8 p5.objs.size x y := t8.extBut _ _ (Nat.ne_of_gt zl) (t7.extBut _ _ (Nat.ne_of_gt zl) (Heap.get?_push_size _ rfl))
  have n8 : p8.objs.size = p5.objs.size + 1 := by rw [t8.1, t7.1, Heap.size_push]
  rw [sz] at z8 T8 n8
  refine wpAny_pure ⟨_, rfl, ?_⟩
  show Q (.ref p5.objs.size) _; rw [sz]
  exact K p8 z8 (lift _ _ D.TOz o5) (S1.ja v1 fun o e => lift _ o D.i1z e) (S2.ja v2 fun o e => lift _ o D.i2z e) T8 n8 fun c o d1 d2 d3 d4 e => lift c o d1 (kp c o d1 d2 d3 d4 e)
theorem last {Q : Fin → Shared → Prop} (nh : A.handled = none) (D : ZipApart z P O i j l m) (S1 : Src i l J1 B1 xs) (S2 : Src j m J2 B2 ys) (hz : IsZip s.heap z P O .none) (hP : IsPair s.heap P (.ref i) (.ref j)) (hO : IsPair s.heap O a b) (g1 : J1 k s.heap) (g2 : J2 n s.heap) (c1 : B1 s.heap) (c2 : B2 s.heap)
    (ends : xs[k]? = none ∨ ys[n]? = none) (K : ∀ h' e, (∀ c o, c ≠ z → c ≠ O → c ≠ i → c ≠ j → s.heap.get? c = some o → h'.get? c = some o) → (∃ o, h'.get? e = some o ∧ o.cls = .type "StopIteration") → E (.ref e) { s with heap := h' }) :
    wpAny (model prog w) A (Builtin.«zip.__next__» ⟨[.ref z], []⟩) Q E s := by
  show wpAny _ _ (field (.ref z) 2 >>= _) _ _ s
  refine wpAny_bind (wpAny_field hz rfl (x := .bool false) rfl (show wpAny _ _ (field (.ref z) 3 >>= _) _ _ s from wpAny_bind (wpAny_field hz rfl (x := .ref P) rfl (wpAny_bind (wpAny_seqItems hP rfl ?_)))))
  refine (show wpAny _ _ (Builtin.SmallTypes.ownedTupleIsFree (.ref z) >>= _) _ _ s from wpAny_bind ?_)
  unfold Builtin.SmallTypes.ownedTupleIsFree
  refine wpAny_bind (wpAny_field hz rfl (x := .none) rfl (wpAny_pure ?_)); simp only [if_true]
  refine wpAny_bind (wpAny_rule (wpAny_bind (wpAny_field hz rfl (x := .ref O) rfl (wpAny_bind (wpAny_setField_rec hz (by simp) fun p1 z1 t1 => ?_)))))
  replace z1 : IsZip p1 z P O .ellipsis := z1
  refine wpAny_bind ?_; simp only [List.zipIdx_cons, List.zipIdx_nil, List.forIn_cons, List.forIn_nil]
  refine wpAny_bind (wpAny_bind (wpAny_onRaise (show wpAny _ _ (Builtin.SmallTypes.nextOf (.ref i) >>= _) _ _ _ from ?_)))
  cases ex : xs[k]? with
  | none =>
    refine wpAny_bind (S1.fin nh (S1.jx g1 t1.extBut D.i1z) (S1.bx c1 t1.extBut D.l1z) ex fun p2 e t2 ⟨oe, he, hc⟩ => ?_)
    have z2 : IsZip p2 z P O .ellipsis := t2 _ _ D.i1z.symm z1
    have ez : e ≠ z := fun q => by
      subst q
      rw [z2] at he
      cases he
      simp at hc
    exact wpAny_setField_rec z2 (by simp) fun p3 _ t3 => K p3 e (fun c o d1 _ d3 _ q => t3.extBut _ _ d1 (t2 _ _ d3 (t1.extBut _ _ d1 q))) ⟨oe, t3.extBut _ _ ez he, hc⟩
  | some x =>
    have ey : ys[n]? = none := ends.resolve_left fun q => by rw [ex] at q; cases q
    refine wpAny_bind (S1.go (S1.jx g1 t1.extBut D.i1z) (S1.bx c1 t1.extBut D.l1z) ex fun p2 u2 t2 => wpAny_pure ?_)
    have o2 : IsPair p2 O a b := t2.extBut _ _ D.TOi1 (t1.extBut _ _ D.TOz hO)
    refine wpAny_bind (wpAny_seqItems o2 rfl (wpAny_bind (wpAny_updateSeq_pair o2 fun p3 o3 t3 => wpAny_bind (wpAny_letGo (wpAny_pure ?_)))))
    refine wpAny_bind (wpAny_bind (wpAny_onRaise (show wpAny _ _ (Builtin.SmallTypes.nextOf (.ref j) >>= _) _ _ _ from wpAny_bind (S2.fin nh (S2.jx (S2.jx (S2.jx g2 t1.extBut D.i2z) t2.extBut D.i12.symm) t3.extBut D.TOi2.symm)
      (S2.bx (S2.bx (S2.bx c2 t1.extBut D.l2z) t2.extBut D.l2i1) t3.extBut D.l2TO) ey fun p4 e t4 ⟨oe, he, hc⟩ => ?_))))
    have z4 : IsZip p4 z P O .ellipsis := t4 _ _ D.i2z.symm (t3.extBut _ _ D.TOz.symm (t2.extBut _ _ D.i1z.symm z1))
    have ez : e ≠ z := fun q => by
      subst q
      rw [z4] at he
      cases he
      simp at hc
    exact wpAny_setField_rec z4 (by simp) fun p5 _ t5 => K p5 e (fun c o d1 d2 d3 d4 q => t5.extBut _ _ d1 (t4 _ _ d4 (t3.extBut _ _ d2 (t2.extBut _ _ d3 (t1.extBut _ _ d1 q))))) ⟨oe, t5.extBut _ _ ez he, hc⟩
theorem next {Q : Option Value → Shared → Prop} (D : ZipApart z P O i j l m) (S1 : Src i l J1 B1 xs) (S2 : Src j m J2 B2 ys) (hz : IsZip s.heap z P O .none) (hP : IsPair s.heap P (.ref i) (.ref j)) (hO : IsPair s.heap O a b) (g1 : J1 k s.heap) (g2 : J2 n s.heap) (c1 : B1 s.heap) (c2 : B2 s.heap)
    (ex : xs[k]? = some x) (ey : ys[n]? = some y)
    (K : ∀ h', IsZip h' z P O (rawInt s.heap.objs.size) → IsPair h' O x y → J1 (k + 1) h' → J2 (n + 1) h' → IsPair h' s.heap.objs.size x y → h'.objs.size = s.heap.objs.size + 1 → (∀ c o, c ≠ z → c ≠ O → c ≠ i → c ≠ j → s.heap.get? c = some o → h'.get? c = some o) →
      Q (some (.ref s.heap.objs.size)) { s with heap := h' }) : wpAny (model prog w) A (pyNext (.ref z)) Q E s := by
  have ty : s.TypeIs (.ref z) "zip" := ⟨_, hz, rfl⟩
  unfold pyNext
  exact wpAny_bind (wpAny_attempt (wpAny_callSpecial?_slot (name := Str.ofString "__next__") ty F.slot_zip_next (wpAny_call_entry F.slot_zip_next ty F.entry_zip_next
    (step D S1 S2 hz hP hO g1 g2 c1 c2 ex ey fun h' a1 a2 a3 a4 a5 a6 a7 => wpAny_pure (K h' a1 a2 a3 a4 a5 a6 a7)) (F.args_zip_next_1 _))))
theorem stop_ {Q : Option Value → Shared → Prop} (nh : A.handled = none) (D : ZipApart z P O i j l m) (S1 : Src i l J1 B1 xs) (S2 : Src j m J2 B2 ys) (hz : IsZip s.heap z P O .none) (hP : IsPair s.heap P (.ref i) (.ref j)) (hO : IsPair s.heap O a b) (g1 : J1 k s.heap) (g2 : J2 n s.heap) (c1 : B1 s.heap) (c2 : B2 s.heap)
    (ends : xs[k]? = none ∨ ys[n]? = none) (K : ∀ h', (∀ c o, c ≠ z → c ≠ O → c ≠ i → c ≠ j → s.heap.get? c = some o → h'.get? c = some o) → Q none { s with heap := h' }) : wpAny (model prog w) A (pyNext (.ref z)) Q E s := by
  have ty : s.TypeIs (.ref z) "zip" := ⟨_, hz, rfl⟩
  unfold pyNext
  refine wpAny_bind (wpAny_attempt (wpAny_callSpecial?_slot (name := Str.ofString "__next__") ty F.slot_zip_next (wpAny_call_entry F.slot_zip_next ty F.entry_zip_next (last nh D S1 S2 hz hP hO g1 g2 c1 c2 ends fun h' e hk ⟨o, ho, hc⟩ => ?_) (F.args_zip_next_1 _))))
  exact wpAny_bind (wpAny_isInstance (T := "StopIteration") (b := true) ⟨o, ho, hc⟩ isSubtype_stop (wpAny_pure (K _ hk)))
end
abbrev itC (t : Bool) : String := match t with
  | true => "tuple_iterator"
  | false => "list_iterator"
abbrev hp1 (t : Bool) (h : Heap) (l : Addr) : Heap := h.push { cls := .type (itC t), data := .fields #[.ref l, .int 0 0] }
abbrev hp3 (t u : Bool) (h : Heap) (l m : Addr) : Heap := (hp1 u (hp1 t h l) m).push { cls := .type "tuple", data := .seq #[.ref h.objs.size, .ref (hp1 t h l).objs.size] }
abbrev hp4 (t u : Bool) (h : Heap) (l m : Addr) : Heap := (hp3 t u h l m).push { cls := .type "tuple", data := .seq #[.none, .none] }
abbrev hp5 (t u : Bool) (h : Heap) (l m : Addr) : Heap := (hp4 t u h l m).push { cls := .type "zip", data := .fields #[.none, .bool false, .bool false, .ref (hp1 u (hp1 t h l) m).objs.size, .ref (hp3 t u h l m).objs.size] }
theorem made (t u : Bool) (ne : t ≠ u) (l m : Addr) (xs ys : Array Value) : Meets (Builtin.«zip.__new__» ⟨[.type "zip", .ref l, .ref m], []⟩) (fun _ R s => bB t l xs s.heap ∧ bB u m ys s.heap ∧ R (.ok (.ret (.ref (hp4 t u s.heap l m).objs.size))) { s with heap := hp5 t u s.heap l m }) :=
  .of_wp fun prog w A R s h => by
    obtain ⟨hp, g, d, tk, os⟩ := s
    obtain ⟨e1, e2, h⟩ := h
    have sub := sub_zip
    cases t <;> cases u
    · exact absurd rfl ne
    · have f1 : Heap.IsList (Shared.heap ⟨hp, g, d, tk, os⟩) l xs := e1
      have f2 : Heap.IsTuple (Shared.heap ⟨hp1 false hp l, g, d, tk, os⟩) m ys := Heap.IsTuple.push e2 _
      wp_walk using wpAny_pyIter_list f1, wpAny_pyIter_tuple f2
      exact ⟨_, rfl, h⟩
    · have f1 : Heap.IsTuple (Shared.heap ⟨hp, g, d, tk, os⟩) l xs := e1
      have f2 : Heap.IsList (Shared.heap ⟨hp1 true hp l, g, d, tk, os⟩) m ys := Heap.IsList.push e2 _
      wp_walk using wpAny_pyIter_tuple f1, wpAny_pyIter_list f2
      exact ⟨_, rfl, h⟩
    · exact absurd rfl ne
theorem call_zip {prog : Program} {w : World} {A : Around} {E : Value → Shared → Prop} {s : Shared} {t u : Bool} {l m : Addr} {xs ys : Array Value} {Q : Value → Shared → Prop} (ne : t ≠ u) (e1 : bB t l xs s.heap) (e2 : bB u m ys s.heap)
    (k : ∀ h', IsZip h' (s.heap.objs.size + 4) (s.heap.objs.size + 2) (s.heap.objs.size + 3) .none → IsPair h' (s.heap.objs.size + 2) (.ref s.heap.objs.size) (.ref (s.heap.objs.size + 1)) → IsPair h' (s.heap.objs.size + 3) .none .none → jB t s.heap.objs.size l 0 h' → jB u (s.heap.objs.size + 1) m 0 h' →
      (∀ c o, s.heap.get? c = some o → h'.get? c = some o) → Q (.ref (s.heap.objs.size + 4)) { s with heap := h' }) : wpAny (model prog w) A (call (.type "zip") [.ref l, .ref m]) Q E s := by
  refine callType_new F.called_zip (by decide) (F.typeCall_zip_2 _ _) (F.newCall_zip_2 _ _) (fun obj => F.args_object_init_3 obj _ _) F.entry_zip_new (made t u ne l m xs ys) ⟨e1, e2, ?_⟩
  have n1 : (hp1 t s.heap l).objs.size = s.heap.objs.size + 1 := Heap.size_push ..
  have n2 : (hp1 u (hp1 t s.heap l) m).objs.size = s.heap.objs.size + 2 := by rw [Heap.size_push, n1]
  have n3 : (hp3 t u s.heap l m).objs.size = s.heap.objs.size + 3 := by rw [Heap.size_push, n2]
  have n4 : (hp4 t u s.heap l m).objs.size = s.heap.objs.size + 4 := by rw [Heap.size_push, n3]
  have q5 : (hp5 t u s.heap l m).get? (hp4 t u s.heap l m).objs.size = some _ := Heap.get?_push_size _ rfl
  have q4 : (hp5 t u s.heap l m).get? (hp3 t u s.heap l m).objs.size = some _ := Heap.get?_push_of_some _ (Heap.get?_push_size _ rfl)
  have q3 : (hp5 t u s.heap l m).get? (hp1 u (hp1 t s.heap l) m).objs.size = some _ := Heap.get?_push_of_some _ (Heap.get?_push_of_some _ (Heap.get?_push_size _ rfl))
  have q2 : (hp5 t u s.heap l m).get? (hp1 t s.heap l).objs.size = some _ := Heap.get?_push_of_some _ (Heap.get?_push_of_some _ (Heap.get?_push_of_some _ (Heap.get?_push_size _ rfl)))
  have q1 : (hp5 t u s.heap l m).get? s.heap.objs.size = some _ := Heap.get?_push_of_some _ (Heap.get?_push_of_some _ (Heap.get?_push_of_some _ (Heap.get?_push_of_some _ (Heap.get?_push_size _ rfl))))
  show _ ∧ _
  rw [n2, n3, n4] at q5
  rw [n1, n2] at q3
  rw [n3] at q4
  rw [n1] at q2
  rw [n4]
  refine ⟨⟨_, q5, rfl⟩, k _ q5 q3 q4 ?_ ?_ fun c o x => Heap.get?_push_of_some _ (Heap.get?_push_of_some _ (Heap.get?_push_of_some _ (Heap.get?_push_of_some _ (Heap.get?_push_of_some _ x))))⟩
  · cases t <;> exact ⟨_, q1, rfl, rfl⟩
  · cases u <;> exact ⟨_, q2, rfl, rfl⟩
end CsZip
namespace Cs
open PySem L2 PyProof.Rows
/-- a tuple or a list -/
def SqB (K : PySem.W.Frag) (t : Bool) (H : Hp) (a : Addr) (xs : List V) : Prop := match t with
  | true => SqT K H a xs
  | false => SqL K H a xs
/-- what stands at a and b at each turn, the items in new pairs -/
def ItzB (K : PySem.W.Frag) (t u : Bool) (a b : Addr) : It :=
  ⟨fun i H => ∃ (xs ys : List V) (x y : V), SqB K t H a xs ∧ SqB K u H b ys ∧ xs[i]? = some x ∧ ys[i]? = some y,
    fun i H v H' => ∃ (T : Addr) (x y : V), v = .ref T ∧ H T = none ∧ H' = upd H T (.tup [x, y]) ∧ (∀ xs, SqB K t H a xs → xs[i]? = some x) ∧ ∀ ys, SqB K u H b ys → ys[i]? = some y,
    fun i H => ∃ xs ys : List V, SqB K t H a xs ∧ SqB K u H b ys ∧ (xs.length ≤ i ∨ ys.length ≤ i)⟩
section
variable {X : Cx} {pins : List (Addr × Obj)} {σ : L2.St} {H : Hp} {s : Shared} {t : Bool} {a : Addr} {xs ys : List V}
theorem seqB (I : L2.Inv X pins σ H s) (h : SqB X.K t H a xs) : ∃ its : List Value, Vals xs its ∧ CsZip.bB t a its.toArray s.heap ∧ a < s.heap.objs.size := by
  cases t with
  | true =>
    obtain ⟨its, rv, p, _⟩ := I.tuple h
    obtain ⟨o, ho, _⟩ := id p
    exact ⟨its, rv, p, Heap.lt_size ho⟩
  | false =>
    obtain ⟨its, rv, p, _⟩ := I.list h
    exact ⟨its, rv, p.isList, p.lt⟩
theorem injB (I : L2.Inv X pins σ H s) (h : SqB X.K t H a xs) (k : SqB X.K t H a ys) : xs = ys := by
  cases t with
  | true => exact I.tuple_inj h k
  | false => exact I.list_inj h k
end
theorem turn_zipB {P : Program} {w : World} {K : PySem.W.Frag} {elts : List Expr} {kk : Nat} {tpos : Pos} {t u : Bool} {a b z TI TO i1 i2 : Addr} (D : ZipApart z TI TO i1 i2 a b) :
    Turn P w K (.Tuple elts kk tpos) (ItzB K t u a b) [z, TI, TO, i1, i2] z (fun i h => IsZip h z TI TO .none ∧ IsPair h TI (.ref i1) (.ref i2) ∧ (∃ x y, IsPair h TO x y) ∧ CsZip.jB t i1 a i h ∧ CsZip.jB u i2 b i h) where
  mem := List.mem_cons_self
  obj := fun i h st c hc => by
    obtain ⟨g1, g2, ⟨x, y, g3⟩, g4, g5⟩ := st
    simp only [List.mem_cons, List.not_mem_nil, or_false] at hc
    rcases hc with rfl | rfl | rfl | rfl | rfl
    · exact ⟨_, g1, fun v q => nomatch q⟩
    · exact ⟨_, g2, fun v q => nomatch q⟩
    · exact ⟨_, g3, fun v q => nomatch q⟩
    · exact (CsZip.src t c a #[]).jo g4
    · exact (CsZip.src u c b #[]).jo g5
  keep := fun i h h' st k => by
    obtain ⟨g1, g2, ⟨x, y, g3⟩, g4, g5⟩ := st
    exact ⟨k z (by simp) _ g1, k TI (by simp) _ g2, ⟨x, y, k TO (by simp) _ g3⟩, (CsZip.src t i1 a #[]).ja g4 fun o q => k i1 (by simp) o q, (CsZip.src u i2 b #[]).ja g5 fun o q => k i2 (by simp) o q⟩
  item := by
    rintro X rfl rfl rfl hc i pins s σ H E I hf ⟨g1, g2, ⟨x0, y0, g3⟩, g4, g5⟩ ⟨xs, ys, x, y, qx, qy, ex, ey⟩
    obtain ⟨us, rv, p, _⟩ := seqB I qx
    obtain ⟨us2, rv2, p2, _⟩ := seqB I qy
    obtain ⟨v, hv, ru⟩ := rv.get ex
    obtain ⟨v2, hv2, ru2⟩ := rv2.get ey
    have zl : z < s.heap.objs.size := Heap.lt_size g1
    refine CsZip.next D (CsZip.src t i1 a us.toArray) (CsZip.src u i2 b us2.toArray) g1 g2 g3 g4 g5 p p2 (x := v) (y := v2) (by simpa using hv) (by simpa using hv2) fun h' k1 k2 k3 k4 k5 hsz kp => ?_
    refine ⟨_, rfl, wpAny_letOwnedTupleGo_zip (s := { s with heap := h' }) k1 fun h2 z2 sb => ?_⟩
    have T2 : h2.get? s.heap.objs.size = some { cls := .type "tuple", data := .seq #[v, v2] } := (sb.2 _ (Nat.ne_of_gt zl)).trans k5
    have ok : ObjOk X.prog X.w (upd H s.heap.objs.size (.tup [x, y])) h2 s.heap.objs.size (.tup [x, y]) := ⟨by show 2 ≤ sizeLine; decide, [v, v2], .cons ru (.cons ru2 .nil), ⟨_, T2, rfl, _, rfl⟩⟩
    have J : L2.Inv X pins σ (upd H s.heap.objs.size (.tup [x, y])) { s with heap := h2 } := I.turnedNew (t' := s.toks) (ch := [z, TI, TO, i1, i2]) (fun c o hb q => by
      simp only [List.mem_cons, List.not_mem_nil, or_false, not_or] at hb
      exact (sb.2 c hb.1).trans (kp c o hb.1 hb.2.2.1 hb.2.2.2.1 hb.2.2.2.2 q)) hf (Nat.le_refl _) ok
    refine ⟨.ref s.heap.objs.size, _, J, rfl, ⟨_, x, y, rfl, I.hok.fresh (Nat.le_refl _), rfl, fun l hl => by rw [injB I hl qx]; exact ex, fun l hl => by rw [injB I hl qy]; exact ey⟩, ⟨z2, (sb.2 _ D.TIz).trans (kp _ _ D.TIz D.TITO D.TIi1 D.TIi2 g2), ⟨v, v2, (sb.2 _ D.TOz).trans k2⟩,
      (CsZip.src t i1 a us.toArray).ja k3 fun o q => (sb.2 _ D.i1z).trans q, (CsZip.src u i2 b us2.toArray).ja k4 fun o q => (sb.2 _ D.i2z).trans q⟩, fun c hm => ?_⟩
    have lt : c < s.heap.objs.size := by
      simp only [List.mem_cons, List.not_mem_nil, or_false] at hm
      rcases hm with rfl | rfl | rfl | rfl | rfl
      · exact zl
      · exact Heap.lt_size g2
      · exact Heap.lt_size g3
      · obtain ⟨_, q, _⟩ := (CsZip.src t c a #[]).jo g4
        exact Heap.lt_size q
      · obtain ⟨_, q, _⟩ := (CsZip.src u c b #[]).jo g5
        exact Heap.lt_size q
    rw [upd_ne (Nat.ne_of_lt lt)]
    exact (hf c hm).1
  done := by
    rintro X rfl rfl rfl hc i pins s σ H E I hf ⟨g1, g2, ⟨x0, y0, g3⟩, g4, g5⟩ ⟨xs, ys, qx, qy, ends⟩
    obtain ⟨us, rv, p, _⟩ := seqB I qx
    obtain ⟨us2, rv2, p2, _⟩ := seqB I qy
    have l1 := rv.length
    have l2 := rv2.length
    have en : us.toArray[i]? = none ∨ us2.toArray[i]? = none := ends.imp (fun q => by simp; omega) fun q => by simp; omega
    exact CsZip.stop_ (I.ok.hd hc) D (CsZip.src t i1 a us.toArray) (CsZip.src u i2 b us2.toArray) g1 g2 g3 g4 g5 p p2 en fun h' hk => ⟨rfl, I.turnedL (t' := s.toks) (ch := [z, TI, TO, i1, i2]) (fun c o hb q => by
      simp only [List.mem_cons, List.not_mem_nil, or_false, not_or] at hb
      exact hk c o hb.1 hb.2.2.1 hb.2.2.2.1 hb.2.2.2.2 q) hf⟩
  self := fun A i s Q E st h => wpAny_pyIter_zip st.1 h
def iZipB (K : PySem.W.Frag) (t u : Bool) (ta : TA) : TI := fun σ H R => ta σ H fun vs H1 => ∃ a b xs ys, vs = [.ref a, .ref b] ∧ SqB K t H1 a xs ∧ SqB K u H1 b ys ∧ R (ItzB K t u a b) H1
theorem pi_zipB {X : Cx} {e e2 : Expr} {ta : TA} {p pos tpos : Pos} {elts : List Expr} {kk : Nat} (t u : Bool) (ne : t ≠ u) (hg : Gl X "zip") (hm : X.mg "zip" = none) (ha : PA X [e, e2] ta)
    (hs : starEach [e, e2] X.env = (false, eval e X.env) :: starEach [e2] X.env := by rfl) (hpl : (backTo pos (starEach [e2] X.env)).any (·.1) = false := by rfl) :
    PI X (.Tuple elts kk tpos) (.Call (.Name "zip" p) [e, e2] [] pos) (iZipB X.K t u ta) := by
  refine ⟨fun pins s σ H R I h => Call_ (ld_blt I hg hm PyProof.Rows.boot_zip (PyProof.Rows.callWith_type1 (thn (ha.run pos pins s σ H _ I h) fun us s1 ⟨vs, H1, I1, r1, a, b, xs, ys, ev, qx, qy, q⟩ => ?_) hs hpl))⟩
  subst ev
  obtain ⟨u1, us2, rfl, r, rr⟩ : ∃ u1 us2, us = u1 :: us2 ∧ RelV (.ref a) u1 ∧ Vals [.ref b] us2 := by
    cases r1 with
    | cons r rr => exact ⟨_, _, rfl, r, rr⟩
  obtain ⟨u2, rfl, r'⟩ := rr.one
  cases r
  cases r'
  obtain ⟨its, rv, p1, la⟩ := seqB I1 qx
  obtain ⟨its2, rv2, p2, lb⟩ := seqB I1 qy
  refine CsZip.call_zip ne p1 p2 fun h' k1 k2 k3 k4 k5 hk => wpAny_pyIter_zip k1 ?_
  refine ⟨_, [s1.heap.objs.size + 4, s1.heap.objs.size + 2, s1.heap.objs.size + 3, s1.heap.objs.size, s1.heap.objs.size + 1], _, _, H1, rfl, I1.kept (t' := s1.toks) hk, turn_zipB (PySem.W.ktu_apart s1.heap.objs.size a b la lb), ⟨k1, k2, ⟨_, _, k3⟩, k4, k5⟩, fun c hm => ?_, q⟩
  have le : s1.heap.objs.size ≤ c := by
    simp only [List.mem_cons, List.not_mem_nil, or_false] at hm
    rcases hm with rfl | rfl | rfl | rfl | rfl <;> first | exact Nat.le_add_right _ _ | exact Nat.le_refl _
  exact I1.fpOk le (I1.hok.fresh le)
section
variable {K : PySem.W.Frag} {p : Addr} {ta : TA} {g : TG} {te : TE} {vs : List Nat} {σ : L2.St} {H1 : Hp} {Q : VK}
/-- over zip of a tuple and a list, or a list and a tuple, of data -/
theorem lc_zipB {t u : Bool} {a b : Addr} {xs zs : List V} {ds fs es : List PyData} (hl : es.length = min ds.length fs.length) (hz : ds.length ≤ 1000) (qx : ∀ {H}, Same H1 H → SqB K t H a xs) (qz : ∀ {H}, Same H1 H → SqB K u H b zs) (r : RpTA p H1 xs ds) (r' : RpTA p H1 zs fs)
    (ht : ∀ R : List V → Hp → Prop, R [.ref a, .ref b] H1 → ta σ H1 R)
    (hs : ∀ (j : Nat) (T : Addr) (x y : V) (d f e : PyData) (H : Hp), ds[j]? = some d → fs[j]? = some f → es[j]? = some e → Same H1 H → H T = some (.tup [x, y]) → RpT p H x d → RpT p H y f → ∀ R : VK, (∀ y H3, Same H H3 → RpT p H3 y e → R y H3) → g (.ref T) (wipe σ vs) H fun σ2 H2 => wipe σ2 vs = wipe σ vs ∧ te σ2 H2 R)
    (k : ∀ D ys H', H1 D = none → Same H1 H' → H' D = some (.lst ys) → RpTA p H' ys es → Q (.ref D) H') : tLc (iZipB K t u ta) g tYes te vs σ H1 Q := by
  have ln := r.length
  have ln' := r'.length
  refine ht _ ⟨a, b, xs, zs, rfl, qx (Same.refl _), qz (Same.refl _), fun D hD => ?_⟩
  refine ⟨fun i m H => m = es.length - i ∧ i ≤ es.length ∧ Same H1 H ∧ ∃ ys, H D = some (.lst ys) ∧ ys.length = i ∧ RpTA p H ys (es.take i), ⟨es.length, by simp, Nat.zero_le _, same_new hD, [], upd_same, rfl, .nil⟩, ?_⟩
  rintro i m H ⟨rfl, hi, sm, ys, hd, ly, ry⟩
  by_cases lt : i < es.length
  · have hx : i < xs.length := by omega
    have hy : i < zs.length := by omega
    refine .inr ⟨⟨xs, zs, xs[i], zs[i], qx sm, qz sm, List.getElem?_eq_getElem hx, List.getElem?_eq_getElem hy⟩, fun H' => Same H1 H' ∧ ∃ ys, H' D = some (.lst ys) ∧ ys.length = i + 1 ∧ RpTA p H' ys (es.take (i + 1)), fun H' p' => ⟨es.length - (i + 1), by omega, rfl, lt, p'⟩, fun w H' yl => ?_⟩
    obtain ⟨T, x, y, rfl, hT, rfl, e1, e2⟩ := yl
    obtain ⟨d, hd2, rd⟩ := r.get (e1 xs (qx sm))
    obtain ⟨f, hf2, rf⟩ := r'.get (e2 zs (qz sm))
    have sT : Same H (upd H T (.tup [x, y])) := same_new hT
    have key := hs i T x y d f es[i] _ hd2 hf2 (List.getElem?_eq_getElem lt) (sm.trans sT) upd_same (rd.keep (ExT.of (ExB.of (sm.trans sT)))) (rf.keep (ExT.of (ExB.of (sm.trans sT))))
      (fun y H4 => ∃ acc, H4 D = some (.lst acc) ∧ acc.length < sizeLine ∧ Same H1 (upd H4 D (.lst (acc ++ [y]))) ∧ ∃ ys, upd H4 D (.lst (acc ++ [y])) D = some (.lst ys) ∧ ys.length = i + 1 ∧ RpTA p (upd H4 D (.lst (acc ++ [y]))) ys (es.take (i + 1))) fun y H3 s3 r3 => ?_
    · exact key
    · have hd3 := s3 _ _ (sT _ _ hd)
      refine ⟨ys, hd3, ?_, fun b o e => ?_, _, upd_same, ?_, ?_⟩
      · rw [ly]
        exact Nat.lt_of_lt_of_le (by omega : i < 1000) (by decide)
      · rw [upd_ne (ne_of_none e hD)]
        exact s3 _ _ (sT _ _ (sm _ _ e))
      · rw [List.length_append, ly]
        rfl
      · rw [take_snoc (List.getElem?_eq_getElem lt)]
        exact ((ry.keep (ExT.of (ExB.of (sT.trans s3)))).snoc r3).keep (ExT.put hd3)
  · have e : i = es.length := by omega
    subst e
    refine .inl ⟨⟨xs, zs, qx sm, qz sm, by omega⟩, k D ys H hD sm hd (by rw [List.take_of_length_le (Nat.le_refl _)] at ry; exact ry)⟩
end
end Cs
set_option maxHeartbeats 4000000
/-! Comprehensions over data by a test: what passes is kept. -/
namespace Cs
open PySem L2 PyProof.Rows
theorem fil_yes {α β : Type} {f : α → Option β} {xs : List α} {i : Nat} {x : α} {e : β} (hx : xs[i]? = some x) (hf : f x = some e) : (xs.take (i + 1)).filterMap f = (xs.take i).filterMap f ++ [e] := by
  rw [take_snoc hx, List.filterMap_append]
  simp [hf]
theorem fil_no {α β : Type} {f : α → Option β} {xs : List α} {i : Nat} {x : α} (hx : xs[i]? = some x) (hf : f x = none) : (xs.take (i + 1)).filterMap f = (xs.take i).filterMap f := by
  rw [take_snoc hx, List.filterMap_append]
  simp [hf]
/-- the list at D holds what has passed of the first i -/
def FInv {α : Type} (p : Addr) (H1 : Hp) (D : Addr) (xs : List α) (f : α → Option PyData) (i : Nat) (H : Hp) : Prop := Same H1 H ∧ ∃ ys, H D = some (.lst ys) ∧ ys.length ≤ i ∧ RpTA p H ys ((xs.take i).filterMap f)
theorem FInv.yes {α : Type} {p : Addr} {H1 H H3 : Hp} {D : Addr} {xs : List α} {f : α → Option PyData} {i : Nat} {x : α} {e : PyData} {y : V} (h : FInv p H1 D xs f i H) (hD : H1 D = none) (hi : i < 1000) (hx : xs[i]? = some x) (hf : f x = some e) (s : Same H H3) (r : RpT p H3 y e) :
    ∃ acc, H3 D = some (.lst acc) ∧ acc.length < sizeLine ∧ FInv p H1 D xs f (i + 1) (upd H3 D (.lst (acc ++ [y]))) := by
  obtain ⟨sm, ys, hd, ly, ry⟩ := h
  have hd3 := s _ _ hd
  refine ⟨ys, hd3, Nat.lt_of_lt_of_le (by omega : ys.length < 1000) (by decide), fun b o e => ?_, _, upd_same, ?_, ?_⟩
  · rw [upd_ne (ne_of_none e hD)]
    exact s _ _ (sm _ _ e)
  · rw [List.length_append]
    simp only [List.length_cons, List.length_nil]
    omega
  · rw [fil_yes hx hf]
    exact ((ry.keep (ExT.of (ExB.of s))).snoc r).keep (ExT.put hd3)
theorem FInv.no {α : Type} {p : Addr} {H1 H H3 : Hp} {D : Addr} {xs : List α} {f : α → Option PyData} {i : Nat} {x : α} (h : FInv p H1 D xs f i H) (hx : xs[i]? = some x) (hf : f x = none) (s : Same H H3) : FInv p H1 D xs f (i + 1) H3 := by
  obtain ⟨sm, ys, hd, ly, ry⟩ := h
  refine ⟨sm.trans s, ys, s _ _ hd, by omega, ?_⟩
  rw [fil_no hx hf]
  exact ry.keep (ExT.of (ExB.of s))
theorem FInv.new {α : Type} {p : Addr} {H1 : Hp} {D : Addr} {xs : List α} {f : α → Option PyData} (hD : H1 D = none) : FInv p H1 D xs f 0 (upd H1 D (.lst [])) := ⟨same_new hD, [], upd_same, Nat.le_refl _, .nil⟩
section
variable {K : PySem.W.Frag} {p : Addr} {ds : List PyData} {tl : TE} {ta : TA} {g : TG} {tt : TT} {te : TE} {vs : List Nat} {σ : L2.St} {H1 : Hp} {Q : VK}
theorem lc_filT {f : PyData → Option PyData} (hz : ds.length ≤ 1000) (ht : ∀ R : VK, (∀ v H2, Same H1 H2 → RpT p H2 v (.tuple ds) → R v H2) → tl σ H1 R)
    (hs : ∀ (j : Nat) (z : V) (d : PyData) (H : Hp), ds[j]? = some d → Same H1 H → RpT p H z d → ∀ (R : VK) (N : Hp → Prop), (∀ y e H3, f d = some e → Same H H3 → RpT p H3 y e → R y H3) → (∀ H3, f d = none → Same H H3 → N H3) →
      g z (wipe σ vs) H fun σ2 H2 => wipe σ2 vs = wipe σ vs ∧ tt σ2 H2 fun b H3 => if b = true then te σ2 H3 R else N H3)
    (k : ∀ D ys H', H1 D = none → Same H1 H' → H' D = some (.lst ys) → RpTA p H' ys (ds.filterMap f) → Q (.ref D) H') : tLc (iTup K tl) g tt te vs σ H1 Q := by
  refine ht _ fun v H2 s12 rv => ?_
  cases rv with
  | @tup a xs _ n h z r =>
    have ln := r.length
    refine ⟨a, rfl, ⟨xs, SqT.rd h⟩, fun D hD => ?_⟩
    refine lc_tup (K := K) (a := a) (xs := xs) (fun i H => FInv p H2 D ds f i H) (FInv.new hD) (fun i H _ q => SqT.rd (Rd.same h q.1)) (fun i x H hi q => ?_) (fun H q => ?_)
    · have hi2 := (List.getElem?_eq_some_iff.mp hi).1
      obtain ⟨d, hd2, rd⟩ := r.get hi
      exact hs i x d H hd2 (s12.trans q.1) (rd.keep (ExT.of (ExB.of q.1))) _ _ (fun y e H3 hf s3 r3 => q.yes hD (by omega) hd2 hf s3 r3) (fun H3 hf s3 => q.no hd2 hf s3)
    · obtain ⟨sm, ys, hd, ly, ry⟩ := q
      rw [List.take_of_length_le (by omega)] at ry
      exact k D ys H (s12.free hD) (s12.trans sm) hd ry
theorem lc_filL {f : PyData → Option PyData} (hz : ds.length ≤ 1000) (ht : ∀ R : VK, (∀ a xs H2, Same H1 H2 → H2 a = some (.lst xs) → RpTA p H2 xs ds → R (.ref a) H2) → tl σ H1 R)
    (hs : ∀ (j : Nat) (z : V) (d : PyData) (H : Hp), ds[j]? = some d → Same H1 H → RpT p H z d → ∀ (R : VK) (N : Hp → Prop), (∀ y e H3, f d = some e → Same H H3 → RpT p H3 y e → R y H3) → (∀ H3, f d = none → Same H H3 → N H3) →
      g z (wipe σ vs) H fun σ2 H2 => wipe σ2 vs = wipe σ vs ∧ tt σ2 H2 fun b H3 => if b = true then te σ2 H3 R else N H3)
    (k : ∀ D ys H', H1 D = none → Same H1 H' → H' D = some (.lst ys) → RpTA p H' ys (ds.filterMap f) → Q (.ref D) H') : tLc (iList K tl) g tt te vs σ H1 Q := by
  refine ht _ fun a xs H2 s12 h r => ?_
  have ln := r.length
  refine ⟨a, rfl, ⟨xs, SqL.of h⟩, fun D hD => ?_⟩
  refine lc_list (K := K) (a := a) (xs := xs) (fun i H => FInv p H2 D ds f i H) (FInv.new hD) (fun i H _ q => SqL.of (q.1 _ _ h)) (fun i x H hi q => ?_) (fun H q => ?_)
  · have hi2 := (List.getElem?_eq_some_iff.mp hi).1
    obtain ⟨d, hd2, rd⟩ := r.get hi
    exact hs i x d H hd2 (s12.trans q.1) (rd.keep (ExT.of (ExB.of q.1))) _ _ (fun y e H3 hf s3 r3 => q.yes hD (by omega) hd2 hf s3 r3) (fun H3 hf s3 => q.no hd2 hf s3)
  · obtain ⟨sm, ys, hd, ly, ry⟩ := q
    rw [List.take_of_length_le (by omega)] at ry
    exact k D ys H (s12.free hD) (s12.trans sm) hd ry
/-- over zip of a tuple and a list -/
theorem lc_filZ {t u : Bool} {fs : List PyData} {f : PyData × PyData → Option PyData} (hz : ds.length ≤ 1000)
    (ht : ∀ R : List V → Hp → Prop, (∀ a b xs zs H2, Same H1 H2 → (∀ H, Same H2 H → SqB K t H a xs) → (∀ H, Same H2 H → SqB K u H b zs) → RpTA p H2 xs ds → RpTA p H2 zs fs → R [.ref a, .ref b] H2) → ta σ H1 R)
    (hs : ∀ (j : Nat) (T : Addr) (x y : V) (d e : PyData) (H : Hp), ds[j]? = some d → fs[j]? = some e → Same H1 H → H T = some (.tup [x, y]) → RpT p H x d → RpT p H y e → ∀ (R : VK) (N : Hp → Prop), (∀ y o H3, f (d, e) = some o → Same H H3 → RpT p H3 y o → R y H3) → (∀ H3, f (d, e) = none → Same H H3 → N H3) →
      g (.ref T) (wipe σ vs) H fun σ2 H2 => wipe σ2 vs = wipe σ vs ∧ tt σ2 H2 fun b H3 => if b = true then te σ2 H3 R else N H3)
    (k : ∀ D ys H', H1 D = none → Same H1 H' → H' D = some (.lst ys) → RpTA p H' ys ((ds.zip fs).filterMap f) → Q (.ref D) H') : tLc (iZipB K t u ta) g tt te vs σ H1 Q := by
  refine ht _ fun a b xs zs H0 s01 qx qz r r' => ?_
  have ln := r.length
  have ln' := r'.length
  have lz : (ds.zip fs).length = min ds.length fs.length := List.length_zip
  refine ⟨a, b, xs, zs, rfl, qx _ (Same.refl _), qz _ (Same.refl _), fun D hD => ?_⟩
  refine ⟨fun i m H => m = (ds.zip fs).length - i ∧ i ≤ (ds.zip fs).length ∧ FInv p H0 D (ds.zip fs) f i H, ⟨(ds.zip fs).length, by simp, Nat.zero_le _, FInv.new hD⟩, ?_⟩
  rintro i m H ⟨rfl, hi, q⟩
  by_cases lt : i < (ds.zip fs).length
  · have hx : i < xs.length := by omega
    have hy : i < zs.length := by omega
    refine .inr ⟨⟨xs, zs, xs[i], zs[i], qx _ q.1, qz _ q.1, List.getElem?_eq_getElem hx, List.getElem?_eq_getElem hy⟩, fun H' => FInv p H0 D (ds.zip fs) f (i + 1) H', fun H' p' => ⟨(ds.zip fs).length - (i + 1), by omega, rfl, lt, p'⟩, fun w H' yl => ?_⟩
    obtain ⟨T, x, y, rfl, hT, rfl, e1, e2⟩ := yl
    obtain ⟨d, hd2, rd⟩ := r.get (e1 xs (qx _ q.1))
    obtain ⟨e, hf2, rf⟩ := r'.get (e2 zs (qz _ q.1))
    have sT : Same H (upd H T (.tup [x, y])) := same_new hT
    have gz : (ds.zip fs)[i]? = some (d, e) := by
      rw [List.getElem?_zip_eq_some]
      exact ⟨hd2, hf2⟩
    have sA := q.1.trans sT
    exact hs i T x y d e _ hd2 hf2 (s01.trans sA) upd_same (rd.keep (ExT.of (ExB.of sA))) (rf.keep (ExT.of (ExB.of sA))) _ _ (fun y o H3 hf s3 r3 => q.yes hD (by omega) gz hf (sT.trans s3) r3) (fun H3 hf s3 => q.no gz hf (sT.trans s3))
  · have e : i = (ds.zip fs).length := by omega
    subst e
    obtain ⟨sm, ys, hd, ly, ry⟩ := q
    rw [List.take_of_length_le (Nat.le_refl _)] at ry
    exact .inl ⟨⟨xs, zs, qx _ sm, qz _ sm, by omega⟩, k D ys H (s01.free hD) (s01.trans sm) hd ry⟩
/-- over enumerate of a tuple -/
theorem lc_filE {f : Nat × PyData → Option PyData} (hz : ds.length ≤ 1000) (ht : ∀ R : List V → Hp → Prop, (∀ v H2, Same H1 H2 → RpT p H2 v (.tuple ds) → R [v] H2) → ta σ H1 R)
    (hs : ∀ (j : Nat) (T : Addr) (x : V) (d : PyData) (H : Hp), ds[j]? = some d → Same H1 H → H T = some (.tup [.int (j : Nat), x]) → RpT p H x d → ∀ (R : VK) (N : Hp → Prop), (∀ y e H3, f (j, d) = some e → Same H H3 → RpT p H3 y e → R y H3) → (∀ H3, f (j, d) = none → Same H H3 → N H3) →
      g (.ref T) (wipe σ vs) H fun σ2 H2 => wipe σ2 vs = wipe σ vs ∧ tt σ2 H2 fun b H3 => if b = true then te σ2 H3 R else N H3)
    (k : ∀ D ys H', H1 D = none → Same H1 H' → H' D = some (.lst ys) → RpTA p H' ys ((ds.zipIdx.map fun x => (x.2, x.1)).filterMap f) → Q (.ref D) H') : tLc (iEnT K ta) g tt te vs σ H1 Q := by
  refine ht _ fun v H2 s12 rv => ?_
  cases rv with
  | @tup a xs _ n h z r =>
    have ln := r.length
    have lz : (ds.zipIdx.map fun x => (x.2, x.1)).length = ds.length := by rw [List.length_map, List.length_zipIdx]
    refine ⟨a, rfl, ⟨xs, SqT.rd h⟩, fun D hD => ?_⟩
    refine ⟨fun i m H => m = ds.length - i ∧ i ≤ ds.length ∧ FInv p H2 D (ds.zipIdx.map fun x => (x.2, x.1)) f i H, ⟨ds.length, by simp, Nat.zero_le _, FInv.new hD⟩, ?_⟩
    rintro i m H ⟨rfl, hi, q⟩
    have hT : SqT K H a xs := SqT.rd (Rd.same h q.1)
    by_cases lt : i < ds.length
    · have hx : i < xs.length := by omega
      refine .inr ⟨⟨xs, xs[i], hT, List.getElem?_eq_getElem hx⟩, fun H' => FInv p H2 D (ds.zipIdx.map fun x => (x.2, x.1)) f (i + 1) H', fun H' p' => ⟨ds.length - (i + 1), by omega, rfl, lt, p'⟩, fun w H' yl => ?_⟩
      obtain ⟨T, x, rfl, hT', rfl, e1⟩ := yl
      obtain ⟨d, hd2, rd⟩ := r.get (e1 xs hT)
      have sT : Same H (upd H T (.tup [.int (i : Nat), x])) := same_new hT'
      have gz : (ds.zipIdx.map fun x => (x.2, x.1))[i]? = some (i, d) := by
        rw [List.getElem?_map, List.getElem?_zipIdx, hd2]
        simp
      have sA := q.1.trans sT
      exact hs i T x d _ hd2 (s12.trans sA) upd_same (rd.keep (ExT.of (ExB.of sA))) _ _ (fun y o H3 hf s3 r3 => q.yes hD (by omega) gz hf (sT.trans s3) r3) (fun H3 hf s3 => q.no gz hf (sT.trans s3))
    · have e : i = ds.length := by omega
      subst e
      obtain ⟨sm, ys, hd, ly, ry⟩ := q
      rw [List.take_of_length_le (by omega)] at ry
      exact .inl ⟨⟨xs, hT, by omega⟩, k D ys H (s12.free hD) (s12.trans sm) hd ry⟩
end
end Cs
set_option maxHeartbeats 4000000
/-! repr of data, where nothing is being shown just now. -/
namespace Cs
open PySem L2 PyProof.Rows
mutual
/-- no list stands in it -/
def noL : PyData → Bool
  | .list _ => false
  | .tuple ds => noLs ds
  | _ => true
def noLs : List PyData → Bool
  | [] => true
  | d :: ds => noL d && noLs ds
end
section
variable {X : Cx} {pins : List (Addr × Obj)} {σ : L2.St} {H : Hp} {s : Shared} {p : Addr}
mutual
theorem Rp.readsA (I : L2.Inv X pins σ H s) : ∀ {v : V} {d : PyData}, Rp p H v d → ∀ u, RelV v u → ∃ as, Reads s.heap u d as ∧ (noL d = true → sysModules ∉ as)
  | _, _, .non, u, r => by
    obtain rfl : u = .none := r
    exact ⟨_, .none, fun _ => List.not_mem_nil⟩
  | _, _, .bl b, u, r => by
    obtain rfl : u = .bool b := r
    exact ⟨_, .bool b, fun _ => List.not_mem_nil⟩
  | _, _, .int i, u, r => by
    obtain ⟨t, rfl⟩ := r
    exact ⟨_, .int i t, fun _ => List.not_mem_nil⟩
  | _, _, .str x _, u, r => by
    obtain ⟨t, rfl⟩ := r
    exact ⟨_, .str x t, fun _ => List.not_mem_nil⟩
  | _, _, .lst _ h z ra, u, r => by
    obtain rfl := r
    obtain ⟨its, rv, ⟨o, n, ho, hc, _, hd⟩, _⟩ := I.list (SqL.of h)
    obtain ⟨as, hr, _⟩ := RpA.readsA I ra its rv
    exact ⟨_, .list ho hc hd hr, fun h => by simp [noL] at h⟩
  | _, _, .tup _ h z ra, u, r => by
    obtain rfl := r
    obtain ⟨its, rv, ⟨o, ho, hc, n, hd⟩, _⟩ := I.tuple (SqT.rd h)
    obtain ⟨as, hr, k⟩ := RpA.readsA I ra its rv
    exact ⟨_, .tuple ho hc hd hr, fun h2 => k (by simpa [noL] using h2)⟩
  | _, _, .dct _ h, u, r => by
    obtain rfl := r
    obtain ⟨_, ns, vs, kv, o, es, ep, ho, ex, hd, he1, he2⟩ := I.hok _ _ h
    cases kv
    have e0 : es = #[] := Array.toList_inj.mp (List.eq_nil_of_length_eq_zero he2.1.length)
    subst e0
    refine ⟨_, .dict (kvs := []) ho ex.1 hd .nil .nil, fun _ hm => ?_⟩
    have e2 := List.mem_singleton.mp hm
    rw [← e2] at ns
    simp at ns
theorem RpA.readsA (I : L2.Inv X pins σ H s) : ∀ {vs : List V} {ds : List PyData}, RpA p H vs ds → ∀ us, Vals vs us → ∃ as, ReadsAll s.heap us ds as ∧ (noLs ds = true → sysModules ∉ as)
  | _, _, .nil, _, .nil => ⟨_, .nil, fun _ => List.not_mem_nil⟩
  | _, _, .cons h t, _, .cons r rr => by
    obtain ⟨as, h1, k1⟩ := Rp.readsA I h _ r
    obtain ⟨bs, h2, k2⟩ := RpA.readsA I t _ rr
    refine ⟨_, .cons h1 h2, fun hn hm => ?_⟩
    have hn : (noL _ && noLs _) = true := hn
    rw [Bool.and_eq_true] at hn
    exact (List.mem_append.mp hm).elim (k1 hn.1) (k2 hn.2)
end
end
/-- what may be shown: lists and dicts do not stand in one another, but a list at the top -/
def topSafe : PyData → Bool
  | .list ds => !PyData.hasDictAll ds || noLs ds
  | d => !d.hasDict || noL d
section
variable {prog : Program} {w : World} {A : Around} {E : Value → Shared → Prop} {s : Shared} {Q : Value → Shared → Prop} {a : Addr} {as : List Addr}
/-- a list at the top is shown -/
theorem show_list {ds : List PyData} {o : Obj} {vs : Array Value} {n : Nat} {as1 : List Addr} (ho : s.heap.get? a = some o) (hc : o.cls = .type "list") (hdt : o.data = .seq vs n) (hr : ReadsAll s.heap vs.toList ds as1) (in_ : PyData.hasDictAll ds = true → sysModules ∉ as1) (ok : PyData.showableAll ds = true) (hg : A.guards = some []) (hu : A.units + 64 < cLine) (hd : (PyData.list ds).depth ≤ 60)
    (hz : (PyData.list ds).shown.length ≤ sizeLine) (k : ∀ h' u tk, (∀ b o, s.heap.get? b = some o → h'.get? b = some o) → Q (.str (PyData.list ds).shown u) { s with heap := h', toks := tk }) :
    wpAny (model prog w) A (call (.builtin "repr") [.ref a]) Q E s := by
  have r0 : Reads s.heap (.ref a) (.list ds) (a :: as1) := .list ho hc hdt hr
  have hz2 : (listText (PyData.shownAll ds)).length ≤ sizeLine := by simpa only [PyData.shown] using hz
  simp only [PyData.depth] at hd
  simp only [PyData.shown] at k
  obtain ⟨bs, hb, hk⟩ := ReprAllK.of_readsAll (prog := prog) (w := w) hr ok (fun hx hm => in_ hx hm) (fun t ht => Nat.le_trans (listText_mem_le ht) hz2)
  have na : a ∉ bs := not_mem_of_deeper r0 (by simp only [PyData.depth]; omega) hb
  have ty : ∀ t : Shared, (∀ b o, s.heap.get? b = some o → t.heap.get? b = some o) → t.TypeIs (.ref a) "list" := fun t kt => ⟨o, kt _ _ ho, hc⟩
  refine call_repr_slot (by omega) (ty s fun _ _ e => e) F.slot_list_repr.toG ?_
  obtain ⟨l⟩ := vs
  cases l with
  | nil =>
    have hr2 : ReadsAll s.heap [] ds as1 := hr
    cases hr2
    simp only [PyData.shownAll, listText_nil] at k
    exact call_list_repr_empty (ty s fun _ _ e => e) ho hdt ⟨_, _, rfl, k s.heap _ _ fun _ _ e => e⟩
  | cons y l =>
    exact call_list_reprK ho hc hdt na (by simpa using hk.length_eq) (fun i y e => hk.item i y (by simpa using e)) (A := A.in1) hg (fun b _ => Clear.nil b) (by show A.units + 1 + _ < cLine; omega) (fun _ _ e => e) (fun h' u tk kp => ⟨_, _, rfl, k h' u tk kp⟩) hz2
end
def tReprD : List V → Hp → VK → Prop := fun xs H Q => ∃ (p : Addr) (v : V) (d : PyData), xs = [v] ∧ Rp p H v d ∧ d.showable = true ∧ topSafe d = true ∧ d.depth ≤ 60 ∧ d.shown.length ≤ sizeLine ∧ Q (.str d.shown) H
theorem callReprD {X : Cx} (hG : X.A.guards = some []) (hu : X.A.units + 64 < cLine) : CallR X (.builtin "repr") tReprD := by
  rintro pins s σ H xs us Q I r ⟨p, v, d, rfl, rp, ok, top, dep, sz, q⟩
  obtain ⟨u, rfl, ru⟩ := r.one
  have fin : ∀ h' t tk, (∀ b o, s.heap.get? b = some o → h'.get? b = some o) → EP X pins σ Q (.str d.shown t) { s with heap := h', toks := tk } := fun h' t tk kp => ⟨.str d.shown, H, I.kept (t' := tk) kp, ⟨_, rfl⟩, q⟩
  obtain ⟨as, hr, hs⟩ := Rp.readsA I rp u ru
  cases rp with
  | non => cases hr; exact PySem.P.repr_of_none (fin _ _ _ fun _ _ e => e)
  | bl b => cases hr; exact PySem.P.repr_of_bool (by
      have z := fin s.heap s.toks (s.toks + 1) fun _ _ e => e
      simp only [PyData.shown] at z
      cases b <;> exact z)
  | int i => cases hr; exact PySem.P.repr_of_int (by simpa [PyData.showable] using ok) (fin _ _ _ fun _ _ e => e)
  | str x z => cases hr; exact PySem.P.repr_of_str (fin _ _ _ fun _ _ e => e) sz
  | @lst a vs ds n h z ra =>
    obtain rfl := ru
    obtain ⟨its, rv, ⟨o, m, ho, hc, _, hdt⟩, _⟩ := I.list (SqL.of h)
    obtain ⟨bs, hr2, hs2⟩ := RpA.readsA I ra its rv
    exact show_list ho hc hdt hr2 (fun hx => hs2 (by simpa [topSafe, hx] using top)) (by simpa [PyData.showable] using ok) hG hu dep sz fin
  | tup n h z ra =>
    obtain rfl := ru
    exact repr_of_reads' hr ok (fun hx => hs (by simpa [topSafe, hx] using top)) hG (by omega) (fun _ _ e => e) fin sz
  | dct n h =>
    obtain rfl := ru
    exact repr_of_reads' hr ok (fun hx => hs rfl) hG (by simp [PyData.depth, PyData.depthKv] at dep ⊢; omega) (fun _ _ e => e) fin sz
end Cs
set_option maxHeartbeats 4000000
/-! Data alone: readings of expressions and statements over values, with no heap in sight. -/
namespace Cs
open PySem L2 PyProof.Rows
/-! ### data that stands apart from some addresses -/
mutual
inductive Dn (N : Addr → Prop) (H : Hp) : V → PyData → Prop
  | non : Dn N H .non .none
  | bl (b : Bool) : Dn N H (.bl b) (.bool b)
  | int (i : Int) : Dn N H (.int i) (.int i)
  | str (x : Str) (h : x.length ≤ 1000) : Dn N H (.str x) (.str x)
  | lst {a : Addr} {xs : List V} {ds : List PyData} (n : ¬ N a) (h : H a = some (.lst xs)) (z : xs.length ≤ 1000) (r : DnA N H xs ds) : Dn N H (.ref a) (.list ds)
  | tup {a : Addr} {xs : List V} {ds : List PyData} (n : ¬ N a) (h : Rd H a (.tup xs)) (z : xs.length ≤ 1000) (r : DnA N H xs ds) : Dn N H (.ref a) (.tuple ds)
  | dct {a : Addr} (n : ¬ N a) (h : H a = some (.dK [])) : Dn N H (.ref a) (.dict [])
inductive DnA (N : Addr → Prop) (H : Hp) : List V → List PyData → Prop
  | nil : DnA N H [] []
  | cons {v : V} {vs : List V} {d : PyData} {ds : List PyData} (h : Dn N H v d) (t : DnA N H vs ds) : DnA N H (v :: vs) (d :: ds)
end
structure Fit2 (N N' : Addr → Prop) (H H' : Hp) : Prop where
  m : ∀ a, N' a → N a ∨ H a = none
  k : ∀ b o, ¬ N b → H b = some o → H' b = some o
theorem Fit2.ok {N N' : Addr → Prop} {H H' : Hp} (e : Fit2 N N' H H') {a : Addr} {o : HO} (n : ¬ N a) (h : H a = some o) : ¬ N' a := fun z => by
  rcases e.m a z with q | q
  · exact n q
  · rw [h] at q
    cases q
theorem Fit2.rd {N N' : Addr → Prop} {H H' : Hp} (e : Fit2 N N' H H') {a : Addr} {o : HO} (n : ¬ N a) (h : Rd H a o) : ¬ N' a := by
  rcases h with h | ⟨q, h⟩
  · exact e.ok n h
  · exact e.ok n h
theorem Fit2.trans {N N1 N2 : Addr → Prop} {H H1 H2 : Hp} (a : Fit2 N N1 H H1) (b : Fit2 N1 N2 H1 H2) : Fit2 N N2 H H2 := by
  refine ⟨fun x h => ?_, fun x o n h => ?_⟩
  · rcases b.m x h with q | q
    · exact a.m x q
    · by_cases z : N x
      · exact .inl z
      · right
        cases e : H x with
        | none => rfl
        | some o =>
          rw [a.k x o z e] at q
          cases q
  · exact b.k x o (a.ok n h) (a.k x o n h)
theorem Fit2.refl {N : Addr → Prop} {H : Hp} : Fit2 N N H H := ⟨fun _ h => .inl h, fun _ _ _ h => h⟩
theorem Fit2.same {N : Addr → Prop} {H H' : Hp} (s : Same H H') : Fit2 N N H H' := ⟨fun _ h => .inl h, fun _ _ _ h => s _ _ h⟩
theorem Fit2.less {N N' : Addr → Prop} {H : Hp} (h : ∀ a, N' a → N a) : Fit2 N N' H H := ⟨fun a z => .inl (h a z), fun _ _ _ h => h⟩
mutual
theorem Dn.go {N N' : Addr → Prop} {H H' : Hp} (e : Fit2 N N' H H') : ∀ {v : V} {d : PyData}, Dn N H v d → Dn N' H' v d
  | _, _, .non => .non
  | _, _, .bl b => .bl b
  | _, _, .int i => .int i
  | _, _, .str x h => .str x h
  | _, _, .lst n h z r => .lst (e.ok n h) (e.k _ _ n h) z (DnA.go e r)
  | _, _, .tup n h z r => .tup (e.rd n h) (rd_keep (fun o q => e.k _ o n q) h) z (DnA.go e r)
  | _, _, .dct n h => .dct (e.ok n h) (e.k _ _ n h)
theorem DnA.go {N N' : Addr → Prop} {H H' : Hp} (e : Fit2 N N' H H') : ∀ {vs : List V} {ds : List PyData}, DnA N H vs ds → DnA N' H' vs ds
  | _, _, .nil => .nil
  | _, _, .cons h t => .cons (Dn.go e h) (DnA.go e t)
end
mutual
theorem Dn.rp {N : Addr → Prop} {H : Hp} {p : Addr} (hp : N p) : ∀ {v : V} {d : PyData}, Dn N H v d → Rp p H v d
  | _, _, .non => .non
  | _, _, .bl b => .bl b
  | _, _, .int i => .int i
  | _, _, .str x h => .str x h
  | _, _, .lst n h z r => .lst (fun e => n (e ▸ hp)) h z (DnA.rp hp r)
  | _, _, .tup n h z r => .tup (fun e => n (e ▸ hp)) h z (DnA.rp hp r)
  | _, _, .dct n h => .dct (fun e => n (e ▸ hp)) h
theorem DnA.rp {N : Addr → Prop} {H : Hp} {p : Addr} (hp : N p) : ∀ {vs : List V} {ds : List PyData}, DnA N H vs ds → RpA p H vs ds
  | _, _, .nil => .nil
  | _, _, .cons h t => .cons (Dn.rp hp h) (DnA.rp hp t)
end
mutual
theorem RpT.dn {N : Addr → Prop} {H : Hp} {p : Addr} (hn : ∀ a xs, a ≠ p → Rd H a (.tup xs) → ¬ N a) : ∀ {v : V} {d : PyData}, RpT p H v d → Dn N H v d
  | _, _, .non => .non
  | _, _, .bl b => .bl b
  | _, _, .int i => .int i
  | _, _, .str x h => .str x h
  | _, _, .tup n h z r => .tup (hn _ _ n h) h z (RpTA.dn hn r)
theorem RpTA.dn {N : Addr → Prop} {H : Hp} {p : Addr} (hn : ∀ a xs, a ≠ p → Rd H a (.tup xs) → ¬ N a) : ∀ {vs : List V} {ds : List PyData}, RpTA p H vs ds → DnA N H vs ds
  | _, _, .nil => .nil
  | _, _, .cons h t => .cons (RpT.dn hn h) (RpTA.dn hn t)
end
theorem DnA.length {N : Addr → Prop} {H : Hp} : ∀ {vs : List V} {ds : List PyData}, DnA N H vs ds → vs.length = ds.length
  | _, _, .nil => rfl
  | _, _, .cons _ t => by rw [List.length_cons, List.length_cons, DnA.length t]
theorem DnA.get {N : Addr → Prop} {H : Hp} : ∀ {vs : List V} {ds : List PyData} {i : Nat} {v : V}, DnA N H vs ds → vs[i]? = some v → ∃ d, ds[i]? = some d ∧ Dn N H v d
  | _, _, _, _, .nil, e => by simp at e
  | _, _, 0, _, .cons h _, e => by
    obtain rfl := Option.some.inj e
    exact ⟨_, rfl, h⟩
  | _, _, i + 1, v, .cons _ t, e => DnA.get (i := i) t e
theorem DnA.at_ {N : Addr → Prop} {H : Hp} : ∀ {vs : List V} {ds : List PyData} {i : Nat} {d : PyData}, DnA N H vs ds → ds[i]? = some d → ∃ v, vs[i]? = some v ∧ Dn N H v d
  | _, _, _, _, .nil, e => by simp at e
  | _, _, 0, _, .cons h _, e => by
    obtain rfl := Option.some.inj e
    exact ⟨_, rfl, h⟩
  | _, _, i + 1, v, .cons _ t, e => DnA.at_ (i := i) t e
theorem DnA.append {N : Addr → Prop} {H : Hp} : ∀ {vs ws : List V} {ds es : List PyData}, DnA N H vs ds → DnA N H ws es → DnA N H (vs ++ ws) (ds ++ es)
  | _, _, _, _, .nil, s => s
  | _, _, _, _, .cons h t, s => .cons h (DnA.append t s)
theorem DnA.take {N : Addr → Prop} {H : Hp} : ∀ {vs : List V} {ds : List PyData} (n : Nat), DnA N H vs ds → DnA N H (vs.take n) (ds.take n)
  | _, _, 0, _ => .nil
  | _, _, n + 1, .nil => .nil
  | _, _, n + 1, .cons h t => .cons h (DnA.take n t)
theorem DnA.drop {N : Addr → Prop} {H : Hp} : ∀ {vs : List V} {ds : List PyData} (n : Nat), DnA N H vs ds → DnA N H (vs.drop n) (ds.drop n)
  | _, _, 0, h => h
  | _, _, n + 1, .nil => .nil
  | _, _, n + 1, .cons h t => DnA.drop n t
theorem DnA.cut {N : Addr → Prop} {H : Hp} {vs : List V} {ds : List PyData} (r : DnA N H vs ds) (lo hi : Option Int) : DnA N H (cutV vs lo hi) (cutD ds lo hi) := by
  unfold cutV cutD
  rw [r.length]
  exact DnA.take _ (DnA.drop _ r)
theorem DnA.erase {N : Addr → Prop} {H : Hp} : ∀ {vs : List V} {ds : List PyData} (k : Nat), DnA N H vs ds → DnA N H (vs.eraseIdx k) (ds.eraseIdx k)
  | _, _, _, .nil => .nil
  | _, _, 0, .cons h t => t
  | _, _, k + 1, .cons h t => .cons h (DnA.erase k t)
theorem DnA.rep {N : Addr → Prop} {H : Hp} {vs : List V} {ds : List PyData} (r : DnA N H vs ds) : ∀ (n : Nat), DnA N H (List.replicate n vs).flatten (List.replicate n ds).flatten
  | 0 => .nil
  | n + 1 => by
    rw [List.replicate_succ, List.replicate_succ, List.flatten_cons, List.flatten_cons]
    exact r.append (DnA.rep r n)
mutual
theorem Dn.dp {N : Addr → Prop} {H : Hp} {K : PySem.W.Frag} : ∀ {v : V} {d : PyData}, Dn N H v d → d.canLay0 = true → Dp K H v d
  | _, _, .non, _ => .non
  | _, _, .bl b, _ => .bl b
  | _, _, .int i, _ => .int i
  | _, _, .str x h, _ => .str x
  | _, _, .lst n h z r, e => .lst (SqL.of h) (DnA.dp r e)
  | _, _, .tup n h z r, e => .tup (SqT.rd h) (DnA.dp r e)
  | _, _, .dct n h, e => by cases e
theorem DnA.dp {N : Addr → Prop} {H : Hp} {K : PySem.W.Frag} : ∀ {vs : List V} {ds : List PyData}, DnA N H vs ds → PyData.canLayAll0 ds = true → DpAll K H vs ds
  | _, _, .nil, _ => .nil
  | _, _, .cons h t, e => by
    have e' : (_ && _) = true := e
    rw [Bool.and_eq_true] at e'
    exact .cons (Dn.dp h e'.1) (DnA.dp t e'.2)
end
/-! ### what is known of slots and of results -/
inductive AV where
  | u
  | d (x : PyData)
  | l (xs : List PyData)
  | p (n : Nat)
  | o (P : V → Hp → Prop)
  | q (n : Nat) (z : List (Addr × Str))
  | t (z : List (Addr × Str))
inductive RV where
  | d (x : PyData)
  | f (xs : List PyData)
  | b (x : PyData)
  | p
  | o (P : V → Hp → Prop)
/-- a result looked at -/
def RV.see : RV → Option PyData
  | .d y => some y
  | .f ys => some (.list ys)
  | .b y => some y
  | _ => none
/-- a result that may be kept -/
def RV.kp : RV → Option PyData
  | .d y => some y
  | .f ys => some (.list ys)
  | _ => none
structure Ga where
  B : Bool
  p : Addr
  M : Addr → Prop
  H0 : Hp
  F : (Addr → Prop) → Hp → Prop
  fst : ∀ (N N' : Addr → Prop) (H H' : Hp), Fit2 N N' H H' → F N H → F N' H'
  tb : List (Addr × Str)
  tm : ∀ q ∈ tb, M q.1
  t0 : ∀ q ∈ tb, ∃ ps, H0 q.1 = some (.tbl ps)
/-- a table of code that grows -/
def Zp (Γ : Ga) (b : Addr) : Prop := ∃ q ∈ Γ.tb, q.1 = b
/-- what stays at any rate -/
def Fre (Γ : Ga) (b : Addr) : Prop := (Γ.B = true → b ≠ Γ.p) ∧ ¬ Zp Γ b
/-- a list, or a table of code -/
def Ls (H : Hp) (a : Addr) : Prop := (∃ xs, H a = some (.lst xs)) ∨ ∃ ps, H a = some (.tbl ps)
theorem Ls.ob {H : Hp} {a : Addr} (h : Ls H a) : ∃ o, H a = some o := by
  rcases h with ⟨_, h⟩ | ⟨_, h⟩
  · exact ⟨_, h⟩
  · exact ⟨_, h⟩
theorem zp_M {Γ : Ga} {b : Addr} (h : Zp Γ b) : Γ.M b := by
  obtain ⟨q, hq, rfl⟩ := h
  exact Γ.tm q hq
theorem zp_not {Γ : Ga} {H : Hp} {b : Addr} {o : HO} (t : LamX.Tabs Γ.tb H) (h : H b = some o) (n : ∀ ps, o ≠ .tbl ps) : ¬ Zp Γ b := by
  rintro ⟨q, hq, rfl⟩
  obtain ⟨ps, e, _⟩ := t q hq
  rw [h] at e
  exact n ps (Option.some.inj e)
theorem zp_0 {Γ : Ga} {b : Addr} (h : Zp Γ b) : ∃ ps, Γ.H0 b = some (.tbl ps) := by
  obtain ⟨q, hq, rfl⟩ := h
  exact Γ.t0 q hq
theorem zp_at {Γ : Ga} {H : Hp} {b : Addr} (t : LamX.Tabs Γ.tb H) (h : Zp Γ b) : ∃ ps, H b = some (.tbl ps) := by
  obtain ⟨q, hq, rfl⟩ := h
  obtain ⟨ps, e, _⟩ := t q hq
  exact ⟨ps, e⟩
/-- tables stand while a list changes -/
theorem tabs_exb {T : List (Addr × Str)} {p : Addr} {H H' : Hp} {xs : List V} (t : LamX.Tabs T H) (h : H p = some (.lst xs)) (e : ∀ b o, b ≠ p → H b = some o → H' b = some o) : LamX.Tabs T H' := fun q hq => by
  obtain ⟨ps, h1, h2, h3⟩ := t q hq
  refine ⟨ps, e _ _ (fun z => by rw [z, h] at h1; cases h1) h1, h2, fun pos cv hc => ?_⟩
  obtain ⟨c, e1, e2⟩ := h3 pos cv hc
  exact ⟨c, e1, e _ _ (fun z => by rw [z, h] at e2; unfold LamX.CodeO at e2; cases e2) e2⟩
def OwnS (ε : List AV) (σ : L2.St) (a : Addr) : Prop := ∃ (i : Nat) (xs : List PyData), ε[i]? = some (.l xs) ∧ σ[i]? = some (some (.ref a))
def Mx (Γ : Ga) (ε : List AV) (T : Addr → Prop) (σ : L2.St) (a : Addr) : Prop := Γ.M a ∨ OwnS ε σ a ∨ T a
def Stb (N : Addr → Prop) (H : Hp) (P : V → Hp → Prop) (v : V) : Prop := ∀ H', (∀ b o, ¬ N b → H b = some o → H' b = some o) → P v H'
theorem Stb.go {N N' : Addr → Prop} {H H' : Hp} {P : V → Hp → Prop} {v : V} (e : Fit2 N N' H H') (h : Stb N H P v) : Stb N' H' P v := fun H2 k => h H2 fun b o n q => k b o (e.ok n q) (e.k b o n q)
def PailAt (H : Hp) (p : Addr) (n : Nat) : Prop := ∃ a b c : Int, 0 ≤ c ∧ c ≤ n ∧ H p = some (.lst [.int a, .int b, .int c])
theorem PailAt.keep {H H' : Hp} {p : Addr} {n : Nat} (h : PailAt H p n) (s : Same H H') : PailAt H' p n := by
  obtain ⟨a, b, c, h1, h2, h3⟩ := h
  exact ⟨a, b, c, h1, h2, s _ _ h3⟩
theorem PailAt.more {H : Hp} {p : Addr} {n m : Nat} (h : PailAt H p n) (z : n ≤ m) : PailAt H p m := by
  obtain ⟨a, b, c, h1, h2, h3⟩ := h
  exact ⟨a, b, c, h1, by omega, h3⟩
theorem PailAt.has {H : Hp} {p : Addr} {n : Nat} (h : PailAt H p n) : Has p H := by
  obtain ⟨a, b, c, _, _, e⟩ := h
  exact ⟨_, e⟩
theorem PailAt.lst {H : Hp} {p : Addr} {n : Nat} (h : PailAt H p n) : ∃ o, H p = some (.lst o) := by
  obtain ⟨a, b, c, _, _, e⟩ := h
  exact ⟨_, e⟩
theorem PailAt.put {H : Hp} {p l : Addr} {n : Nat} {o : HO} (h : PailAt H p n) (ne : l ≠ p) : PailAt (upd H l o) p n := by
  obtain ⟨a, b, c, h1, h2, h3⟩ := h
  exact ⟨a, b, c, h1, h2, by rw [upd_ne ne.symm]; exact h3⟩
def Slot (Γ : Ga) (N : Addr → Prop) (H : Hp) : AV → Option (Option V) → Prop
  | .u, _ => True
  | .d x, s => ∃ v, s = some (some v) ∧ Dn N H v x
  | .l xs, s => ∃ a vs, s = some (some (.ref a)) ∧ Γ.H0 a = none ∧ H a = some (.lst vs) ∧ vs.length ≤ 1000 ∧ DnA N H vs xs
  | .p n, s => s = some (some (.ref Γ.p)) ∧ PailAt H Γ.p n ∧ Γ.B = true
  | .o P, s => ∃ v, s = some (some v) ∧ Stb N H P v
  | .q n z, s => s = some (some (.ref Γ.p)) ∧ PailAt H Γ.p n ∧ Γ.B = true ∧ Γ.tb = z
  | .t z, _ => Γ.tb = z
structure Rep (Γ : Ga) (ε : List AV) (T : Addr → Prop) (σ : L2.St) (H : Hp) : Prop where
  ln : ε.length = σ.length
  pm : Γ.M Γ.p
  hp : ∃ o, H Γ.p = some (.lst o)
  hp0 : ∃ o, Γ.H0 Γ.p = some (.lst o)
  ext : ∀ b o, Fre Γ b → Γ.H0 b = some o → H b = some o
  ml : ∀ a, Γ.M a → a = Γ.p ∨ Ls Γ.H0 a
  tmp : ∀ a, T a → Γ.H0 a = none ∧ (∃ vs, H a = some (.lst vs)) ∧ ¬ OwnS ε σ a
  dis : ∀ (i j : Nat) (xs ys : List PyData), ε[i]? = some (.l xs) → ε[j]? = some (.l ys) → σ[i]? = σ[j]? → i = j
  sl : ∀ (i : Nat) (e : AV), ε[i]? = some e → Slot Γ (Mx Γ ε T σ) H e σ[i]?
  fr : Γ.F (Mx Γ ε T σ) H
  tz : LamX.Tabs Γ.tb H
/-- from one moment of an expression to a later one -/
structure Stp (Γ : Ga) (ε : List AV) (T : Addr → Prop) (ε' : List AV) (T' : Addr → Prop) (σ : L2.St) (H H' : Hp) : Prop where
  k : ∀ b o, Fre Γ b → H b = some o → H' b = some o
  hp : ∃ o, H' Γ.p = some (.lst o)
  tz : LamX.Tabs Γ.tb H'
  t : ∀ a, T a → T' a
  m : ∀ a, Mx Γ ε' T' σ a → Mx Γ ε T σ a ∨ H a = none
theorem Stp.fit {Γ : Ga} {ε ε' : List AV} {T T' : Addr → Prop} {σ : L2.St} {H H' : Hp} (s : Stp Γ ε T ε' T' σ H H') (hp : Γ.M Γ.p) : Fit2 (Mx Γ ε T σ) (Mx Γ ε' T' σ) H H' := ⟨s.m, fun b o n h => s.k b o ⟨fun _ e => n (e ▸ .inl hp), fun z => n (.inl (zp_M z))⟩ h⟩
theorem Stp.none {Γ : Ga} {ε ε' : List AV} {T T' : Addr → Prop} {σ : L2.St} {H H' : Hp} (s : Stp Γ ε T ε' T' σ H H') (hp : ∃ o, H Γ.p = some (.lst o)) {a : Addr} (h : H' a = none) : H a = none := by
  cases e : H a with
  | none => rfl
  | some o =>
    by_cases z : a = Γ.p
    · subst z
      obtain ⟨u, hu⟩ := s.hp
      rw [hu] at h
      cases h
    · by_cases zz : Zp Γ a
      · obtain ⟨ps, hps⟩ := zp_at s.tz zz
        rw [hps] at h
        cases h
      · rw [s.k a o ⟨fun _ => z, zz⟩ e] at h
        cases h
theorem Stp.trans {Γ : Ga} {ε ε1 ε2 : List AV} {T T1 T2 : Addr → Prop} {σ : L2.St} {H H1 H2 : Hp} (hp : ∃ o, H Γ.p = some (.lst o)) (a : Stp Γ ε T ε1 T1 σ H H1) (b : Stp Γ ε1 T1 ε2 T2 σ H1 H2) : Stp Γ ε T ε2 T2 σ H H2 :=
  ⟨fun x o n h => b.k x o n (a.k x o n h), b.hp, b.tz, fun x h => b.t x (a.t x h), fun x h => by
    rcases b.m x h with q | q
    · exact a.m x q
    · exact .inr (a.none hp q)⟩
theorem Stp.refl {Γ : Ga} {ε : List AV} {T : Addr → Prop} {σ : L2.St} {H : Hp} (R : Rep Γ ε T σ H) : Stp Γ ε T ε T σ H H := ⟨fun _ _ _ h => h, R.hp, R.tz, fun _ h => h, fun _ h => .inl h⟩
def Den (Γ : Ga) (ε : List AV) (T : Addr → Prop) (σ : L2.St) (H : Hp) (r : RV) (v : V) (H' : Hp) : Prop := match r with
  | .d x => Dn (Mx Γ ε T σ) H' v x
  | .f xs => ∃ a vs, v = .ref a ∧ H a = none ∧ T a ∧ H' a = some (.lst vs) ∧ vs.length ≤ 1000 ∧ DnA (Mx Γ ε T σ) H' vs xs
  | .b x => Dn (Mx Γ ε T σ) H' v x ∨ (∃ y : Str, v = .str y ∧ x = .str y ∧ y.length ≤ sizeLine) ∨ ∃ a vs xs, v = .ref a ∧ x = .list xs ∧ a ≠ Γ.p ∧ H' a = some (.lst vs) ∧ vs.length ≤ 1000 ∧ DnA (Mx Γ ε T σ) H' vs xs
  | .p => v = .ref Γ.p
  | .o P => Stb (Mx Γ ε T σ) H' P v
theorem tmp_p {Γ : Ga} {ε : List AV} {T : Addr → Prop} {σ : L2.St} {H : Hp} (R : Rep Γ ε T σ H) {a : Addr} (h : T a) : a ≠ Γ.p := fun e => by
  obtain ⟨h1, _⟩ := R.tmp a h
  obtain ⟨o, h2⟩ := R.hp0
  rw [e, h2] at h1
  cases h1
theorem Den.step {Γ : Ga} {ε ε' : List AV} {T T' : Addr → Prop} {σ : L2.St} {H H1 H2 : Hp} {r : RV} {v : V} (R : Rep Γ ε T σ H1) (d : Den Γ ε T σ H r v H1) (s : Stp Γ ε T ε' T' σ H1 H2) : Den Γ ε' T' σ H r v H2 := by
  have f := s.fit R.pm
  cases r with
  | d x => exact Dn.go f d
  | f xs =>
    obtain ⟨a, vs, e, h1, h2, h3, h4, h5⟩ := d
    exact ⟨a, vs, e, h1, s.t a h2, s.k _ _ ⟨fun _ => tmp_p R h2, zp_not R.tz h3 nofun⟩ h3, h4, h5.go f⟩
  | b x =>
    rcases d with d | d | ⟨a, vs, xs, e, h1, h2, h3, h4, h5⟩
    · exact .inl (d.go f)
    · exact .inr (.inl d)
    · exact .inr (.inr ⟨a, vs, xs, e, h1, h2, s.k _ _ ⟨fun _ => h2, zp_not R.tz h3 nofun⟩ h3, h4, h5.go f⟩)
  | p => exact d
  | o P => exact Stb.go f d
theorem Den.early {Γ : Ga} {ε : List AV} {T : Addr → Prop} {σ : L2.St} {H H1 H2 : Hp} {r : RV} {v : V} (d : Den Γ ε T σ H1 r v H2) (hn : ∀ a, H1 a = none → H a = none) : Den Γ ε T σ H r v H2 := by
  cases r with
  | f xs =>
    obtain ⟨a, vs, e, h1, h⟩ := d
    exact ⟨a, vs, e, hn a h1, h⟩
  | _ => exact d
theorem not_M {Γ : Ga} {ε : List AV} {T : Addr → Prop} {σ : L2.St} {H : Hp} (R : Rep Γ ε T σ H) {a : Addr} (h : Γ.H0 a = none) : ¬ Γ.M a := fun m => by
  rcases R.ml a m with rfl | e
  · obtain ⟨o, e⟩ := R.hp0
    rw [h] at e
    cases e
  · obtain ⟨o, e⟩ := e.ob
    rw [h] at e
    cases e
theorem Rep.fresh {Γ : Ga} {ε : List AV} {T : Addr → Prop} {σ : L2.St} {H : Hp} (R : Rep Γ ε T σ H) {a : Addr} (h : H a = none) : Γ.H0 a = none := by
  cases e : Γ.H0 a with
  | none => rfl
  | some o =>
    by_cases z : a = Γ.p
    · subst z
      obtain ⟨u, hu⟩ := R.hp
      rw [hu] at h
      cases h
    · by_cases zz : Zp Γ a
      · obtain ⟨ps, hps⟩ := zp_at R.tz zz
        rw [hps] at h
        cases h
      · rw [R.ext a o ⟨fun _ => z, zz⟩ e] at h
        cases h
theorem Rep.not_x {Γ : Ga} {ε : List AV} {T : Addr → Prop} {σ : L2.St} {H : Hp} (R : Rep Γ ε T σ H) {a : Addr} (h : H a = none) : ¬ Mx Γ ε T σ a := by
  rintro (m | ⟨i, xs, e, e2⟩ | t)
  · exact not_M R (R.fresh h) m
  · obtain ⟨b, vs, e3, _, h2, _⟩ := R.sl i _ e
    rw [e3] at e2
    cases e2
    rw [h] at h2
    cases h2
  · obtain ⟨_, ⟨vs, h2⟩, _⟩ := R.tmp a t
    rw [h] at h2
    cases h2
theorem Slot.go {Γ : Ga} {N N' : Addr → Prop} {H H' : Hp} {e : AV} {s : Option (Option V)} (f : Fit2 N N' H H') (hp : ∀ n, PailAt H Γ.p n → PailAt H' Γ.p n) (hl : ∀ xs a, e = .l xs → s = some (some (.ref a)) → ∀ o, H a = some o → H' a = some o) (h : Slot Γ N H e s) : Slot Γ N' H' e s := by
  cases e with
  | u => trivial
  | t z => exact h
  | d x =>
    obtain ⟨v, e, d⟩ := h
    exact ⟨v, e, d.go f⟩
  | l xs =>
    obtain ⟨a, vs, e, h0, h1, h2, h3⟩ := h
    exact ⟨a, vs, e, h0, hl _ a rfl e _ h1, h2, h3.go f⟩
  | p n =>
    obtain ⟨e, h1, h2⟩ := h
    exact ⟨e, hp n h1, h2⟩
  | q n z =>
    obtain ⟨e, h1, h2⟩ := h
    exact ⟨e, hp n h1, h2⟩
  | o P =>
    obtain ⟨v, e, d⟩ := h
    exact ⟨v, e, d.go f⟩
theorem Rep.same {Γ : Ga} {ε : List AV} {T : Addr → Prop} {σ : L2.St} {H H' : Hp} (R : Rep Γ ε T σ H) (s : Same H H') : Rep Γ ε T σ H' := by
  refine ⟨R.ln, R.pm, ?_, R.hp0, fun b o n h => s _ _ (R.ext b o n h), R.ml, fun a h => ?_, R.dis, fun i e h => (R.sl i e h).go (Fit2.same s) (fun n h => h.keep s) (fun _ _ _ _ _ h => s _ _ h), Γ.fst _ _ _ _ (Fit2.same s) R.fr, R.tz.ext s⟩
  · obtain ⟨o, h⟩ := R.hp
    exact ⟨o, s _ _ h⟩
  · obtain ⟨h1, ⟨vs, h2⟩, h3⟩ := R.tmp a h
    exact ⟨h1, ⟨vs, s _ _ h2⟩, h3⟩
theorem mx_less {Γ : Ga} {ε : List AV} {T T' : Addr → Prop} {σ : L2.St} (h : ∀ a, T' a → T a) {a : Addr} (z : Mx Γ ε T' σ a) : Mx Γ ε T σ a := by
  rcases z with z | z | z
  · exact .inl z
  · exact .inr (.inl z)
  · exact .inr (.inr (h a z))
theorem Rep.less {Γ : Ga} {ε : List AV} {T T' : Addr → Prop} {σ : L2.St} {H : Hp} (R : Rep Γ ε T σ H) (h : ∀ a, T' a → T a) : Rep Γ ε T' σ H :=
  ⟨R.ln, R.pm, R.hp, R.hp0, R.ext, R.ml, fun a q => R.tmp a (h a q), R.dis, fun i e q => (R.sl i e q).go (Fit2.less fun _ => mx_less h) (fun _ h => h) (fun _ _ _ _ _ h => h), Γ.fst _ _ _ _ (Fit2.less fun _ => mx_less h) R.fr, R.tz⟩
/-- a new list, kept for itself -/
theorem Rep.temp {Γ : Ga} {ε : List AV} {T : Addr → Prop} {σ : L2.St} {H : Hp} {t : Addr} {xs : List V} (R : Rep Γ ε T σ H) (h : H t = none) : Rep Γ ε (fun a => T a ∨ a = t) σ (upd H t (.lst xs)) := by
  have s := same_new (o := .lst xs) h
  have R' := R.same s
  have no : ¬ OwnS ε σ t := fun z => R.not_x h (.inr (.inl z))
  refine ⟨R'.ln, R'.pm, R'.hp, R'.hp0, R'.ext, R'.ml, fun a q => ?_, R'.dis, fun i e q => (R.sl i e q).go ⟨?f1, fun b o _ h => s _ _ h⟩ (fun n h => h.keep s) (fun _ _ _ _ _ h => s _ _ h), Γ.fst _ _ _ _ ⟨?f1, fun b o _ h => s _ _ h⟩ R.fr, R'.tz⟩
  case f1 =>
    intro a z
    rcases z with z | z | z | rfl
    · exact .inl (.inl z)
    · exact .inl (.inr (.inl z))
    · exact .inl (.inr (.inr z))
    · exact .inr h
  · rcases q with q | rfl
    · exact R'.tmp a q
    · exact ⟨R.fresh h, ⟨xs, upd_same⟩, no⟩
end Cs
set_option maxHeartbeats 4000000
/-! Expressions over data. -/
namespace Cs
open PySem L2 PyProof.Rows
structure XE where
  run : List AV → (RV → List AV → Prop) → Prop
  mono : ∀ {ε : List AV} {K K' : RV → List AV → Prop}, (∀ r e, K r e → K' r e) → run ε K → run ε K'
structure XA where
  run : List AV → (List RV → List AV → Prop) → Prop
  mono : ∀ {ε : List AV} {K K' : List RV → List AV → Prop}, (∀ r e, K r e → K' r e) → run ε K → run ε K'
structure XT where
  run : List AV → (Bool → List AV → Prop) → Prop
  mono : ∀ {ε : List AV} {K K' : Bool → List AV → Prop}, (∀ r e, K r e → K' r e) → run ε K → run ε K'
structure XO where
  run : List AV → (Option Int → List AV → Prop) → Prop
  mono : ∀ {ε : List AV} {K K' : Option Int → List AV → Prop}, (∀ r e, K r e → K' r e) → run ε K → run ε K'
inductive DenA (Γ : Ga) (ε : List AV) (T : Addr → Prop) (σ : L2.St) (H : Hp) : List RV → List V → Hp → Prop
  | nil {H'} : DenA Γ ε T σ H [] [] H'
  | cons {r : RV} {v : V} {rs : List RV} {vs : List V} {H'} (h : Den Γ ε T σ H r v H') (t : DenA Γ ε T σ H rs vs H') (n : ∀ xs a, r = .f xs → v = .ref a → ∀ (k : Nat) ys, rs[k]? = some (.f ys) → vs[k]? ≠ some (.ref a)) : DenA Γ ε T σ H (r :: rs) (v :: vs) H'
def up (t : XE) : TE := fun σ H Q => ∃ Γ ε T, Rep Γ ε T σ H ∧ t.run ε fun r ε' => ∀ v T' H', Rep Γ ε' T' σ H' → Stp Γ ε T ε' T' σ H H' → Den Γ ε' T' σ H r v H' → Q v H'
def upA (t : XA) : TA := fun σ H Q => ∃ Γ ε T, Rep Γ ε T σ H ∧ t.run ε fun rs ε' => ∀ vs T' H', Rep Γ ε' T' σ H' → Stp Γ ε T ε' T' σ H H' → DenA Γ ε' T' σ H rs vs H' → Q vs H'
def upT (t : XT) : TT := fun σ H Q => ∃ Γ ε T, Rep Γ ε T σ H ∧ t.run ε fun b ε' => ∀ T' H', Rep Γ ε' T' σ H' → Stp Γ ε T ε' T' σ H H' → Q b H'
def upO (t : XO) : TO := fun σ H Q => ∃ Γ ε T, Rep Γ ε T σ H ∧ t.run ε fun b ε' => ∀ T' H', Rep Γ ε' T' σ H' → Stp Γ ε T ε' T' σ H H' → Q b H'
section
variable {Γ : Ga} {ε ε2 : List AV} {T T2 : Addr → Prop} {σ : L2.St} {H H2 : Hp}
theorem up1 {t : XE} {G : RV → List AV → Prop} {R : VK} (R0 : Rep Γ ε T σ H) (h : t.run ε G) (k : ∀ r x ε1 T1 H1, G r ε1 → Rep Γ ε1 T1 σ H1 → Stp Γ ε T ε1 T1 σ H H1 → Den Γ ε1 T1 σ H r x H1 → R x H1) : up t σ H R :=
  ⟨Γ, ε, T, R0, t.mono (fun r e g v T' H' R' s d => k r v e T' H' g R' s d) h⟩
theorem upA1 {t : XA} {G : List RV → List AV → Prop} {R : List V → Hp → Prop} (R0 : Rep Γ ε T σ H) (h : t.run ε G) (k : ∀ r x ε1 T1 H1, G r ε1 → Rep Γ ε1 T1 σ H1 → Stp Γ ε T ε1 T1 σ H H1 → DenA Γ ε1 T1 σ H r x H1 → R x H1) : upA t σ H R :=
  ⟨Γ, ε, T, R0, t.mono (fun r e g v T' H' R' s d => k r v e T' H' g R' s d) h⟩
theorem upT1 {t : XT} {G : Bool → List AV → Prop} {R : Bool → Hp → Prop} (R0 : Rep Γ ε T σ H) (h : t.run ε G) (k : ∀ b ε1 T1 H1, G b ε1 → Rep Γ ε1 T1 σ H1 → Stp Γ ε T ε1 T1 σ H H1 → R b H1) : upT t σ H R :=
  ⟨Γ, ε, T, R0, t.mono (fun r e g T' H' R' s => k r e T' H' g R' s) h⟩
theorem upO1 {t : XO} {G : Option Int → List AV → Prop} {R : Option Int → Hp → Prop} (R0 : Rep Γ ε T σ H) (h : t.run ε G) (k : ∀ b ε1 T1 H1, G b ε1 → Rep Γ ε1 T1 σ H1 → Stp Γ ε T ε1 T1 σ H H1 → R b H1) : upO t σ H R :=
  ⟨Γ, ε, T, R0, t.mono (fun r e g T' H' R' s => k r e T' H' g R' s) h⟩
theorem DenA.step {ε' : List AV} {T' : Addr → Prop} {H1 : Hp} {rs : List RV} {vs : List V} (R : Rep Γ ε T σ H1) (d : DenA Γ ε T σ H rs vs H1) (s : Stp Γ ε T ε' T' σ H1 H2) : DenA Γ ε' T' σ H rs vs H2 := by
  induction rs generalizing vs with
  | nil => cases d; exact .nil
  | cons r rs ih =>
    cases d with
    | cons h t n => exact .cons (h.step R s) (ih t) n
theorem DenA.early {H1 : Hp} {rs : List RV} {vs : List V} (d : DenA Γ ε T σ H1 rs vs H2) (hn : ∀ a, H1 a = none → H a = none) : DenA Γ ε T σ H rs vs H2 := by
  induction rs generalizing vs with
  | nil => cases d; exact .nil
  | cons r rs ih =>
    cases d with
    | cons h t n => exact .cons (h.early hn) (ih t) n
theorem DenA.fr {rs : List RV} {vs : List V} (d : DenA Γ ε T σ H rs vs H2) : ∀ (k : Nat) (ys : List PyData) (a : Addr), rs[k]? = some (.f ys) → vs[k]? = some (.ref a) → H a = none := by
  induction rs generalizing vs with
  | nil => intro k ys a h; cases h
  | cons r rs ih =>
    intro k ys a h1 h2
    cases d with
    | cons h t n =>
      cases k with
      | zero =>
        cases h1
        cases h2
        obtain ⟨b, ws, e, h0, _⟩ := h
        cases e
        exact h0
      | succ k => exact ih t k ys a h1 h2
theorem up2 {ta tb : XE} {G : RV → RV → List AV → Prop} {R : V → V → Hp → Prop} (R0 : Rep Γ ε T σ H) (h : ta.run ε fun r ε1 => tb.run ε1 fun s ε2 => G r s ε2)
    (k : ∀ r s x y ε2 T2 H2, G r s ε2 → Rep Γ ε2 T2 σ H2 → Stp Γ ε T ε2 T2 σ H H2 → Den Γ ε2 T2 σ H r x H2 → Den Γ ε2 T2 σ H s y H2 → R x y H2) : up ta σ H fun x H1 => up tb σ H1 fun y H2 => R x y H2 :=
  up1 R0 h fun r x ε1 T1 H1 g R1 s1 d1 => up1 R1 g fun s y ε2 T2 H2 g2 R2 s2 d2 => k r s x y ε2 T2 H2 g2 R2 (s1.trans R0.hp s2) (d1.step R1 s2) (d2.early fun a => s1.none R0.hp)
/-- seen as data -/
def See (N : Addr → Prop) (H : Hp) (v : V) (d : PyData) : Prop := Dn N H v d ∨ (∃ y : Str, v = .str y ∧ d = .str y ∧ y.length ≤ sizeLine) ∨ ∃ a vs xs, v = .ref a ∧ d = .list xs ∧ H a = some (.lst vs) ∧ vs.length ≤ 1000 ∧ DnA N H vs xs
inductive SeeA (N : Addr → Prop) (H : Hp) : List V → List PyData → Prop
  | nil : SeeA N H [] []
  | cons {v : V} {vs : List V} {d : PyData} {ds : List PyData} (h : See N H v d) (t : SeeA N H vs ds) : SeeA N H (v :: vs) (d :: ds)
theorem Den.see {r : RV} {v : V} {d : PyData} (h : Den Γ ε T σ H r v H2) (e : r.see = some d) : See (Mx Γ ε T σ) H2 v d := by
  cases r with
  | d x => cases e; exact .inl h
  | f xs =>
    cases e
    obtain ⟨a, vs, e, _, _, h1, h2, h3⟩ := h
    exact .inr (.inr ⟨a, vs, xs, e, rfl, h1, h2, h3⟩)
  | b x =>
    cases e
    rcases h with h | h | ⟨a, vs, xs, e, h0, _, h1, h2, h3⟩
    · exact .inl h
    · exact .inr (.inl h)
    · exact .inr (.inr ⟨a, vs, xs, e, h0, h1, h2, h3⟩)
  | p => cases e
  | o P => cases e
/-- kept as data, with the temporary things of before -/
theorem Den.kept {r : RV} {v : V} {d : PyData} (R : Rep Γ ε T σ H) (R2 : Rep Γ ε2 T2 σ H2) (s : Stp Γ ε T ε2 T2 σ H H2) (h : Den Γ ε2 T2 σ H r v H2) (e : r.kp = some d) : Dn (Mx Γ ε2 T σ) H2 v d := by
  have f : Fit2 (Mx Γ ε2 T2 σ) (Mx Γ ε2 T σ) H2 H2 := Fit2.less fun _ => mx_less s.t
  cases r with
  | d x => cases e; exact Dn.go f h
  | f xs =>
    cases e
    obtain ⟨a, vs, rfl, h0, h1, h2, h3, h4⟩ := h
    refine .lst ?_ h2 h3 (h4.go f)
    rintro (m | o | t)
    · exact not_M R (R.fresh h0) m
    · exact (R2.tmp a h1).2.2 o
    · obtain ⟨_, ⟨ws, e⟩, _⟩ := R.tmp a t
      rw [h0] at e
      cases e
  | b x => cases e
  | p => cases e
  | o P => cases e
theorem Stp.drop (s : Stp Γ ε T ε2 T2 σ H H2) : Stp Γ ε T ε2 T σ H H2 := ⟨s.k, s.hp, s.tz, fun _ h => h, fun a h => s.m a (mx_less s.t h)⟩
theorem Stp.same {H3 : Hp} (s : Stp Γ ε T ε2 T2 σ H H2) (e : Same H2 H3) : Stp Γ ε T ε2 T2 σ H H3 := ⟨fun b o n h => e _ _ (s.k b o n h), by
  obtain ⟨o, h⟩ := s.hp
  exact ⟨o, e _ _ h⟩, s.tz.ext e, s.t, s.m⟩
/-- where a result goes -/
structure Outs (N : Addr → Prop) (H : Hp) (G : RV → Prop) (Q : VK) : Prop where
  old : ∀ v c, G (.d c) → Dn N H v c → Q v H
  lst : ∀ t xs cs, G (.f cs) → H t = none → xs.length ≤ 1000 → DnA N H xs cs → Q (.ref t) (upd H t (.lst xs))
  tup : ∀ t xs cs, G (.d (.tuple cs)) → H t = none → xs.length ≤ 1000 → DnA N H xs cs → Q (.ref t) (upd H t (.tup xs))
  txt : ∀ y : Str, G (.b (.str y)) → y.length ≤ sizeLine → Q (.str y) H
theorem outs {G : RV → Prop} {Q : VK} (R : Rep Γ ε T σ H) (R2 : Rep Γ ε2 T2 σ H2) (s : Stp Γ ε T ε2 T2 σ H H2)
    (q : ∀ r, G r → ∀ v T' H', Rep Γ ε2 T' σ H' → Stp Γ ε T ε2 T' σ H H' → Den Γ ε2 T' σ H r v H' → Q v H') : Outs (Mx Γ ε2 T2 σ) H2 G Q := by
  refine ⟨fun v c g d => q _ g v T2 H2 R2 s d, fun t xs cs g ht hl d => ?_, fun t xs cs g ht hl d => ?_, fun y g hl => q _ g _ T2 H2 R2 s (.inr (.inl ⟨y, rfl, rfl, hl⟩))⟩
  · have e := same_new (o := .lst xs) ht
    have f : Fit2 (Mx Γ ε2 T2 σ) (Mx Γ ε2 (fun a => T2 a ∨ a = t) σ) H2 (upd H2 t (.lst xs)) := ⟨fun a z => by
      rcases z with z | z | z | rfl
      · exact .inl (.inl z)
      · exact .inl (.inr (.inl z))
      · exact .inl (.inr (.inr z))
      · exact .inr ht, fun b o _ h => e _ _ h⟩
    refine q _ g _ _ _ (R2.temp ht) ⟨fun b o n h => e _ _ (s.k b o n h), (R2.same e).hp, (R2.same e).tz, fun a z => .inl (s.t a z), fun a z => ?_⟩ ⟨t, xs, rfl, s.none R.hp ht, .inr rfl, upd_same, hl, d.go f⟩
    rcases z with z | z | z | rfl
    · exact s.m a (.inl z)
    · exact s.m a (.inr (.inl z))
    · exact s.m a (.inr (.inr z))
    · exact .inr (s.none R.hp ht)
  · have e := same_new (o := .tup xs) ht
    exact q _ g _ _ _ (R2.same e) (s.same e) (.tup (R2.not_x ht) (.inl upd_same) hl (d.go (Fit2.same e)))
end
/-! ### leaves -/
def rdV (ε : List AV) (i : Nat) : Option (RV × List AV) := match ε[i]? with
  | some (.d x) => some (.d x, ε)
  | some (.l xs) => some (.d (.list xs), ε.set i (.d (.list xs)))
  | some (.p _) => some (.p, ε)
  | some (.q _ _) => some (.p, ε)
  | some (.o P) => some (.o P, ε)
  | _ => none
def rdB (ε : List AV) (i : Nat) : Option RV := match ε[i]? with
  | some (.d x) => some (.d x)
  | some (.l xs) => some (.b (.list xs))
  | some (.p _) => some .p
  | some (.q _ _) => some .p
  | some (.o P) => some (.o P)
  | _ => none
def xV (i : Nat) : XE := ⟨fun ε K => ∃ q, rdV ε i = some q ∧ K q.1 q.2, fun h ⟨q, e, k⟩ => ⟨q, e, h _ _ k⟩⟩
def xB (i : Nat) : XE := ⟨fun ε K => ∃ q, rdB ε i = some q ∧ K q ε, fun h ⟨q, e, k⟩ => ⟨q, e, h _ _ k⟩⟩
def xC (c : PyData) : XE := ⟨fun ε K => K (.d c) ε, fun h k => h _ _ k⟩
section
variable {Γ : Ga} {ε : List AV} {T : Addr → Prop} {σ : L2.St} {H : Hp} {X : Cx}
theorem slot_at {i : Nat} {e : AV} (R : Rep Γ ε T σ H) (h : ε[i]? = some e) : Slot Γ (Mx Γ ε T σ) H e σ[i]? := R.sl i e h
/-- a list of one's own given up -/
theorem Rep.give {i : Nat} {xs : List PyData} (R : Rep Γ ε T σ H) (h : ε[i]? = some (.l xs)) : ∃ a, σ[i]? = some (some (.ref a)) ∧ Rep Γ (ε.set i (.d (.list xs))) T σ H ∧ Dn (Mx Γ (ε.set i (.d (.list xs))) T σ) H (.ref a) (.list xs) ∧ ∀ b, Mx Γ (ε.set i (.d (.list xs))) T σ b → Mx Γ ε T σ b := by
  obtain ⟨a, vs, e, h0, h1, h2, h3⟩ := R.sl i _ h
  have hi : i < ε.length := (List.getElem?_eq_some_iff.mp h).1
  have own : ∀ {b}, OwnS (ε.set i (.d (.list xs))) σ b → OwnS ε σ b ∧ b ≠ a := by
    rintro b ⟨j, ys, e1, e2⟩
    by_cases z : i = j
    · subst z
      rw [List.getElem?_set_self hi] at e1
      cases e1
    · rw [List.getElem?_set_ne z] at e1
      refine ⟨⟨j, ys, e1, e2⟩, ?_⟩
      rintro rfl
      exact z (R.dis i j xs ys h e1 (by rw [e, e2]))
  have mx : ∀ b, Mx Γ (ε.set i (.d (.list xs))) T σ b → Mx Γ ε T σ b := by
    rintro b (z | z | z)
    · exact .inl z
    · exact .inr (.inl (own z).1)
    · exact .inr (.inr z)
  have f : Fit2 (Mx Γ ε T σ) (Mx Γ (ε.set i (.d (.list xs))) T σ) H H := Fit2.less mx
  have na : ¬ Mx Γ (ε.set i (.d (.list xs))) T σ a := by
    rintro (z | z | z)
    · exact not_M R h0 z
    · exact (own z).2 rfl
    · exact (R.tmp a z).2.2 ⟨i, xs, h, e⟩
  have dn : Dn (Mx Γ (ε.set i (.d (.list xs))) T σ) H (.ref a) (.list xs) := .lst na h1 h2 (h3.go f)
  refine ⟨a, e, ⟨by rw [List.length_set]; exact R.ln, R.pm, R.hp, R.hp0, R.ext, R.ml, fun b hb => ?_, fun j k ys zs hj hk q => ?_, fun j e' hj => ?_, Γ.fst _ _ _ _ f R.fr, R.tz⟩, dn, mx⟩
  · obtain ⟨t1, t2, t3⟩ := R.tmp b hb
    exact ⟨t1, t2, fun z => t3 (own z).1⟩
  · have nj : i ≠ j := by
      rintro rfl
      rw [List.getElem?_set_self hi] at hj
      cases hj
    have nk : i ≠ k := by
      rintro rfl
      rw [List.getElem?_set_self hi] at hk
      cases hk
    rw [List.getElem?_set_ne nj] at hj
    rw [List.getElem?_set_ne nk] at hk
    exact R.dis j k ys zs hj hk q
  · by_cases z : i = j
    · subst z
      rw [List.getElem?_set_self hi] at hj
      cases hj
      exact ⟨_, e, dn⟩
    · rw [List.getElem?_set_ne z] at hj
      exact (R.sl j e' hj).go f (fun _ h => h) (fun _ _ _ _ _ h => h)
theorem xe_v {e : Expr} {i : Nat} (h : PE X e (tVar i)) : PE X e (up (xV i)) := pe_wk h fun σ H Q ⟨Γ, ε, T, R, ⟨r, ε'⟩, e, k⟩ => by
  unfold rdV at e
  split at e
  · rename_i x hx
    cases e
    obtain ⟨v, hv, d⟩ := slot_at R hx
    exact ⟨v, hv, k v T H R (.refl R) d⟩
  · rename_i xs hx
    cases e
    obtain ⟨a, ha, R', d, mx⟩ := R.give hx
    exact ⟨_, ha, k _ T H R' ⟨fun _ _ _ h => h, R.hp, R.tz, fun _ h => h, fun b z => .inl (mx b z)⟩ d⟩
  · rename_i n hx
    cases e
    obtain ⟨hv, d⟩ := slot_at R hx
    exact ⟨_, hv, k _ T H R (.refl R) rfl⟩
  · rename_i n z hx
    cases e
    obtain ⟨hv, d⟩ := slot_at R hx
    exact ⟨_, hv, k _ T H R (.refl R) rfl⟩
  · rename_i P hx
    cases e
    obtain ⟨v, hv, d⟩ := slot_at R hx
    exact ⟨v, hv, k v T H R (.refl R) d⟩
  · cases e
theorem xe_b {e : Expr} {i : Nat} (h : PE X e (tVar i)) : PE X e (up (xB i)) := pe_wk h fun σ H Q ⟨Γ, ε, T, R, r, e, k⟩ => by
  unfold rdB at e
  split at e
  · rename_i x hx
    cases e
    obtain ⟨v, hv, d⟩ := slot_at R hx
    exact ⟨v, hv, k v T H R (.refl R) d⟩
  · rename_i xs hx
    cases e
    obtain ⟨a, vs, hv, h0, h1, h2, h3⟩ := slot_at R hx
    refine ⟨_, hv, k _ T H R (.refl R) (.inr (.inr ⟨a, vs, xs, rfl, rfl, fun e => ?_, h1, h2, h3⟩))⟩
    obtain ⟨o, e2⟩ := R.hp0
    rw [← e, h0] at e2
    cases e2
  · rename_i n hx
    cases e
    obtain ⟨hv, d⟩ := slot_at R hx
    exact ⟨_, hv, k _ T H R (.refl R) rfl⟩
  · rename_i n z hx
    cases e
    obtain ⟨hv, d⟩ := slot_at R hx
    exact ⟨_, hv, k _ T H R (.refl R) rfl⟩
  · rename_i P hx
    cases e
    obtain ⟨v, hv, d⟩ := slot_at R hx
    exact ⟨v, hv, k v T H R (.refl R) d⟩
  · cases e
theorem xe_c {e : Expr} {v : V} {c : PyData} (h : PE X e (tC v)) (r : ∀ N H, Dn N H v c) : PE X e (up (xC c)) := pe_wk h fun σ H Q ⟨Γ, ε, T, R, k⟩ => k v T H R (.refl R) (r _ _)
end
/-! ### arguments, displays -/
def xNil : XA := ⟨fun ε K => K [] ε, fun h k => h _ _ k⟩
def xCons (a : XE) (b : XA) : XA := ⟨fun ε K => a.run ε fun r ε1 => b.run ε1 fun rs ε2 => K (r :: rs) ε2, fun h q => a.mono (fun _ _ q => b.mono (fun _ _ k => h _ _ k) q) q⟩
def kps : List RV → Option (List PyData)
  | [] => some []
  | r :: rs => match r.kp, kps rs with
    | some x, some xs => some (x :: xs)
    | _, _ => none
def sees : List RV → Option (List PyData)
  | [] => some []
  | r :: rs => match r.see, sees rs with
    | some x, some xs => some (x :: xs)
    | _, _ => none
def xTup (a : XA) : XE := ⟨fun ε K => a.run ε fun rs ε' => ∃ ds, kps rs = some ds ∧ ds.length ≤ 1000 ∧ K (.d (.tuple ds)) ε', fun h q => a.mono (fun _ _ ⟨ds, e, l, k⟩ => ⟨ds, e, l, h _ _ k⟩) q⟩
def xLst (a : XA) : XE := ⟨fun ε K => a.run ε fun rs ε' => ∃ ds, kps rs = some ds ∧ ds.length ≤ 1000 ∧ K (.f ds) ε', fun h q => a.mono (fun _ _ ⟨ds, e, l, k⟩ => ⟨ds, e, l, h _ _ k⟩) q⟩
section
variable {Γ : Ga} {ε ε2 : List AV} {T T2 : Addr → Prop} {σ : L2.St} {H H2 : Hp} {X : Cx}
theorem DenA.kept {rs : List RV} {vs : List V} {ds : List PyData} (R : Rep Γ ε T σ H) (R2 : Rep Γ ε2 T2 σ H2) (s : Stp Γ ε T ε2 T2 σ H H2) (h : DenA Γ ε2 T2 σ H rs vs H2) (e : kps rs = some ds) : DnA (Mx Γ ε2 T σ) H2 vs ds := by
  induction rs generalizing vs ds with
  | nil =>
    cases h
    cases e
    exact .nil
  | cons r rs ih =>
    cases h with
    | cons h t =>
      unfold kps at e
      split at e
      · rename_i x xs e1 e2
        cases e
        exact .cons (h.kept R R2 s e1) (ih t e2)
      · cases e
theorem DenA.see {rs : List RV} {vs : List V} {ds : List PyData} (h : DenA Γ ε T σ H rs vs H2) (e : sees rs = some ds) : SeeA (Mx Γ ε T σ) H2 vs ds := by
  induction rs generalizing vs ds with
  | nil =>
    cases h
    cases e
    exact .nil
  | cons r rs ih =>
    cases h with
    | cons h t =>
      unfold sees at e
      split at e
      · rename_i x xs e1 e2
        cases e
        exact .cons (h.see e1) (ih t e2)
      · cases e
theorem xa_nil : PA X [] (upA xNil) := pa_wk pa_nil fun σ H Q ⟨Γ, ε, T, R, k⟩ => k [] T H R (.refl R) .nil
theorem xa_cons {e : Expr} {es : List Expr} {a : XE} {b : XA} (ha : PE X e (up a)) (hb : PA X es (upA b)) (hs : starEach (e :: es) X.env = (false, eval e X.env) :: starEach es X.env := by rfl) : PA X (e :: es) (upA (xCons a b)) :=
  pa_wk (pa_cons ha hb hs) fun σ H Q ⟨Γ, ε, T, R, k⟩ => up1 R k fun r x ε1 T1 H1 g R1 s1 d1 => upA1 R1 g fun rs xs ε2 T2 H2 g2 R2 s2 d2 => g2 _ T2 H2 R2 (s1.trans R.hp s2) (.cons (d1.step R1 s2) (d2.early fun a => s1.none R.hp) fun ys a er ev k zs h1 h2 => by
    have h0 := d2.fr k zs a h1 h2
    subst er
    obtain ⟨b, ws, e, _, _, h3, _⟩ := d1
    rw [ev] at e
    cases e
    rw [h0] at h3
    cases h3)
theorem xe_tup {es : List Expr} {k : Nat} {pos : Pos} {a : XA} (ha : PA X es (upA a)) : PE X (.Tuple es k pos) (up (xTup a)) :=
  pe_wk (pe_tup ha) fun σ H Q ⟨Γ, ε, T, R, h⟩ => upA1 R h fun rs xs ε2 T2 H2 ⟨ds, e, hl, g⟩ R2 s2 d2 => by
    have d := d2.kept R R2 s2 e
    have z : xs.length ≤ 1000 := by rw [d.length]; exact hl
    exact ⟨sz1000 z, fun t ht => (outs (G := fun r => r = .d (.tuple ds)) R (R2.less s2.t) s2.drop fun r er v T' H' R' s' d' => by subst er; exact g v T' H' R' s' d').tup t xs ds rfl ht z d⟩
theorem xe_lst {es : List Expr} {k : Pos} {a : XA} (ha : PA X es (upA a)) : PE X (.List es k) (up (xLst a)) :=
  pe_wk (pe_lst ha) fun σ H Q ⟨Γ, ε, T, R, h⟩ => upA1 R h fun rs xs ε2 T2 H2 ⟨ds, e, hl, g⟩ R2 s2 d2 => by
    have d := d2.kept R R2 s2 e
    have z : xs.length ≤ 1000 := by rw [d.length]; exact hl
    exact ⟨sz1000 z, fun t ht => (outs (G := fun r => r = .f ds) R (R2.less s2.t) s2.drop fun r er v T' H' R' s' d' => by subst er; exact g v T' H' R' s' d').lst t xs ds rfl ht z d⟩
end
/-! ### operators -/
abbrev F2 := PyData → PyData → Option (Prop × RV)
def xOp (f : F2) (a b : XE) : XE := ⟨fun ε K => a.run ε fun r ε1 => b.run ε1 fun s ε2 => ∃ d e c, r.see = some d ∧ s.see = some e ∧ f d e = some c ∧ c.1 ∧ K c.2 ε2,
  fun h q => a.mono (fun _ _ q => b.mono (fun _ _ ⟨d, e, c, a1, a2, a3, a4, k⟩ => ⟨d, e, c, a1, a2, a3, a4, h _ _ k⟩) q) q⟩
def OpL (r : R2) (f : F2) : Prop := ∀ {N : Addr → Prop} {H : Hp} {x y : V} {d e : PyData} {c : Prop × RV} {Q : VK}, See N H x d → See N H y e → f d e = some c → c.1 → Outs N H (fun r => r = c.2) Q → r x y H Q
theorem x_op {X : Cx} {g : R2} {f : F2} {ta tb : XE} {E : Expr} (h : PE X E (tOp g (up ta) (up tb))) (hl : OpL g f) : PE X E (up (xOp f ta tb)) :=
  pe_wk h fun σ H Q ⟨Γ, ε, T, R, k⟩ => up2 R k fun r s x y ε2 T2 H2 ⟨d, e, c, e1, e2, e3, e4, g⟩ R2 s2 d1 d2 =>
    hl (d1.see e1) (d2.see e2) e3 e4 (outs R R2 s2 fun r er v T' H' R' s' d' => by subst er; exact g v T' H' R' s' d')
end Cs
set_option maxHeartbeats 4000000
/-! Operators, subscripts, built-ins over data. -/
namespace Cs
open PySem L2 PyProof.Rows
section
variable {N : Addr → Prop} {H : Hp} {v : V} {d : PyData}
theorem See.int {i : Int} (h : See N H v (.int i)) : v = .int i := by
  rcases h with h | ⟨y, _, e, _⟩ | ⟨_, _, _, _, e, _⟩
  · cases h; rfl
  · cases e
  · cases e
theorem See.bl {b : Bool} (h : See N H v (.bool b)) : v = .bl b := by
  rcases h with h | ⟨y, _, e, _⟩ | ⟨_, _, _, _, e, _⟩
  · cases h; rfl
  · cases e
  · cases e
theorem See.str {x : Str} (h : See N H v (.str x)) : v = .str x ∧ x.length ≤ sizeLine := by
  rcases h with h | ⟨y, e1, e, hl⟩ | ⟨_, _, _, _, e, _⟩
  · cases h with
    | str _ h => exact ⟨rfl, sz1000 h⟩
  · cases e
    exact ⟨e1, hl⟩
  · cases e
theorem See.list {ds : List PyData} (h : See N H v (.list ds)) : ∃ a vs, v = .ref a ∧ H a = some (.lst vs) ∧ vs.length ≤ 1000 ∧ DnA N H vs ds := by
  rcases h with h | ⟨y, _, e, _⟩ | ⟨a, vs, xs, e, e2, h1, h2, h3⟩
  · cases h with
    | @lst a xs _ n h z r => exact ⟨a, xs, rfl, h, z, r⟩
  · cases e
  · cases e2
    exact ⟨a, vs, e, h1, h2, h3⟩
theorem See.tup {ds : List PyData} (h : See N H v (.tuple ds)) : ∃ a vs, v = .ref a ∧ Rd H a (.tup vs) ∧ vs.length ≤ 1000 ∧ DnA N H vs ds ∧ Dn N H v (.tuple ds) := by
  rcases h with h | ⟨y, _, e, _⟩ | ⟨_, _, _, _, e, _⟩
  · have h' := h
    cases h with
    | @tup a xs _ n h z r => exact ⟨a, xs, rfl, h, z, r, h'⟩
  · cases e
  · cases e
theorem See.dp {K : PySem.W.Frag} (h : See N H v d) (e : d.canLay0 = true) : Dp K H v d := by
  rcases h with h | ⟨y, rfl, rfl, _⟩ | ⟨a, vs, xs, rfl, rfl, h1, h2, h3⟩
  · exact h.dp e
  · exact .str y
  · exact .lst (SqL.of h1) (h3.dp e)
end
/-! two places -/
def fAdd : F2
  | .int i, .int j => some (True, .d (.int (i + j)))
  | .str a, .str b => some (a.length + b.length ≤ 1000, .d (.str (a ++ b)))
  | .list xs, .list ys => some (xs.length + ys.length ≤ 1000, .f (xs ++ ys))
  | .tuple xs, .tuple ys => some (xs.length + ys.length ≤ 1000, .d (.tuple (xs ++ ys)))
  | _, _ => none
def gAdd (K : PySem.W.Frag) : R2 := fun x y H Q => rI0 (fun i j => .int (i + j)) x y H Q ∨ (∃ i j, x = .str i ∧ y = .str j ∧ i.length + j.length ≤ sizeLine ∧ Q (.str (i ++ j)) H) ∨ rCat x y H Q ∨ rCatA K x y H Q
def opAddD {X : Cx} : OpR X (binaryOp .Add) (gAdd X.K) := (op_add (X := X)).or ((op_add_str (X := X)).or ((op_cat (X := X)).or (op_catA (X := X))))
theorem ol_add {K : PySem.W.Frag} : OpL (gAdd K) fAdd := by
  intro N H x y d e c Q hx hy e1 e2 o
  unfold fAdd at e1
  split at e1
  · cases e1
    exact .inl ⟨_, _, hx.int, hy.int, o.old _ _ rfl (.int _)⟩
  · rename_i a b
    cases e1
    exact .inr (.inl ⟨_, _, hx.str.1, hy.str.1, sz1000 e2, o.old _ _ rfl (.str _ (by rw [Str.length_append]; exact e2))⟩)
  · cases e1
    obtain ⟨a, vs, rfl, h1, h2, h3⟩ := hx.list
    obtain ⟨b, ws, rfl, k1, k2, k3⟩ := hy.list
    have l1 := h3.length
    have l2 := k3.length
    have e2' : _ + _ ≤ 1000 := e2
    exact .inr (.inr (.inl ⟨a, b, vs, ws, rfl, rfl, h1, k1, sz1000 (by omega), fun p hp => o.lst p _ _ rfl hp (by rw [List.length_append]; omega) (h3.append k3)⟩))
  · rename_i xs ys
    cases e1
    obtain ⟨a, vs, rfl, h1, h2, h3, h4⟩ := hx.tup
    obtain ⟨b, ws, rfl, k1, k2, k3, k4⟩ := hy.tup
    have l1 := h3.length
    have l2 := k3.length
    have e2' : xs.length + ys.length ≤ 1000 := e2
    refine .inr (.inr (.inr ⟨a, b, vs, ws, rfl, rfl, SqT.rd h1, SqT.rd k1, sz1000 (by omega), fun z => ?_, fun _ z => ?_, fun _ _ p hp => o.tup p _ _ rfl hp (by rw [List.length_append]; omega) (h3.append k3)⟩))
    · subst z
      cases h3
      exact o.old _ _ rfl k4
    · subst z
      cases k3
      rw [List.append_nil] at o
      exact o.old _ _ rfl h4
  · cases e1
def fSub : F2
  | .int i, .int j => some (True, .d (.int (i - j)))
  | _, _ => none
theorem ol_sub : OpL (rI0 fun i j => .int (i - j)) fSub := by
  intro N H x y d e c Q hx hy e1 e2 o
  unfold fSub at e1
  split at e1
  · cases e1
    exact ⟨_, _, hx.int, hy.int, o.old _ _ rfl (.int _)⟩
  · cases e1
def fMul : F2
  | .int i, .int j => some (CMul i j, .d (.int (i * j)))
  | .list xs, .int k => some (0 ≤ k ∧ k ≤ 1000 ∧ xs.length * k.toNat ≤ 1000, .f (List.replicate k.toNat xs).flatten)
  | _, _ => none
theorem flat_len {α : Type} (xs : List α) : ∀ n : Nat, (List.replicate n xs).flatten.length = xs.length * n
  | 0 => rfl
  | n + 1 => by rw [List.replicate_succ, List.flatten_cons, List.length_append, flat_len xs n, Nat.mul_succ, Nat.add_comm]
theorem ol_mul : OpL (fun x y H Q => rI CMul (fun i j => .int (i * j)) x y H Q ∨ rRep x y H Q) fMul := by
  intro N H x y d e c Q hx hy e1 e2 o
  unfold fMul at e1
  split at e1
  · cases e1
    exact .inl ⟨_, _, hx.int, hy.int, e2, o.old _ _ rfl (.int _)⟩
  · cases e1
    obtain ⟨a, vs, rfl, h1, h2, h3⟩ := hx.list
    obtain ⟨e3, e4, e5⟩ := e2
    have l1 := h3.length
    exact .inr ⟨a, _, vs, rfl, hy.int, h1, by omega, by omega, sz1000 (by rw [l1]; exact e5), fun p hp => o.lst p _ _ rfl hp (by rw [flat_len, l1]; exact e5) (h3.rep _)⟩
  · cases e1
def fDiv : F2
  | .int i, .int j => some (CDiv i j, .d (.int (i / j)))
  | _, _ => none
theorem ol_div : OpL (rI CDiv fun i j => .int (i / j)) fDiv := by
  intro N H x y d e c Q hx hy e1 e2 o
  unfold fDiv at e1
  split at e1
  · cases e1
    exact ⟨_, _, hx.int, hy.int, e2, o.old _ _ rfl (.int _)⟩
  · cases e1
def fMod : F2
  | .int i, .int j => some (0 < j, .d (.int (i % j)))
  | _, _ => none
theorem ol_mod : OpL (rI (fun _ j => 0 < j) fun i j => .int (i % j)) fMod := by
  intro N H x y d e c Q hx hy e1 e2 o
  unfold fMod at e1
  split at e1
  · cases e1
    exact ⟨_, _, hx.int, hy.int, e2, o.old _ _ rfl (.int _)⟩
  · cases e1
def fPow : F2
  | .int i, .int j => some (CPow i j, .d (.int (i ^ j.toNat)))
  | _, _ => none
theorem ol_pow : OpL (rI CPow fun i j => .int (i ^ j.toNat)) fPow := by
  intro N H x y d e c Q hx hy e1 e2 o
  unfold fPow at e1
  split at e1
  · cases e1
    exact ⟨_, _, hx.int, hy.int, e2, o.old _ _ rfl (.int _)⟩
  · cases e1
def fLt : F2
  | .int i, .int j => some (True, .d (.bool (decide (i < j))))
  | .str i, .str j => some (True, .d (.bool (decide (i.cps.toList < j.cps.toList))))
  | _, _ => none
theorem ol_lt : OpL (fun x y H Q => rI0 (fun i j => .bl (decide (i < j))) x y H Q ∨ ∃ i j, x = .str i ∧ y = .str j ∧ Q (.bl (decide (i.cps.toList < j.cps.toList))) H) fLt := by
  intro N H x y d e c Q hx hy e1 e2 o
  unfold fLt at e1
  split at e1
  · cases e1
    exact .inl ⟨_, _, hx.int, hy.int, o.old _ _ rfl (.bl _)⟩
  · cases e1
    exact .inr ⟨_, _, hx.str.1, hy.str.1, o.old _ _ rfl (.bl _)⟩
  · cases e1
def fLe : F2
  | .int i, .int j => some (True, .d (.bool (decide (i ≤ j))))
  | .str i, .str j => some (True, .d (.bool (!decide (j.cps.toList < i.cps.toList))))
  | _, _ => none
theorem ol_le : OpL (fun x y H Q => rI0 (fun i j => .bl (decide (i ≤ j))) x y H Q ∨ ∃ i j, x = .str i ∧ y = .str j ∧ Q (.bl (!decide (j.cps.toList < i.cps.toList))) H) fLe := by
  intro N H x y d e c Q hx hy e1 e2 o
  unfold fLe at e1
  split at e1
  · cases e1
    exact .inl ⟨_, _, hx.int, hy.int, o.old _ _ rfl (.bl _)⟩
  · cases e1
    exact .inr ⟨_, _, hx.str.1, hy.str.1, o.old _ _ rfl (.bl _)⟩
  · cases e1
def fGt : F2
  | .int i, .int j => some (True, .d (.bool (decide (j < i))))
  | _, _ => none
theorem ol_gt : OpL (rI0 fun i j => .bl (decide (j < i))) fGt := by
  intro N H x y d e c Q hx hy e1 e2 o
  unfold fGt at e1
  split at e1
  · cases e1
    exact ⟨_, _, hx.int, hy.int, o.old _ _ rfl (.bl _)⟩
  · cases e1
def fGe : F2
  | .int i, .int j => some (True, .d (.bool (decide (j ≤ i))))
  | _, _ => none
theorem ol_ge : OpL (rI0 fun i j => .bl (decide (j ≤ i))) fGe := by
  intro N H x y d e c Q hx hy e1 e2 o
  unfold fGe at e1
  split at e1
  · cases e1
    exact ⟨_, _, hx.int, hy.int, o.old _ _ rfl (.bl _)⟩
  · cases e1
theorem scal_int {i j : Int} : decide (V.int i = V.int j) = decide (i = j) := decide_eq_decide.mpr ⟨fun h => by injection h, fun h => by rw [h]⟩
theorem scal_str {i j : Str} : decide (V.str i = V.str j) = decide (i = j) := decide_eq_decide.mpr ⟨fun h => by injection h, fun h => by rw [h]⟩
def fEq : F2
  | .int i, .int j => some (True, .d (.bool (decide (i = j))))
  | .str i, .str j => some (True, .d (.bool (decide (i = j))))
  | d, e => some (SeqAt.shaped d = true ∧ SeqAt.shaped e = true, .d (.bool (PyData.eqv d e)))
theorem ol_eq {K : PySem.W.Frag} : OpL (fun x y H Q => rEq x y H Q ∨ rEqD K x y H Q) fEq := by
  intro N H x y d e c Q hx hy e1 e2 o
  unfold fEq at e1
  split at e1
  · cases e1
    have := o.old _ _ rfl (.bl _)
    rw [← scal_int] at this
    rw [hx.int, hy.int]
    exact .inl ⟨rfl, this⟩
  · cases e1
    have := o.old _ _ rfl (.bl _)
    rw [← scal_str] at this
    rw [hx.str.1, hy.str.1]
    exact .inl ⟨rfl, this⟩
  · cases e1
    obtain ⟨s1, s2⟩ := e2
    exact .inr ⟨_, _, hx.dp (Bool.and_eq_true_iff.mp s1).1, hy.dp (Bool.and_eq_true_iff.mp s2).1, s1, s2, o.old _ _ rfl (.bl _)⟩
def fNe : F2
  | .int i, .int j => some (True, .d (.bool (!decide (i = j))))
  | .str i, .str j => some (True, .d (.bool (!decide (i = j))))
  | d, e => some (SeqAt.shaped d = true ∧ SeqAt.shaped e = true, .d (.bool (!PyData.eqv d e)))
theorem ol_ne {K : PySem.W.Frag} : OpL (fun x y H Q => rNe x y H Q ∨ rNeD K x y H Q) fNe := by
  intro N H x y d e c Q hx hy e1 e2 o
  unfold fNe at e1
  split at e1
  · cases e1
    have := o.old _ _ rfl (.bl _)
    rw [← scal_int] at this
    rw [hx.int, hy.int]
    exact .inl ⟨rfl, this⟩
  · cases e1
    have := o.old _ _ rfl (.bl _)
    rw [← scal_str] at this
    rw [hx.str.1, hy.str.1]
    exact .inl ⟨rfl, this⟩
  · cases e1
    obtain ⟨s1, s2⟩ := e2
    exact .inr ⟨_, _, hx.dp (Bool.and_eq_true_iff.mp s1).1, hy.dp (Bool.and_eq_true_iff.mp s2).1, s1, s2, o.old _ _ rfl (.bl _)⟩
def flatD : PyData → Bool
  | .none | .bool _ | .int _ | .str _ => true
  | _ => false
theorem dn_flat {N : Addr → Prop} {H : Hp} {v : V} {d : PyData} (h : Dn N H v d) (f : flatD d = true) : flatV v = true := by
  cases h <;> first | rfl | cases f
theorem dn_flats {N : Addr → Prop} {H : Hp} : ∀ {vs : List V} {ds : List PyData}, DnA N H vs ds → ds.all flatD = true → vs.all flatV = true
  | _, _, .nil, _ => rfl
  | _, _, .cons h t, f => by
    rw [List.all_cons, Bool.and_eq_true] at f
    rw [List.all_cons, dn_flat h f.1, dn_flats t f.2]
    rfl
theorem dn_eqv {N : Addr → Prop} {H : Hp} {v w : V} {d e : PyData} (h : Dn N H v d) (k : Dn N H w e) (f : flatD d = true) (g : flatD e = true) : eqV v w = d.eqv e := by
  cases h <;> first | (cases k <;> first | rfl | cases g) | cases f
theorem dn_in {N : Addr → Prop} {H : Hp} {w : V} {e : PyData} (k : Dn N H w e) (g : flatD e = true) : ∀ {vs : List V} {ds : List PyData}, DnA N H vs ds → ds.all flatD = true → inV w vs = ds.any fun y => y.eqv e
  | _, _, .nil, _ => rfl
  | _, _, .cons h t, f => by
    rw [List.all_cons, Bool.and_eq_true] at f
    unfold inV
    rw [List.any_cons, List.any_cons, dn_eqv h k f.1 g]
    have := dn_in k g t f.2
    unfold inV at this
    rw [this]
theorem See.flat {N : Addr → Prop} {H : Hp} {v : V} {d : PyData} (h : See N H v d) (f : flatD d = true) (hs : ∀ y, d = .str y → y.length ≤ 1000) : Dn N H v d := by
  rcases h with h | ⟨y, rfl, rfl, _⟩ | ⟨_, _, _, _, rfl, _⟩
  · exact h
  · exact .str y (hs y rfl)
  · cases f
def fIn (neg : Bool) : F2
  | d, .list ds => some (flatD d = true ∧ (∀ y, d = .str y → y.length ≤ 1000) ∧ ds.all flatD = true, .d (.bool (if neg then !(ds.any fun y => y.eqv d) else ds.any fun y => y.eqv d)))
  | d, .tuple ds => some (flatD d = true ∧ (∀ y, d = .str y → y.length ≤ 1000) ∧ ds.all flatD = true, .d (.bool (if neg then !(ds.any fun y => y.eqv d) else ds.any fun y => y.eqv d)))
  | _, _ => none
theorem ol_in {K : PySem.W.Frag} {neg : Bool} : OpL (rIn K neg) (fIn neg) := by
  intro N H x y d e c Q hx hy e1 e2 o
  unfold fIn at e1
  split at e1
  · cases e1
    obtain ⟨f1, f2, f3⟩ := e2
    obtain ⟨a, vs, rfl, h1, h2, h3⟩ := hy.list
    have k := hx.flat f1 f2
    have := o.old _ _ rfl (.bl _)
    rw [← dn_in k f1 h3 f3] at this
    exact ⟨a, vs, rfl, .inl (SqL.of h1), dn_flat k f1, dn_flats h3 f3, this⟩
  · cases e1
    obtain ⟨f1, f2, f3⟩ := e2
    obtain ⟨a, vs, rfl, h1, h2, h3, _⟩ := hy.tup
    have k := hx.flat f1 f2
    have := o.old _ _ rfl (.bl _)
    rw [← dn_in k f1 h3 f3] at this
    exact ⟨a, vs, rfl, .inr (SqT.rd h1), dn_flat k f1, dn_flats h3 f3, this⟩
  · cases e1
theorem DnA.atI {N : Addr → Prop} {H : Hp} {vs : List V} {ds : List PyData} {i : Int} {c : PyData} (h : DnA N H vs ds) (e : L2.atI ds i = some c) : ∃ v, L2.atI vs i = some v ∧ Dn N H v c := by
  unfold L2.atI at e ⊢
  rw [h.length]
  cases q : ixN ds.length i with
  | none => rw [q] at e; cases e
  | some j =>
    rw [q] at e
    exact h.at_ e
def fIx : F2
  | .list ds, .int i => (L2.atI ds i).map fun c => (True, .d c)
  | .tuple ds, .int i => (L2.atI ds i).map fun c => (True, .d c)
  | .str z, .int i => (L2.atI z.cps.toList i).map fun c => (True, .d (.str ⟨#[c]⟩))
  | _, _ => none
theorem ol_ix {K : PySem.W.Frag} : OpL (rIx K) fIx := by
  intro N H x y d e c Q hx hy e1 e2 o
  unfold fIx at e1
  split at e1
  · obtain ⟨c', e3, rfl⟩ := Option.map_eq_some_iff.mp e1
    obtain ⟨a, vs, rfl, h1, h2, h3⟩ := hx.list
    obtain ⟨v, hv, dv⟩ := h3.atI e3
    exact .inl ⟨a, vs, _, v, rfl, hy.int, SqL.of h1, hv, o.old _ _ rfl dv⟩
  · obtain ⟨c', e3, rfl⟩ := Option.map_eq_some_iff.mp e1
    obtain ⟨a, vs, rfl, h1, h2, h3, _⟩ := hx.tup
    obtain ⟨v, hv, dv⟩ := h3.atI e3
    exact .inr (.inl ⟨a, vs, _, v, rfl, hy.int, SqT.rd h1, hv, o.old _ _ rfl dv⟩)
  · obtain ⟨c', e3, rfl⟩ := Option.map_eq_some_iff.mp e1
    exact .inr (.inr ⟨_, _, c', hx.str.1, hy.int, hx.str.2, e3, o.old _ _ rfl (.str _ (show 1 ≤ 1000 by decide))⟩)
  · cases e1
/-! one place -/
abbrev F1 := PyData → Option (Prop × RV)
def xUn (f : F1) (a : XE) : XE := ⟨fun ε K => a.run ε fun r ε1 => ∃ d c, r.see = some d ∧ f d = some c ∧ c.1 ∧ K c.2 ε1, fun h q => a.mono (fun _ _ ⟨d, c, a1, a2, a3, k⟩ => ⟨d, c, a1, a2, a3, h _ _ k⟩) q⟩
def fNeg : F1
  | .int i => some (True, .d (.int (-i)))
  | _ => none
theorem xe_neg {X : Cx} {a : Expr} {pos : Pos} {ta : XE} (h : PE X a (up ta)) : PE X (.UnaryOp .USub a pos) (up (xUn fNeg ta)) :=
  pe_wk (pe_un un_neg h) fun σ H Q ⟨Γ, ε, T, R, k⟩ => up1 R k fun r x ε1 T1 H1 ⟨d, c, e1, e2, e3, g⟩ R1 s1 d1 => by
    unfold fNeg at e2
    split at e2
    · cases e2
      exact ⟨_, (d1.see e1).int, g _ T1 H1 R1 s1 (.int _)⟩
    · cases e2
/-! tests -/
def xTest (a : XE) : XT := ⟨fun ε K => a.run ε fun r ε1 => ∃ b, r.see = some (.bool b) ∧ K b ε1, fun h q => a.mono (fun _ _ ⟨b, e, k⟩ => ⟨b, e, h _ _ k⟩) q⟩
theorem xt_of {X : Cx} {e : Expr} {a : XE} (h : PT X e (tTest (up a))) : PT X e (upT (xTest a)) := ⟨fun pins s σ H Q I ⟨Γ, ε, T, R, k⟩ => h.run pins s σ H Q I (up1 R k fun r x ε1 T1 H1 ⟨b, e, g⟩ R1 s1 d1 => ⟨b, (d1.see e).bl, g T1 H1 R1 s1⟩)⟩
theorem tTest_wk {X : Cx} {e : Expr} {t t' : TE} (h : PT X e (tTest t)) (w : ∀ σ H Q, t' σ H Q → t σ H Q) : PT X e (tTest t') := ⟨fun pins s σ H Q I q => h.run pins s σ H Q I (w σ H _ q)⟩
theorem xt_op {X : Cx} {g : R2} {f : F2} {ta tb : XE} {E : Expr} (h : PT X E (tTest (tOp g (up ta) (up tb)))) (hl : OpL g f) : PT X E (upT (xTest (xOp f ta tb))) :=
  xt_of (tTest_wk h fun σ H Q ⟨Γ, ε, T, R, k⟩ => up2 R k fun r s x y ε2 T2 H2 ⟨d, e, c, e1, e2, e3, e4, g⟩ R2 s2 d1 d2 =>
    hl (d1.see e1) (d2.see e2) e3 e4 (outs R R2 s2 fun r er v T' H' R' s' d' => by subst er; exact g v T' H' R' s' d'))
theorem xt_val {X : Cx} {e : Expr} {t : XE} (h : PE X e (up t)) (he : ∀ whole, isTrue e X.env whole = (do let v ← whole; standAt e.pos; holding [v] (truthy v)) := by intro _; rfl) : PT X e (upT (xTest t)) := xt_of (pt_val h he)
def xNot (a : XT) : XT := ⟨fun ε K => a.run ε fun b ε1 => K (!b) ε1, fun h q => a.mono (fun _ _ k => h _ _ k) q⟩
theorem xt_not {X : Cx} {a : Expr} {pos : Pos} {t : XT} (h : PT X a (upT t)) : PT X (.UnaryOp .Not a pos) (upT (xNot t)) := ⟨fun pins s σ H Q I ⟨Γ, ε, T, R, k⟩ => (pt_not h).run pins s σ H Q I (upT1 R k fun b ε1 T1 H1 g R1 s1 => g T1 H1 R1 s1)⟩
def xAndT (a b : XT) : XT := ⟨fun ε K => a.run ε fun c ε1 => if c = true then b.run ε1 K else K false ε1, fun h q => a.mono (fun c _ k => by
  split at k
  · rw [if_pos (by assumption)]
    exact b.mono h k
  · rw [if_neg (by assumption)]
    exact h _ _ k) q⟩
def xOrT (a b : XT) : XT := ⟨fun ε K => a.run ε fun c ε1 => if c = true then K true ε1 else b.run ε1 K, fun h q => a.mono (fun c _ k => by
  split at k
  · rw [if_pos (by assumption)]
    exact h _ _ k
  · rw [if_neg (by assumption)]
    exact b.mono h k) q⟩
def PWX (X : Cx) (e : Expr) (t : XT) : Prop := PW X e (upT t)
section
variable {X : Cx} {a b : Expr} {rest : List Expr} {pos : Pos} {ta tb : XT}
theorem up_cont {Γ : Ga} {ε ε1 : List AV} {T T1 : Addr → Prop} {σ : L2.St} {H H1 : Hp} {t : XT} {Q : Bool → Hp → Prop} (R : Rep Γ ε T σ H) (R1 : Rep Γ ε1 T1 σ H1) (s1 : Stp Γ ε T ε1 T1 σ H H1)
    (k : t.run ε1 fun b ε' => ∀ T' H', Rep Γ ε' T' σ H' → Stp Γ ε T ε' T' σ H H' → Q b H') : upT t σ H1 Q :=
  upT1 R1 k fun b ε2 T2 H2 g R2 s2 => g T2 H2 R2 (s1.trans R.hp s2)
theorem xw_and1 (h : PT X a (upT ta)) : PW X (.BoolOp .And [a] pos) (upT ta) := pw_and1 h
theorem xw_or1 (h : PT X a (upT ta)) : PW X (.BoolOp .Or [a] pos) (upT ta) := pw_or1 h
theorem xw_and (h : PT X a (upT ta)) (k : PW X (.BoolOp .And (b :: rest) pos) (upT tb)) : PW X (.BoolOp .And (a :: b :: rest) pos) (upT (xAndT ta tb)) := ⟨fun whole pins s σ H Q I ⟨Γ, ε, T, R, q⟩ => (pw_and h k).run whole pins s σ H Q I (upT1 R q fun c ε1 T1 H1 g R1 s1 => by
  split at g
  · rw [if_pos (by assumption)]
    exact up_cont R R1 s1 g
  · rw [if_neg (by assumption)]
    exact g T1 H1 R1 s1)⟩
theorem xw_or (h : PT X a (upT ta)) (k : PW X (.BoolOp .Or (b :: rest) pos) (upT tb)) : PW X (.BoolOp .Or (a :: b :: rest) pos) (upT (xOrT ta tb)) := ⟨fun whole pins s σ H Q I ⟨Γ, ε, T, R, q⟩ => (pw_or h k).run whole pins s σ H Q I (upT1 R q fun c ε1 T1 H1 g R1 s1 => by
  split at g
  · rw [if_pos (by assumption)]
    exact g T1 H1 R1 s1
  · rw [if_neg (by assumption)]
    exact up_cont R R1 s1 g)⟩
end
/-! and, or, not as values of bools; a if t else b -/
def xAndV (a b : XE) : XE := ⟨fun ε K => a.run ε fun r ε1 => ∃ c, r.see = some (.bool c) ∧ if c = true then b.run ε1 K else K (.d (.bool false)) ε1, fun h q => a.mono (fun r _ ⟨c, e, k⟩ => ⟨c, e, by
  split at k
  · rw [if_pos (by assumption)]
    exact b.mono h k
  · rw [if_neg (by assumption)]
    exact h _ _ k⟩) q⟩
def xOrV (a b : XE) : XE := ⟨fun ε K => a.run ε fun r ε1 => ∃ c, r.see = some (.bool c) ∧ if c = true then K (.d (.bool true)) ε1 else b.run ε1 K, fun h q => a.mono (fun r _ ⟨c, e, k⟩ => ⟨c, e, by
  split at k
  · rw [if_pos (by assumption)]
    exact h _ _ k
  · rw [if_neg (by assumption)]
    exact b.mono h k⟩) q⟩
def xNotV (a : XE) : XE := ⟨fun ε K => a.run ε fun r ε1 => ∃ c, r.see = some (.bool c) ∧ K (.d (.bool !c)) ε1, fun h q => a.mono (fun r _ ⟨c, e, k⟩ => ⟨c, e, h _ _ k⟩) q⟩
def xIf (t : XT) (a b : XE) : XE := ⟨fun ε K => t.run ε fun c ε1 => if c = true then a.run ε1 K else b.run ε1 K, fun h q => t.mono (fun c _ k => by
  split at k
  · rw [if_pos (by assumption)]
    exact a.mono h k
  · rw [if_neg (by assumption)]
    exact b.mono h k) q⟩
section
variable {X : Cx} {a b : Expr} {rest : List Expr} {pos : Pos} {ta tb : XE}
theorem up_contE {Γ : Ga} {ε ε1 : List AV} {T T1 : Addr → Prop} {σ : L2.St} {H H1 : Hp} {t : XE} {Q : VK} (R : Rep Γ ε T σ H) (R1 : Rep Γ ε1 T1 σ H1) (s1 : Stp Γ ε T ε1 T1 σ H H1)
    (k : t.run ε1 fun r ε' => ∀ v T' H', Rep Γ ε' T' σ H' → Stp Γ ε T ε' T' σ H H' → Den Γ ε' T' σ H r v H' → Q v H') : up t σ H1 Q :=
  up1 R1 k fun r v ε2 T2 H2 g R2 s2 d2 => g v T2 H2 R2 (s1.trans R.hp s2) (d2.early fun a => s1.none R.hp)
theorem xe_one {op : BoolOp} (h : PE X a (up ta)) : PE X (.BoolOp op [a] pos) (up ta) := pe_one h
theorem xe_and (h : PE X a (up ta)) (k : PE X (.BoolOp .And (b :: rest) pos) (up tb)) : PE X (.BoolOp .And (a :: b :: rest) pos) (up (xAndV ta tb)) :=
  pe_wk (pe_and h k) fun σ H Q ⟨Γ, ε, T, R, q⟩ => up1 R q fun r x ε1 T1 H1 ⟨c, e, g⟩ R1 s1 d1 => ⟨c, (d1.see e).bl, by
    split at g
    · rw [if_pos (by assumption)]
      exact up_contE R R1 s1 g
    · rw [if_neg (by assumption)]
      exact g _ T1 H1 R1 s1 (.bl _)⟩
theorem xe_or (h : PE X a (up ta)) (k : PE X (.BoolOp .Or (b :: rest) pos) (up tb)) : PE X (.BoolOp .Or (a :: b :: rest) pos) (up (xOrV ta tb)) :=
  pe_wk (pe_or h k) fun σ H Q ⟨Γ, ε, T, R, q⟩ => up1 R q fun r x ε1 T1 H1 ⟨c, e, g⟩ R1 s1 d1 => ⟨c, (d1.see e).bl, by
    split at g
    · rw [if_pos (by assumption)]
      exact g _ T1 H1 R1 s1 (.bl _)
    · rw [if_neg (by assumption)]
      exact up_contE R R1 s1 g⟩
theorem xe_not (h : PE X a (up ta)) : PE X (.UnaryOp .Not a pos) (up (xNotV ta)) :=
  pe_wk (pe_not h) fun σ H Q ⟨Γ, ε, T, R, q⟩ => up1 R q fun r x ε1 T1 H1 ⟨c, e, g⟩ R1 s1 d1 => ⟨c, (d1.see e).bl, g _ T1 H1 R1 s1 (.bl _)⟩
theorem xe_ifExp {c : Expr} {t : XT} (hc : PT X c (upT t)) (h : PE X a (up ta)) (k : PE X b (up tb)) : PE X (.IfExp c a b pos) (up (xIf t ta tb)) :=
  pe_wk (pe_ifExp hc h k) fun σ H Q ⟨Γ, ε, T, R, q⟩ => upT1 R q fun c ε1 T1 H1 g R1 s1 => by
    split at g
    · rw [if_pos (by assumption)]
      exact up_contE R R1 s1 g
    · rw [if_neg (by assumption)]
      exact up_contE R R1 s1 g
end
/-! slices -/
def xNoPart : XO := ⟨fun ε K => K none ε, fun h k => h _ _ k⟩
def xPart (a : XE) : XO := ⟨fun ε K => a.run ε fun r ε1 => ∃ i, r.see = some (.int i) ∧ K (some i) ε1, fun h q => a.mono (fun _ _ ⟨i, e, k⟩ => ⟨i, e, h _ _ k⟩) q⟩
theorem xo_none {X : Cx} : PO X none (upO xNoPart) := ⟨fun pins s σ H Q I ⟨Γ, ε, T, R, k⟩ => po_none.run pins s σ H Q I (k T H R (.refl R))⟩
theorem xo_some {X : Cx} {e : Expr} {a : XE} (h : PE X e (up a)) : PO X (some e) (upO (xPart a)) := ⟨fun pins s σ H Q I ⟨Γ, ε, T, R, k⟩ => (po_some h).run pins s σ H Q I (up1 R k fun r x ε1 T1 H1 ⟨i, e, g⟩ R1 s1 d1 => ⟨i, (d1.see e).int, g T1 H1 R1 s1⟩)⟩
def fSl : PyData → Option Int → Option Int → Option RV
  | .list ds, lo, hi => some (.f (cutD ds lo hi))
  | .tuple ds, lo, hi => some (.d (.tuple (cutD ds lo hi)))
  | _, _, _ => none
def xSl (a : XE) (l h : XO) : XE := ⟨fun ε K => a.run ε fun r ε1 => l.run ε1 fun lo ε2 => h.run ε2 fun hi ε3 => ∃ d c, r.see = some d ∧ fSl d lo hi = some c ∧ K c ε3,
  fun w q => a.mono (fun _ _ q => l.mono (fun _ _ q => h.mono (fun _ _ ⟨d, c, a1, a2, k⟩ => ⟨d, c, a1, a2, w _ _ k⟩) q) q) q⟩
def gSl (K : PySem.W.Frag) : V → Option Int → Option Int → Hp → VK → Prop := fun x lo hi H Q => rSlL K x lo hi H Q ∨ rSlA K x lo hi H Q
def slTwo {X : Cx} : SlR X (gSl X.K) := (sl_list (X := X)).or (sl_tupA (X := X))
theorem cutD_len2 {ds : List PyData} {lo hi : Option Int} : (cutD ds lo hi).length ≤ ds.length := by
  unfold cutD
  rw [List.length_take, List.length_drop]
  omega
theorem xe_slice {X : Cx} {K : PySem.W.Frag} {e : Expr} {lo hi : Option Expr} {p2 pos : Pos} {a : XE} {l h : XO} (hr : SlR X (gSl K)) (he : PE X e (up a)) (hl : PO X lo (upO l)) (hu : PO X hi (upO h)) : PE X (.Subscript e (.Slice lo hi none p2) pos) (up (xSl a l h)) :=
  pe_wk (pe_slice hr he hl hu) fun σ H Q ⟨Γ, ε, T, R, k⟩ => up1 R k fun r x ε1 T1 H1 g R1 s1 d1 => upO1 R1 g fun lo ε2 T2 H2 g R2 s2 => upO1 R2 g fun hi ε3 T3 H3 ⟨d, c, e1, e2, g⟩ R3 s3 => by
    have sA := (s1.trans R.hp s2).trans R.hp s3
    have sd := ((d1.step R1 s2).step R2 s3).see e1
    have o := outs (G := fun r => r = c) (Q := Q) R R3 sA fun r er v T' H' R' s' d' => by subst er; exact g v T' H' R' s' d'
    unfold fSl at e2
    split at e2
    · cases e2
      obtain ⟨b, vs, rfl, h1, h2, h3⟩ := sd.list
      exact .inl ⟨b, vs, rfl, SqL.of h1, fun p hp => o.lst p _ _ rfl hp (by rw [(h3.cut lo hi).length]; exact Nat.le_trans cutD_len2 (by rw [← h3.length]; exact h2)) (h3.cut lo hi)⟩
    · rename_i ds
      cases e2
      obtain ⟨b, vs, rfl, h1, h2, h3, h4⟩ := sd.tup
      refine .inr ⟨b, vs, rfl, SqT.rd h1, fun z => ?_, fun _ p hp => o.tup p _ _ rfl hp (by rw [(h3.cut lo hi).length]; exact Nat.le_trans cutD_len2 (by rw [← h3.length]; exact h2)) (h3.cut lo hi)⟩
      have e3 : cutD ds lo hi = ds := by
        unfold cutD
        rw [← h3.length, z.1, z.2, List.drop_zero, Nat.sub_zero, List.take_of_length_le (by rw [h3.length]; exact Nat.le_refl _)]
      rw [e3] at o
      exact o.old _ _ rfl h4
    · cases e2
/-! calls of built-ins -/
abbrev FN := List PyData → Option (Prop × RV)
def xBi (f : FN) (a : XA) : XE := ⟨fun ε K => a.run ε fun rs ε1 => ∃ ds c, sees rs = some ds ∧ f ds = some c ∧ c.1 ∧ K c.2 ε1, fun h q => a.mono (fun _ _ ⟨d, c, a1, a2, a3, k⟩ => ⟨d, c, a1, a2, a3, h _ _ k⟩) q⟩
def BiL (r : List V → Hp → VK → Prop) (f : FN) : Prop := ∀ {N : Addr → Prop} {H : Hp} {vs : List V} {ds : List PyData} {c : Prop × RV} {Q : VK}, SeeA N H vs ds → f ds = some c → c.1 → Outs N H (fun r => r = c.2) Q → r vs H Q
theorem x_bi {X : Cx} {E : Expr} {r : List V → Hp → VK → Prop} {f : FN} {a : XA} (h : PE X E (tCB r (upA a))) (hl : BiL r f) : PE X E (up (xBi f a)) :=
  pe_wk h fun σ H Q ⟨Γ, ε, T, R, k⟩ => upA1 R k fun rs xs ε1 T1 H1 ⟨ds, c, e1, e2, e3, g⟩ R1 s1 d1 => hl (d1.see e1) e2 e3 (outs R R1 s1 fun r er v T' H' R' s' d' => by subst er; exact g v T' H' R' s' d')
section
variable {N : Addr → Prop} {H : Hp}
theorem see1 {vs : List V} {d : PyData} (h : SeeA N H vs [d]) : ∃ v, vs = [v] ∧ See N H v d := by
  cases h with
  | cons h t => cases t; exact ⟨_, rfl, h⟩
theorem see2 {vs : List V} {d e : PyData} (h : SeeA N H vs [d, e]) : ∃ v w, vs = [v, w] ∧ See N H v d ∧ See N H w e := by
  cases h with
  | cons h t =>
    cases t with
    | cons h2 t => cases t; exact ⟨_, _, rfl, h, h2⟩
end
def intsD : List PyData → Option (List Int)
  | [] => some []
  | .int i :: ds => (intsD ds).map (i :: ·)
  | _ => none
theorem intsD_map : ∀ xs : List Int, intsD (xs.map PyData.int) = some xs
  | [] => rfl
  | x :: xs => by
    show (intsD (xs.map PyData.int)).map (x :: ·) = _
    rw [intsD_map xs]
    rfl
theorem dn_ints {N : Addr → Prop} {H : Hp} : ∀ {vs : List V} {ds : List PyData} {is : List Int}, DnA N H vs ds → intsD ds = some is → vs = is.map V.int ∧ ds = is.map PyData.int
  | _, _, _, .nil, e => by cases e; exact ⟨rfl, rfl⟩
  | _, _, _, .cons h t, e => by
    cases h <;> first | cases e | skip
    obtain ⟨r, e1, rfl⟩ := Option.map_eq_some_iff.mp e
    obtain ⟨e2, e3⟩ := dn_ints t e1
    rw [e2, e3]
    exact ⟨rfl, rfl⟩
def boolsD : List PyData → Option (List Bool)
  | [] => some []
  | .bool i :: ds => (boolsD ds).map (i :: ·)
  | _ => none
theorem boolsD_map : ∀ xs : List Bool, boolsD (xs.map PyData.bool) = some xs
  | [] => rfl
  | x :: xs => by
    show (boolsD (xs.map PyData.bool)).map (x :: ·) = _
    rw [boolsD_map xs]
    rfl
theorem dn_bools {N : Addr → Prop} {H : Hp} : ∀ {vs : List V} {ds : List PyData} {is : List Bool}, DnA N H vs ds → boolsD ds = some is → vs = is.map V.bl
  | _, _, _, .nil, e => by cases e; rfl
  | _, _, _, .cons h t, e => by
    cases h <;> first | cases e | skip
    obtain ⟨r, e1, rfl⟩ := Option.map_eq_some_iff.mp e
    rw [dn_bools t e1]
    rfl
def fLen : FN
  | [.list ds] => some (True, .d (.int (ds.length : Nat)))
  | [.tuple ds] => some (True, .d (.int (ds.length : Nat)))
  | [.str x] => some (True, .d (.int (x.length : Nat)))
  | _ => none
theorem bl_len {K : PySem.W.Frag} : BiL (fun xs H Q => (∃ p ys, xs = [.ref p] ∧ (SqL K H p ys ∨ SqT K H p ys) ∧ Q (.int ys.length) H) ∨ ∃ z, xs = [.str z] ∧ z.length ≤ sizeLine ∧ Q (.int z.length) H) fLen := by
  intro N H vs ds c Q hs e1 e2 o
  unfold fLen at e1
  split at e1
  · cases e1
    obtain ⟨v, rfl, h⟩ := see1 hs
    obtain ⟨a, ws, rfl, h1, h2, h3⟩ := h.list
    have := o.old _ _ rfl (.int _)
    rw [← h3.length] at this
    exact .inl ⟨a, ws, rfl, .inl (SqL.of h1), this⟩
  · cases e1
    obtain ⟨v, rfl, h⟩ := see1 hs
    obtain ⟨a, ws, rfl, h1, h2, h3, _⟩ := h.tup
    have := o.old _ _ rfl (.int _)
    rw [← h3.length] at this
    exact .inl ⟨a, ws, rfl, .inr (SqT.rd h1), this⟩
  · cases e1
    obtain ⟨v, rfl, h⟩ := see1 hs
    obtain ⟨rfl, h2⟩ := h.str
    exact .inr ⟨_, rfl, h2, o.old _ _ rfl (.int _)⟩
  · cases e1
def fAbs : FN
  | [.int i] => some (True, .d (.int (if i < 0 then -i else i)))
  | _ => none
theorem bl_abs : BiL (fun xs H Q => ∃ i, xs = [.int i] ∧ Q (.int (if i < 0 then -i else i)) H) fAbs := by
  intro N H vs ds c Q hs e1 e2 o
  unfold fAbs at e1
  split at e1
  · cases e1
    obtain ⟨v, rfl, h⟩ := see1 hs
    rw [h.int]
    exact ⟨_, rfl, o.old _ _ rfl (.int _)⟩
  · cases e1
def fInt : FN
  | [.int i] => some (True, .d (.int i))
  | [.bool b] => some (True, .d (.int (if b then 1 else 0)))
  | _ => none
theorem bl_int : BiL (fun xs H Q => (∃ i, xs = [.int i] ∧ Q (.int i) H) ∨ ∃ k, xs = [.bl k] ∧ Q (.int (if k then 1 else 0)) H) fInt := by
  intro N H vs ds c Q hs e1 e2 o
  unfold fInt at e1
  split at e1
  · cases e1
    obtain ⟨v, rfl, h⟩ := see1 hs
    rw [h.int]
    exact .inl ⟨_, rfl, o.old _ _ rfl (.int _)⟩
  · cases e1
    obtain ⟨v, rfl, h⟩ := see1 hs
    rw [h.bl]
    exact .inr ⟨_, rfl, o.old _ _ rfl (.int _)⟩
  · cases e1
def maxI : List Int → Int
  | [] => 0
  | [x] => x
  | x :: y :: xs => max x (maxI (y :: xs))
def minI : List Int → Int
  | [] => 0
  | [x] => x
  | x :: y :: xs => min x (minI (y :: xs))
theorem maxI_ok : ∀ {xs : List Int}, xs ≠ [] → maxI xs ∈ xs ∧ ∀ y ∈ xs, y ≤ maxI xs
  | [], h => absurd rfl h
  | [x], _ => ⟨List.mem_cons_self, fun y h => by rw [List.mem_singleton.mp h]; exact Int.le_refl _⟩
  | x :: y :: xs, _ => by
    obtain ⟨h1, h2⟩ := maxI_ok (xs := y :: xs) (by simp)
    refine ⟨?_, fun z hz => ?_⟩
    · show max x (maxI (y :: xs)) ∈ _
      by_cases q : x ≤ maxI (y :: xs)
      · rw [Int.max_eq_right q]
        exact List.mem_cons_of_mem _ h1
      · rw [Int.max_eq_left (by omega)]
        exact List.mem_cons_self
    · show z ≤ max x (maxI (y :: xs))
      rcases List.mem_cons.mp hz with rfl | hz
      · omega
      · have := h2 z hz
        omega
theorem minI_ok : ∀ {xs : List Int}, xs ≠ [] → minI xs ∈ xs ∧ ∀ y ∈ xs, minI xs ≤ y
  | [], h => absurd rfl h
  | [x], _ => ⟨List.mem_cons_self, fun y h => by rw [List.mem_singleton.mp h]; exact Int.le_refl _⟩
  | x :: y :: xs, _ => by
    obtain ⟨h1, h2⟩ := minI_ok (xs := y :: xs) (by simp)
    refine ⟨?_, fun z hz => ?_⟩
    · show min x (minI (y :: xs)) ∈ _
      by_cases q : x ≤ minI (y :: xs)
      · rw [Int.min_eq_left q]
        exact List.mem_cons_self
      · rw [Int.min_eq_right (by omega)]
        exact List.mem_cons_of_mem _ h1
    · show min x (minI (y :: xs)) ≤ z
      rcases List.mem_cons.mp hz with rfl | hz
      · omega
      · have := h2 z hz
        omega
theorem max_un {xs : List Int} {m : Int} (h1 : m ∈ xs) (h2 : ∀ y ∈ xs, y ≤ m) : m = maxI xs := by
  obtain ⟨h3, h4⟩ := maxI_ok (xs := xs) (fun e => by rw [e] at h1; cases h1)
  have := h2 _ h3
  have := h4 _ h1
  omega
theorem min_un {xs : List Int} {m : Int} (h1 : m ∈ xs) (h2 : ∀ y ∈ xs, m ≤ y) : m = minI xs := by
  obtain ⟨h3, h4⟩ := minI_ok (xs := xs) (fun e => by rw [e] at h1; cases h1)
  have := h2 _ h3
  have := h4 _ h1
  omega
def fMax : FN
  | [.list ds] => (intsD ds).map fun is => (is ≠ [], .d (.int (maxI is)))
  | [.tuple ds] => (intsD ds).map fun is => (is ≠ [], .d (.int (maxI is)))
  | [.int i, .int j] => some (True, .d (.int (max i j)))
  | _ => none
def fMin : FN
  | [.list ds] => (intsD ds).map fun is => (is ≠ [], .d (.int (minI is)))
  | [.tuple ds] => (intsD ds).map fun is => (is ≠ [], .d (.int (minI is)))
  | [.int i, .int j] => some (True, .d (.int (min i j)))
  | _ => none
def gMax (K : PySem.W.Frag) : List V → Hp → VK → Prop := fun xs H Q => rMax K xs H Q ∨ rMaxT K xs H Q ∨ ∃ i j, xs = [.int i, .int j] ∧ Q (.int (if j > i then j else i)) H
def gMin (K : PySem.W.Frag) : List V → Hp → VK → Prop := fun xs H Q => rMin K xs H Q ∨ rMinT K xs H Q ∨ ∃ i j, xs = [.int i, .int j] ∧ Q (.int (if j < i then j else i)) H
def crMax {X : Cx} (hc : X.calm = true) : CallR X (.builtin "max") (gMax X.K) := (cr_max hc).or ((cr_maxT hc).or (call_max2 hc))
def crMin {X : Cx} (hc : X.calm = true) : CallR X (.builtin "min") (gMin X.K) := (cr_min hc).or ((cr_minT hc).or (call_min2 hc))
theorem ne_len {xs : List Int} (h : xs ≠ []) : 0 < xs.length := by
  cases xs with
  | nil => exact absurd rfl h
  | cons x xs => simp
theorem bl_max {K : PySem.W.Frag} : BiL (gMax K) fMax := by
  intro N H vs ds c Q hs e1 e2 o
  unfold fMax at e1
  split at e1
  · obtain ⟨is, e3, rfl⟩ := Option.map_eq_some_iff.mp e1
    obtain ⟨v, rfl, h⟩ := see1 hs
    obtain ⟨a, ws, rfl, h1, h2, h3⟩ := h.list
    obtain ⟨rfl, _⟩ := dn_ints h3 e3
    exact .inl ⟨a, is, rfl, SqL.of h1, ne_len e2, fun m m1 m2 => by rw [max_un m1 m2]; exact o.old _ _ rfl (.int _)⟩
  · obtain ⟨is, e3, rfl⟩ := Option.map_eq_some_iff.mp e1
    obtain ⟨v, rfl, h⟩ := see1 hs
    obtain ⟨a, ws, rfl, h1, h2, h3, _⟩ := h.tup
    obtain ⟨rfl, _⟩ := dn_ints h3 e3
    exact .inr (.inl ⟨a, is, rfl, SqT.rd h1, ne_len e2, fun m m1 m2 => by rw [max_un m1 m2]; exact o.old _ _ rfl (.int _)⟩)
  · rename_i i j
    cases e1
    obtain ⟨v, w, rfl, h1, h2⟩ := see2 hs
    rw [h1.int, h2.int]
    have := o.old _ _ rfl (.int _)
    rw [show max i j = if j > i then j else i by split <;> omega] at this
    exact .inr (.inr ⟨i, j, rfl, this⟩)
  · cases e1
theorem bl_min {K : PySem.W.Frag} : BiL (gMin K) fMin := by
  intro N H vs ds c Q hs e1 e2 o
  unfold fMin at e1
  split at e1
  · obtain ⟨is, e3, rfl⟩ := Option.map_eq_some_iff.mp e1
    obtain ⟨v, rfl, h⟩ := see1 hs
    obtain ⟨a, ws, rfl, h1, h2, h3⟩ := h.list
    obtain ⟨rfl, _⟩ := dn_ints h3 e3
    exact .inl ⟨a, is, rfl, SqL.of h1, ne_len e2, fun m m1 m2 => by rw [min_un m1 m2]; exact o.old _ _ rfl (.int _)⟩
  · obtain ⟨is, e3, rfl⟩ := Option.map_eq_some_iff.mp e1
    obtain ⟨v, rfl, h⟩ := see1 hs
    obtain ⟨a, ws, rfl, h1, h2, h3, _⟩ := h.tup
    obtain ⟨rfl, _⟩ := dn_ints h3 e3
    exact .inr (.inl ⟨a, is, rfl, SqT.rd h1, ne_len e2, fun m m1 m2 => by rw [min_un m1 m2]; exact o.old _ _ rfl (.int _)⟩)
  · rename_i i j
    cases e1
    obtain ⟨v, w, rfl, h1, h2⟩ := see2 hs
    rw [h1.int, h2.int]
    have := o.old _ _ rfl (.int _)
    rw [show min i j = if j < i then j else i by split <;> omega] at this
    exact .inr (.inr ⟨i, j, rfl, this⟩)
  · cases e1
def fSum : FN
  | [.list ds] => (intsD ds).map fun is => (True, .d (.int is.sum))
  | _ => none
theorem bl_sum {K : PySem.W.Frag} : BiL (rSum K) fSum := by
  intro N H vs ds c Q hs e1 e2 o
  unfold fSum at e1
  split at e1
  · obtain ⟨is, e3, rfl⟩ := Option.map_eq_some_iff.mp e1
    obtain ⟨v, rfl, h⟩ := see1 hs
    obtain ⟨a, ws, rfl, h1, h2, h3⟩ := h.list
    obtain ⟨rfl, _⟩ := dn_ints h3 e3
    exact ⟨a, is, rfl, SqL.of h1, o.old _ _ rfl (.int _)⟩
  · cases e1
def fAll : FN
  | [.list ds] => (boolsD ds).map fun is => (True, .d (.bool (is.all id)))
  | _ => none
theorem bl_all {K : PySem.W.Frag} : BiL (rAll K) fAll := by
  intro N H vs ds c Q hs e1 e2 o
  unfold fAll at e1
  split at e1
  · obtain ⟨is, e3, rfl⟩ := Option.map_eq_some_iff.mp e1
    obtain ⟨v, rfl, h⟩ := see1 hs
    obtain ⟨a, ws, rfl, h1, h2, h3⟩ := h.list
    obtain rfl := dn_bools h3 e3
    exact ⟨a, is, rfl, SqL.of h1, o.old _ _ rfl (.bl _)⟩
  · cases e1
def fAny : FN
  | [.list ds] => (boolsD ds).map fun is => (True, .d (.bool (is.any id)))
  | _ => none
theorem bl_any {K : PySem.W.Frag} : BiL (rAny K) fAny := by
  intro N H vs ds c Q hs e1 e2 o
  unfold fAny at e1
  split at e1
  · obtain ⟨is, e3, rfl⟩ := Option.map_eq_some_iff.mp e1
    obtain ⟨v, rfl, h⟩ := see1 hs
    obtain ⟨a, ws, rfl, h1, h2, h3⟩ := h.list
    obtain rfl := dn_bools h3 e3
    exact ⟨a, is, rfl, SqL.of h1, o.old _ _ rfl (.bl _)⟩
  · cases e1
def fTupleOf : FN
  | [.list ds] => some (True, .d (.tuple ds))
  | [.tuple ds] => some (True, .d (.tuple ds))
  | _ => none
theorem bl_tuple {K : PySem.W.Frag} : BiL (fun xs H Q => ∃ p ys, xs = [.ref p] ∧ ((SqL K H p ys ∧ ∀ l, H l = none → Q (.ref l) (upd H l (.tup ys))) ∨ (SqT K H p ys ∧ Q (.ref p) H))) fTupleOf := by
  intro N H vs ds c Q hs e1 e2 o
  unfold fTupleOf at e1
  split at e1
  · cases e1
    obtain ⟨v, rfl, h⟩ := see1 hs
    obtain ⟨a, ws, rfl, h1, h2, h3⟩ := h.list
    exact ⟨a, ws, rfl, .inl ⟨SqL.of h1, fun l hl => o.tup l _ _ rfl hl h2 h3⟩⟩
  · cases e1
    obtain ⟨v, rfl, h⟩ := see1 hs
    obtain ⟨a, ws, rfl, h1, h2, h3, h4⟩ := h.tup
    exact ⟨a, ws, rfl, .inr ⟨SqT.rd h1, o.old _ _ rfl h4⟩⟩
  · cases e1
def fListOf : FN
  | [.list ds] => some (True, .f ds)
  | [.tuple ds] => some (True, .f ds)
  | _ => none
theorem bl_list {K : PySem.W.Frag} : BiL (fun xs H Q => ∃ p ys, xs = [.ref p] ∧ (SqL K H p ys ∨ SqT K H p ys) ∧ ∀ l, H l = none → Q (.ref l) (upd H l (.lst ys))) fListOf := by
  intro N H vs ds c Q hs e1 e2 o
  unfold fListOf at e1
  split at e1
  · cases e1
    obtain ⟨v, rfl, h⟩ := see1 hs
    obtain ⟨a, ws, rfl, h1, h2, h3⟩ := h.list
    exact ⟨a, ws, rfl, .inl (SqL.of h1), fun l hl => o.lst l _ _ rfl hl h2 h3⟩
  · cases e1
    obtain ⟨v, rfl, h⟩ := see1 hs
    obtain ⟨a, ws, rfl, h1, h2, h3, h4⟩ := h.tup
    exact ⟨a, ws, rfl, .inr (SqT.rd h1), fun l hl => o.lst l _ _ rfl hl h2 h3⟩
  · cases e1
def srt (xs : List Int) : List Int := xs.mergeSort fun a b => decide (a ≤ b)
theorem srt_un {xs ys : List Int} (h1 : ys.Perm xs) (h2 : ys.Pairwise (· ≤ ·)) : ys = srt xs := by
  have p : (srt xs).Perm xs := List.mergeSort_perm xs _
  have q : (srt xs).Pairwise (· ≤ ·) := by
    have := List.pairwise_mergeSort (le := fun a b : Int => decide (a ≤ b)) (fun a b c h k => decide_eq_true (Int.le_trans (of_decide_eq_true h) (of_decide_eq_true k))) (fun a b => by
      rcases Int.le_total a b with h | h
      · rw [decide_eq_true h]; rfl
      · rw [decide_eq_true h, Bool.or_true]) xs
    exact this.imp fun h => of_decide_eq_true h
  exact (h1.trans p.symm).eq_of_pairwise (fun a b _ _ => Int.le_antisymm) h2 q
def fSorted : FN
  | [.list ds] => (intsD ds).map fun is => (True, .f ((srt is).map PyData.int))
  | _ => none
theorem ints_dn {N : Addr → Prop} {H : Hp} : ∀ xs : List Int, DnA N H (xs.map V.int) (xs.map PyData.int)
  | [] => .nil
  | x :: xs => .cons (.int x) (ints_dn xs)
theorem bl_sorted {K : PySem.W.Frag} : BiL (rSortedI K) fSorted := by
  intro N H vs ds c Q hs e1 e2 o
  unfold fSorted at e1
  split at e1
  · obtain ⟨is, e3, rfl⟩ := Option.map_eq_some_iff.mp e1
    obtain ⟨v, rfl, h⟩ := see1 hs
    obtain ⟨a, ws, rfl, h1, h2, h3⟩ := h.list
    obtain ⟨rfl, _⟩ := dn_ints h3 e3
    refine ⟨a, is, rfl, SqL.of h1, fun ns p k1 k2 hp => ?_⟩
    obtain rfl := srt_un k1 k2
    exact o.lst p _ _ rfl hp (by rw [List.length_map, k1.length_eq, ← List.length_map (f := V.int)]; exact h2) (ints_dn _)
  · cases e1
def fGcd : FN
  | [.int i, .int j] => some (True, .d (.int ((Nat.gcd i.natAbs j.natAbs : Nat) : Int)))
  | _ => none
theorem bl_gcd : BiL rGcd fGcd := by
  intro N H vs ds c Q hs e1 e2 o
  unfold fGcd at e1
  split at e1
  · cases e1
    obtain ⟨v, w, rfl, h1, h2⟩ := see2 hs
    rw [h1.int, h2.int]
    exact ⟨_, _, rfl, o.old _ _ rfl (.int _)⟩
  · cases e1
def fDivmod : FN
  | [.int i, .int j] => some (CDiv i j, .d (.tuple [.int (i / j), .int (i % j)]))
  | _ => none
theorem bl_divmod : BiL (fun xs H Q => ∃ i j, xs = [.int i, .int j] ∧ CDiv i j ∧ ∀ p, H p = none → Q (.ref p) (upd H p (.tup [.int (i / j), .int (i % j)]))) fDivmod := by
  intro N H vs ds c Q hs e1 e2 o
  unfold fDivmod at e1
  split at e1
  · cases e1
    obtain ⟨v, w, rfl, h1, h2⟩ := see2 hs
    rw [h1.int, h2.int]
    exact ⟨_, _, rfl, e2, fun p hp => o.tup p _ _ rfl hp (by exact Nat.le_of_ble_eq_true rfl) (.cons (.int _) (.cons (.int _) .nil))⟩
  · cases e1
def fRepr : FN
  | [d] => some (d.showable = true ∧ topSafe d = true ∧ d.depth ≤ 60 ∧ d.shown.length ≤ sizeLine ∧ ∀ y, d = .str y → y.length ≤ 1000, .b (.str d.shown))
  | _ => none
end Cs
set_option maxHeartbeats 4000000
/-! Iterators, targets, comprehensions over data. -/
namespace Cs
open PySem L2 PyProof.Rows
theorem mapget {α β : Type} {f : α → β} {xs : List α} {i : Nat} {y : β} (h : (xs.map f)[i]? = some y) : ∃ x, xs[i]? = some x ∧ y = f x := by
  rw [List.getElem?_map] at h
  obtain ⟨x, hx, e⟩ := Option.map_eq_some_iff.mp h
  exact ⟨x, hx, e.symm⟩
structure XI where
  run : List AV → (List PyData → Bool → List AV → Prop) → Prop
  mono : ∀ {ε : List AV} {K K' : List PyData → Bool → List AV → Prop}, (∀ r b e, K r b e → K' r b e) → run ε K → run ε K'
/-- an iterator that walks data; whether it bears that lists are changed meanwhile -/
structure ItOk (p : Addr) (J : It) (A : (Addr → Prop) → Hp → Prop) (ds : List PyData) (fl : Bool) : Prop where
  st : ∀ N N' H H', Fit2 N N' H H' → (fl = false → ∀ b o, b ≠ p → (∀ ps, o ≠ .tbl ps) → H b = some o → H' b = some o) → A N H → A N' H'
  stop : ∀ N H, A N H → J.stop ds.length H
  go : ∀ N H i d, (∀ a, N a → ∃ o, H a = some o) → A N H → ds[i]? = some d → J.go i H ∧ ∀ x H', J.yld i H x H' → Same H H' ∧ Dn N H' x d
def upI (t : XI) : TI := fun σ H R => ∃ Γ ε T, Rep Γ ε T σ H ∧ t.run ε fun ds fl ε' => ∀ J A T' H', Rep Γ ε' T' σ H' → Stp Γ ε T ε' T' σ H H' → ItOk Γ.p J A ds fl → A (Mx Γ ε' T' σ) H' → R J H'
theorem pi_wk {X : Cx} {tg e : Expr} {t t' : TI} (h : PI X tg e t) (w : ∀ σ H R, t' σ H R → t σ H R) : PI X tg e t' := ⟨fun pins s σ H R I q => h.run pins s σ H R I (w σ H R q)⟩
section
variable {Γ : Ga} {ε ε2 : List AV} {T T2 : Addr → Prop} {σ : L2.St} {H H2 : Hp} {X : Cx}
theorem Rep.alloc (R : Rep Γ ε T σ H) : ∀ a, Mx Γ ε T σ a → ∃ o, H a = some o := by
  rintro a (m | ⟨i, xs, e1, e2⟩ | t)
  · by_cases z : a = Γ.p
    · rw [z]
      exact R.hp.elim fun _ h => ⟨_, h⟩
    · rcases R.ml a m with z' | h
      · exact absurd z' z
      · obtain ⟨o, h⟩ := h.ob
        by_cases zz : Zp Γ a
        · exact (zp_at R.tz zz).elim fun _ h => ⟨_, h⟩
        · exact ⟨_, R.ext a _ ⟨fun _ => z, zz⟩ h⟩
  · obtain ⟨b, vs, e3, _, h2, _⟩ := R.sl i _ e1
    rw [e3] at e2
    cases e2
    exact ⟨_, h2⟩
  · obtain ⟨_, ⟨vs, h⟩, _⟩ := R.tmp a t
    exact ⟨_, h⟩
end
/-! #### over a list that is kept; a list that is looked at; a tuple; a range; a text -/
def xiL (a : XE) : XI := ⟨fun ε K => a.run ε fun r ε1 => ∃ ds, r.kp = some (.list ds) ∧ K ds true ε1, fun h q => a.mono (fun _ _ ⟨ds, e, k⟩ => ⟨ds, e, h _ _ _ k⟩) q⟩
def xiB (a : XE) : XI := ⟨fun ε K => a.run ε fun r ε1 => ∃ ds, r.see = some (.list ds) ∧ K ds false ε1, fun h q => a.mono (fun _ _ ⟨ds, e, k⟩ => ⟨ds, e, h _ _ _ k⟩) q⟩
def xiT (a : XE) : XI := ⟨fun ε K => a.run ε fun r ε1 => ∃ ds, r.see = some (.tuple ds) ∧ K ds true ε1, fun h q => a.mono (fun _ _ ⟨ds, e, k⟩ => ⟨ds, e, h _ _ _ k⟩) q⟩
def rgD (lo : Int) (n : Nat) : List PyData := (List.range n).map fun (i : Nat) => PyData.int (lo + (i : Int))
def xiR1 (a : XA) : XI := ⟨fun ε K => a.run ε fun rs ε1 => ∃ j : Int, sees rs = some [.int j] ∧ -(2 ^ 62) ≤ j ∧ j < 2 ^ 62 ∧ K (rgD 0 j.toNat) true ε1, fun h q => a.mono (fun _ _ ⟨j, e, b1, b2, k⟩ => ⟨j, e, b1, b2, h _ _ _ k⟩) q⟩
def xiR2 (a : XA) : XI := ⟨fun ε K => a.run ε fun rs ε1 => ∃ i j : Int, sees rs = some [.int i, .int j] ∧ (-(2 ^ 62) ≤ i ∧ i < 2 ^ 62 ∧ -(2 ^ 62) ≤ j ∧ j < 2 ^ 62) ∧ K (rgD i (j - i).toNat) true ε1, fun h q => a.mono (fun _ _ ⟨i, j, e, b, k⟩ => ⟨i, j, e, b, h _ _ _ k⟩) q⟩
def chD (x : Str) : List PyData := x.cps.toList.map fun c => PyData.str ⟨#[c]⟩
def xiS (a : XE) : XI := ⟨fun ε K => a.run ε fun r ε1 => ∃ x, r.see = some (.str x) ∧ K (chD x) true ε1, fun h q => a.mono (fun _ _ ⟨ds, e, k⟩ => ⟨ds, e, h _ _ _ k⟩) q⟩
def AL (p a : Addr) (vs : List V) (ds : List PyData) : (Addr → Prop) → Hp → Prop := fun N H => a ≠ p ∧ H a = some (.lst vs) ∧ DnA N H vs ds
def ALk (a : Addr) (vs : List V) (ds : List PyData) : (Addr → Prop) → Hp → Prop := fun N H => ¬ N a ∧ H a = some (.lst vs) ∧ DnA N H vs ds
def AT (a : Addr) (vs : List V) (ds : List PyData) : (Addr → Prop) → Hp → Prop := fun N H => ¬ N a ∧ Rd H a (.tup vs) ∧ DnA N H vs ds
theorem sqL_un {K : PySem.W.Frag} {H : Hp} {a : Addr} {vs xs : List V} (h : H a = some (.lst vs)) (k : (∀ ys, SqL K H a ys → ys[0]? = xs[0]?) → True) : True := trivial
theorem AL.fit {p a : Addr} {vs : List V} {ds : List PyData} {N N' : Addr → Prop} {H H' : Hp} (f : Fit2 N N' H H') (k : ∀ b o, b ≠ p → (∀ ps, o ≠ .tbl ps) → H b = some o → H' b = some o) (h : AL p a vs ds N H) : AL p a vs ds N' H' := ⟨h.1, k _ _ h.1 nofun h.2.1, h.2.2.go f⟩
theorem ALk.fit {a : Addr} {vs : List V} {ds : List PyData} {N N' : Addr → Prop} {H H' : Hp} (f : Fit2 N N' H H') (h : ALk a vs ds N H) : ALk a vs ds N' H' := ⟨f.ok h.1 h.2.1, f.k _ _ h.1 h.2.1, h.2.2.go f⟩
theorem AT.fit {a : Addr} {vs : List V} {ds : List PyData} {N N' : Addr → Prop} {H H' : Hp} (f : Fit2 N N' H H') (h : AT a vs ds N H) : AT a vs ds N' H' := ⟨f.rd h.1 h.2.1, rd_keep (fun o q => f.k _ o h.1 q) h.2.1, h.2.2.go f⟩
theorem it_list {K : PySem.W.Frag} {p a : Addr} {vs : List V} {ds : List PyData} : ItOk p (Itl K a) (AL p a vs ds) ds false where
  st := fun N N' H H' f k h => h.fit f (k rfl)
  stop := fun N H h => ⟨vs, SqL.of h.2.1, Nat.le_of_eq h.2.2.length⟩
  go := fun N H i d _ h hd => by
    obtain ⟨v, hv, dv⟩ := h.2.2.at_ hd
    refine ⟨⟨vs, v, SqL.of h.2.1, hv⟩, fun x H' ⟨e, y⟩ => ?_⟩
    subst e
    have := y vs (SqL.of h.2.1)
    rw [hv] at this
    cases this
    exact ⟨Same.refl _, dv⟩
theorem it_listK {K : PySem.W.Frag} {p a : Addr} {vs : List V} {ds : List PyData} : ItOk p (Itl K a) (ALk a vs ds) ds true where
  st := fun N N' H H' f k h => h.fit f
  stop := fun N H h => ⟨vs, SqL.of h.2.1, Nat.le_of_eq h.2.2.length⟩
  go := fun N H i d _ h hd => by
    obtain ⟨v, hv, dv⟩ := h.2.2.at_ hd
    refine ⟨⟨vs, v, SqL.of h.2.1, hv⟩, fun x H' ⟨e, y⟩ => ?_⟩
    subst e
    have := y vs (SqL.of h.2.1)
    rw [hv] at this
    cases this
    exact ⟨Same.refl _, dv⟩
theorem it_tup {K : PySem.W.Frag} {p a : Addr} {vs : List V} {ds : List PyData} : ItOk p (Itt K a) (AT a vs ds) ds true where
  st := fun N N' H H' f k h => h.fit f
  stop := fun N H h => ⟨vs, SqT.rd h.2.1, Nat.le_of_eq h.2.2.length⟩
  go := fun N H i d _ h hd => by
    obtain ⟨v, hv, dv⟩ := h.2.2.at_ hd
    refine ⟨⟨vs, v, SqT.rd h.2.1, hv⟩, fun x H' ⟨e, y⟩ => ?_⟩
    subst e
    have := y vs (SqT.rd h.2.1)
    rw [hv] at this
    cases this
    exact ⟨Same.refl _, dv⟩
theorem it_rng {p : Addr} {lo : Int} {n : Nat} : ItOk p (Itr lo n) (fun _ _ => True) (rgD lo n) true where
  st := fun _ _ _ _ _ _ _ => trivial
  stop := fun N H _ => by
    show n ≤ (rgD lo n).length
    unfold rgD
    rw [List.length_map, List.length_range]
    exact Nat.le_refl _
  go := fun N H i d _ _ hd => by
    unfold rgD at hd
    obtain ⟨j, hj, rfl⟩ := mapget hd
    obtain ⟨h1, h2⟩ := List.getElem?_eq_some_iff.mp hj
    rw [List.length_range] at h1
    rw [List.getElem_range] at h2
    subst h2
    refine ⟨h1, fun x H' ⟨e, y⟩ => ?_⟩
    subst e y
    exact ⟨Same.refl _, .int _⟩
theorem it_str {p : Addr} {x : Str} : ItOk p (Its x) (fun _ _ => True) (chD x) true where
  st := fun _ _ _ _ _ _ _ => trivial
  stop := fun N H _ => by
    show x.cps.size ≤ (chD x).length
    unfold chD
    rw [List.length_map, Array.length_toList]
    exact Nat.le_refl _
  go := fun N H i d _ _ hd => by
    unfold chD at hd
    obtain ⟨c, hc, rfl⟩ := mapget hd
    rw [Array.getElem?_toList] at hc
    refine ⟨(Array.getElem?_eq_some_iff.mp hc).1, fun y H' ⟨e, c', hc', z⟩ => ?_⟩
    subst e z
    rw [hc] at hc'
    cases hc'
    exact ⟨Same.refl _, .str _ (show 1 ≤ 1000 by decide)⟩
section
variable {X : Cx} {tg e e2 : Expr} {p pos tpos : Pos} {a : XE} {b : XA}
theorem xi_list (h : PE X e (up a)) : PI X tg e (upI (xiL a)) := pi_wk (pi_list h) fun σ H R ⟨Γ, ε, T, R0, k⟩ => up1 R0 k fun r x ε1 T1 H1 ⟨ds, e1, g⟩ R1 s1 d1 => by
  have d := d1.kept R0 R1 s1 e1
  cases d with
  | @lst a vs _ n h z q => exact ⟨a, rfl, ⟨vs, SqL.of h⟩, g _ _ T H1 (R1.less s1.t) s1.drop it_listK ⟨n, h, q⟩⟩
theorem xi_look (h : PE X e (up a)) : PI X tg e (upI (xiB a)) := pi_wk (pi_list h) fun σ H R ⟨Γ, ε, T, R0, k⟩ => up1 R0 k fun r x ε1 T1 H1 ⟨ds, e1, g⟩ R1 s1 d1 => by
  have np : ∀ a, x = .ref a → a ≠ Γ.p := fun a ea => by
    subst ea
    cases r with
    | d y =>
      cases e1
      cases d1 with
      | lst n h z q => exact fun ep => n (ep ▸ .inl R1.pm)
    | f xs =>
      obtain ⟨b, vs, e, h0, ht, _⟩ := d1
      cases e
      exact tmp_p R1 ht
    | b y =>
      cases e1
      rcases d1 with d1 | ⟨y, e, _⟩ | ⟨b, vs, xs, e, _, hb, _⟩
      · cases d1 with
        | lst n h z q => exact fun ep => n (ep ▸ .inl R1.pm)
      · cases e
      · cases e
        exact hb
    | p => cases e1
    | o P => cases e1
  obtain ⟨a, vs, rfl, h1, h2, h3⟩ := (d1.see e1).list
  exact ⟨a, rfl, ⟨vs, SqL.of h1⟩, g _ _ T1 H1 R1 s1 it_list ⟨np a rfl, h1, h3⟩⟩
theorem xi_tup (h : PE X e (up a)) : PI X tg e (upI (xiT a)) := pi_wk (pi_tup h) fun σ H R ⟨Γ, ε, T, R0, k⟩ => up1 R0 k fun r x ε1 T1 H1 ⟨ds, e1, g⟩ R1 s1 d1 => by
  obtain ⟨a, vs, rfl, h1, h2, h3, h4⟩ := (d1.see e1).tup
  cases h4 with
  | tup n h z q => exact ⟨a, rfl, ⟨vs, SqT.rd h1⟩, g _ _ T1 H1 R1 s1 it_tup ⟨n, h1, h3⟩⟩
theorem xi_rng1 (hg : Gl X "range") (hm : X.mg "range" = none) (h : PA X [e] (upA b)) (hs : starEach [e] X.env = [(false, eval e X.env)] := by rfl) : PI X tg (.Call (.Name "range" p) [e] [] pos) (upI (xiR1 b)) := pi_wk (pi_range1 hg hm h hs) fun σ H R ⟨Γ, ε, T, R0, k⟩ => upA1 R0 k fun r x ε1 T1 H1 ⟨j, e1, b1, b2, g⟩ R1 s1 d1 => by
  obtain ⟨v, rfl, h⟩ := see1 (d1.see e1)
  exact ⟨j, by rw [h.int], b1, b2, g _ _ T1 H1 R1 s1 it_rng trivial⟩
theorem xi_rng2 (hg : Gl X "range") (hm : X.mg "range" = none) (h : PA X [e, e2] (upA b)) (hs : starEach [e, e2] X.env = [(false, eval e X.env), (false, eval e2 X.env)] := by rfl) (hs2 : starEach [e2] X.env = [(false, eval e2 X.env)] := by rfl) : PI X tg (.Call (.Name "range" p) [e, e2] [] pos) (upI (xiR2 b)) := pi_wk (pi_range2 hg hm h hs hs2) fun σ H R ⟨Γ, ε, T, R0, k⟩ => upA1 R0 k fun r x ε1 T1 H1 ⟨i, j, e1, b1, g⟩ R1 s1 d1 => by
  obtain ⟨v, w, rfl, h1, h2⟩ := see2 (d1.see e1)
  exact ⟨i, j, by rw [h1.int, h2.int], b1, g _ _ T1 H1 R1 s1 it_rng trivial⟩
theorem xi_str (h : PE X e (up a)) : PI X tg e (upI (xiS a)) := pi_wk (pi_str h) fun σ H R ⟨Γ, ε, T, R0, k⟩ => up1 R0 k fun r x ε1 T1 H1 ⟨y, e1, g⟩ R1 s1 d1 =>
  ⟨y, (d1.see e1).str.1, g _ _ T1 H1 R1 s1 it_str trivial⟩
end
/-! #### zip, enumerate -/
def zipD (xs ys : List PyData) : List PyData := (xs.zip ys).map fun q => .tuple [q.1, q.2]
def enD (xs : List PyData) : List PyData := xs.zipIdx.map fun q => .tuple [.int (q.2 : Nat), q.1]
def AS (p : Addr) (t fl : Bool) (a : Addr) (vs : List V) (ds : List PyData) : (Addr → Prop) → Hp → Prop := match t, fl with
  | true, _ => AT a vs ds
  | false, true => ALk a vs ds
  | false, false => AL p a vs ds
theorem AS.fit {p : Addr} {t fl : Bool} {a : Addr} {vs : List V} {ds : List PyData} {N N' : Addr → Prop} {H H' : Hp} (f : Fit2 N N' H H') (k : fl = false → ∀ b o, b ≠ p → (∀ ps, o ≠ .tbl ps) → H b = some o → H' b = some o) (h : AS p t fl a vs ds N H) : AS p t fl a vs ds N' H' := by
  cases t with
  | true => exact AT.fit f h
  | false =>
    cases fl with
    | true => exact ALk.fit f h
    | false => exact AL.fit f (k rfl) h
theorem AS.sq {K : PySem.W.Frag} {p : Addr} {t fl : Bool} {a : Addr} {vs : List V} {ds : List PyData} {N : Addr → Prop} {H : Hp} (h : AS p t fl a vs ds N H) : SqB K t H a vs ∧ DnA N H vs ds := by
  cases t with
  | true => exact ⟨SqT.rd h.2.1, h.2.2⟩
  | false =>
    cases fl with
    | true => exact ⟨SqL.of h.2.1, h.2.2⟩
    | false => exact ⟨SqL.of h.2.1, h.2.2⟩
theorem dn_pair {N : Addr → Prop} {H : Hp} {T : Addr} {x y : V} {d e : PyData} (ha : ∀ a, N a → ∃ o, H a = some o) (hT : H T = none) (dx : Dn N H x d) (dy : Dn N H y e) : Dn N (upd H T (.tup [x, y])) (.ref T) (.tuple [d, e]) := by
  have f : Fit2 N N H (upd H T (.tup [x, y])) := Fit2.same (same_new hT)
  refine .tup (fun z => ?_) (.inl upd_same) (by exact Nat.le_of_ble_eq_true rfl) (.cons (dx.go f) (.cons (dy.go f) .nil))
  obtain ⟨o, e⟩ := ha T z
  rw [hT] at e
  cases e
theorem zipD_at {xs ys : List PyData} {i : Nat} {d : PyData} (h : (zipD xs ys)[i]? = some d) : ∃ x y, xs[i]? = some x ∧ ys[i]? = some y ∧ d = .tuple [x, y] := by
  unfold zipD at h
  obtain ⟨q, hq, rfl⟩ := mapget h
  rw [List.getElem?_zip_eq_some] at hq
  exact ⟨q.1, q.2, hq.1, hq.2, rfl⟩
theorem zipD_len {xs ys : List PyData} : (zipD xs ys).length = min xs.length ys.length := by
  unfold zipD
  rw [List.length_map, List.length_zip]
theorem it_zip {K : PySem.W.Frag} {p : Addr} {t u fl : Bool} {a b : Addr} {vs ws : List V} {ds es : List PyData} : ItOk p (ItzB K t u a b) (fun N H => AS p t fl a vs ds N H ∧ AS p u fl b ws es N H) (zipD ds es) fl where
  st := fun N N' H H' f k h => ⟨h.1.fit f k, h.2.fit f k⟩
  stop := fun N H h => by
    obtain ⟨h1, h2⟩ := h.1.sq (K := K)
    obtain ⟨k1, k2⟩ := h.2.sq (K := K)
    refine ⟨vs, ws, h1, k1, ?_⟩
    rw [zipD_len, h2.length, k2.length]
    omega
  go := fun N H i d ha h hd => by
    obtain ⟨h1, h2⟩ := h.1.sq (K := K)
    obtain ⟨k1, k2⟩ := h.2.sq (K := K)
    obtain ⟨x, y, hx, hy, rfl⟩ := zipD_at hd
    obtain ⟨v, hv, dv⟩ := h2.at_ hx
    obtain ⟨w, hw, dw⟩ := k2.at_ hy
    refine ⟨⟨vs, ws, v, w, h1, k1, hv, hw⟩, fun z H' ⟨T, x', y', e, hT, eH, q1, q2⟩ => ?_⟩
    subst e eH
    have r1 := q1 vs h1
    have r2 := q2 ws k1
    rw [hv] at r1
    rw [hw] at r2
    cases r1
    cases r2
    exact ⟨same_new hT, dn_pair ha hT dv dw⟩
/-- what is zipped: a tuple (true) or a list; kept (fl) or looked at -/
def srcD (t fl : Bool) (r : RV) : Option (List PyData) := match t with
  | true => match r.see with
    | some (.tuple ds) => some ds
    | _ => none
  | false => match (if fl then r.kp else r.see) with
    | some (.list ds) => some ds
    | _ => none
def xiZ (t u fl : Bool) (a : XA) : XI := ⟨fun ε K => a.run ε fun rs ε1 => ∃ r s ds es, rs = [r, s] ∧ srcD t fl r = some ds ∧ srcD u fl s = some es ∧ K (zipD ds es) fl ε1, fun h q => a.mono (fun _ _ ⟨r, s, ds, es, e1, e2, e3, k⟩ => ⟨r, s, ds, es, e1, e2, e3, h _ _ _ k⟩) q⟩
section
variable {Γ : Ga} {ε ε2 : List AV} {T T2 : Addr → Prop} {σ : L2.St} {H H2 : Hp}
theorem Den.src {t fl : Bool} {r : RV} {v : V} {ds : List PyData} (R : Rep Γ ε T σ H) (R2 : Rep Γ ε2 T2 σ H2) (s : Stp Γ ε T ε2 T2 σ H H2) (d : Den Γ ε2 T2 σ H r v H2) (e : srcD t fl r = some ds) : ∃ a vs, v = .ref a ∧ AS Γ.p t fl a vs ds (Mx Γ ε2 (if fl then T else T2) σ) H2 := by
  have less : ∀ a, (if fl then T else T2) a → T2 a := by
    cases fl with
    | true => exact s.t
    | false => exact fun _ h => h
  unfold srcD at e
  cases t with
  | true =>
    simp only at e
    split at e
    · rename_i x hx
      cases e
      obtain ⟨a, vs, rfl, h1, h2, h3, h4⟩ := (d.see hx).tup
      have f : Fit2 (Mx Γ ε2 T2 σ) (Mx Γ ε2 (if fl then T else T2) σ) H2 H2 := Fit2.less fun _ => mx_less less
      cases h4 with
      | tup n h z q =>
        have key : AT a vs ds (Mx Γ ε2 (if fl then T else T2) σ) H2 := ⟨f.rd n h1, h1, h3.go f⟩
        exact ⟨a, vs, rfl, key⟩
    · cases e
  | false =>
    simp only at e
    cases fl with
    | true =>
      split at e
      · rename_i x hx
        cases e
        have k := d.kept R R2 s hx
        cases k with
        | @lst a vs _ n h z q => exact ⟨a, vs, rfl, n, h, q⟩
      · cases e
    | false =>
      split at e
      · rename_i x hx
        cases e
        have np : ∀ a, v = .ref a → a ≠ Γ.p := fun a ea => by
          subst ea
          cases r with
          | d y =>
            cases hx
            cases d with
            | lst n h z q => exact fun ep => n (ep ▸ .inl R2.pm)
          | f xs =>
            obtain ⟨b, vs, e, h0, ht, _⟩ := d
            cases e
            exact tmp_p R2 ht
          | b y =>
            cases hx
            rcases d with d1 | ⟨y, e, _⟩ | ⟨b, vs, xs, e, _, hb, _⟩
            · cases d1 with
              | lst n h z q => exact fun ep => n (ep ▸ .inl R2.pm)
            · cases e
            · cases e
              exact hb
          | p => cases hx
          | o P => cases hx
        obtain ⟨a, vs, rfl, h1, h2, h3⟩ := (d.see hx).list
        exact ⟨a, vs, rfl, np a rfl, h1, h3⟩
      · cases e
theorem den2 {r s : RV} {vs : List V} (h : DenA Γ ε T σ H [r, s] vs H2) : ∃ v w, vs = [v, w] ∧ Den Γ ε T σ H r v H2 ∧ Den Γ ε T σ H s w H2 := by
  cases h with
  | cons h t =>
    cases t with
    | cons h2 t => cases t; exact ⟨_, _, rfl, h, h2⟩
theorem den1 {r : RV} {vs : List V} (h : DenA Γ ε T σ H [r] vs H2) : ∃ v, vs = [v] ∧ Den Γ ε T σ H r v H2 := by
  cases h with
  | cons h t => cases t; exact ⟨_, rfl, h⟩
theorem zip_up {a : XA} {t u fl : Bool} {Rr : It → Hp → Prop} {K : PySem.W.Frag} (R0 : Rep Γ ε T σ H)
    (k : (xiZ t u fl a).run ε fun ds fl ε' => ∀ J A T' H', Rep Γ ε' T' σ H' → Stp Γ ε T ε' T' σ H H' → ItOk Γ.p J A ds fl → A (Mx Γ ε' T' σ) H' → Rr J H') :
    upA a σ H fun vs H1 => ∃ a b xs ys, vs = [.ref a, .ref b] ∧ SqB K t H1 a xs ∧ SqB K u H1 b ys ∧ Rr (ItzB K t u a b) H1 :=
  upA1 R0 k fun rs xs ε1 T1 H1 ⟨r, s, ds, es, e1, e2, e3, g⟩ R1 s1 d1 => by
    subst e1
    obtain ⟨v, w, rfl, dv, dw⟩ := den2 d1
    obtain ⟨a1, vs, rfl, h1⟩ := dv.src R0 R1 s1 e2
    obtain ⟨b1, ws, rfl, h2⟩ := dw.src R0 R1 s1 e3
    refine ⟨a1, b1, vs, ws, rfl, h1.sq.1, h2.sq.1, ?_⟩
    have less : ∀ a, (if fl then T else T1) a → T1 a := by
      cases fl with
      | true => exact s1.t
      | false => exact fun _ h => h
    refine g _ _ (if fl then T else T1) H1 (R1.less less) ?_ it_zip ⟨h1, h2⟩
    cases fl with
    | true => exact s1.drop
    | false => exact s1
end
section
variable {X : Cx} {e e2 : Expr} {p pos tpos : Pos} {a : XA} {elts : List Expr} {kk : Nat}
theorem xi_zipB (t u fl : Bool) (ne : t ≠ u) (hg : Gl X "zip") (hm : X.mg "zip" = none) (h : PA X [e, e2] (upA a)) (hs : starEach [e, e2] X.env = (false, eval e X.env) :: starEach [e2] X.env := by rfl) (hpl : ((backTo pos (starEach [e2] X.env)).any fun x => x.1) = false := by rfl) : PI X (.Tuple elts kk tpos) (.Call (.Name "zip" p) [e, e2] [] pos) (upI (xiZ t u fl a)) :=
  pi_wk (pi_zipB t u ne hg hm h hs hpl) fun σ H R ⟨Γ, ε, T, R0, k⟩ => zip_up R0 k
theorem xi_zipA (t fl : Bool) (hg : Gl X "zip") (hm : X.mg "zip" = none) (h : PA X [e, e2] (upA a)) (hs : starEach [e, e2] X.env = (false, eval e X.env) :: starEach [e2] X.env := by rfl) (hpl : ((backTo pos (starEach [e2] X.env)).any fun x => x.1) = false := by rfl) : PI X (.Tuple elts kk tpos) (.Call (.Name "zip" p) [e, e2] [] pos) (upI (xiZ t t fl a)) :=
  pi_wk (RZ.pi_zipA hg hm h hs hpl) fun σ H R ⟨Γ, ε, T, R0, k⟩ => by
    have q := zip_up (K := X.K) R0 k
    obtain ⟨Γ', ε', T', R', q⟩ := q
    refine ⟨Γ', ε', T', R', a.mono (fun rs e g vs T2 H2 R2 s2 d2 => ?_) q⟩
    obtain ⟨b1, b2, xs, ys, e1, q1, q2, q3⟩ := g vs T2 H2 R2 s2 d2
    cases t with
    | true => exact ⟨b1, b2, xs, ys, e1, .inr ⟨q1, q2, q3⟩⟩
    | false => exact ⟨b1, b2, xs, ys, e1, .inl ⟨q1, q2, q3⟩⟩
end
theorem enD_at {xs : List PyData} {i : Nat} {d : PyData} (h : (enD xs)[i]? = some d) : ∃ x, xs[i]? = some x ∧ d = .tuple [.int (i : Nat), x] := by
  unfold enD at h
  obtain ⟨q, hq, rfl⟩ := mapget h
  rw [List.getElem?_zipIdx] at hq
  obtain ⟨x, hx, rfl⟩ := Option.map_eq_some_iff.mp hq
  exact ⟨x, hx, by simp⟩
theorem enD_len {xs : List PyData} : (enD xs).length = xs.length := by
  unfold enD
  rw [List.length_map, List.length_zipIdx]
theorem it_enT {K : PySem.W.Frag} {p a : Addr} {vs : List V} {ds : List PyData} : ItOk p (EtT K a) (AT a vs ds) (enD ds) true where
  st := fun N N' H H' f k h => h.fit f
  stop := fun N H h => ⟨vs, SqT.rd h.2.1, by rw [enD_len]; exact h.2.2.length⟩
  go := fun N H i d ha h hd => by
    obtain ⟨x, hx, rfl⟩ := enD_at hd
    obtain ⟨v, hv, dv⟩ := h.2.2.at_ hx
    refine ⟨⟨vs, v, SqT.rd h.2.1, hv⟩, fun z H' ⟨T, x', e, hT, eH, q⟩ => ?_⟩
    subst e eH
    have r := q vs (SqT.rd h.2.1)
    rw [hv] at r
    cases r
    exact ⟨same_new hT, dn_pair ha hT (.int _) dv⟩
def xiE (a : XA) : XI := ⟨fun ε K => a.run ε fun rs ε1 => ∃ ds, sees rs = some [.tuple ds] ∧ K (enD ds) true ε1, fun h q => a.mono (fun _ _ ⟨ds, e, k⟩ => ⟨ds, e, h _ _ _ k⟩) q⟩
theorem xi_en {X : Cx} {e : Expr} {p pos tpos : Pos} {a : XA} {elts : List Expr} {kk : Nat} (hg : Gl X "enumerate") (hm : X.mg "enumerate" = none) (h : PA X [e] (upA a)) (hs : starEach [e] X.env = [(false, eval e X.env)] := by rfl) : PI X (.Tuple elts kk tpos) (.Call (.Name "enumerate" p) [e] [] pos) (upI (xiE a)) :=
  pi_wk (pi_enumT hg hm h hs) fun σ H R ⟨Γ, ε, T, R0, k⟩ => upA1 R0 k fun rs xs ε1 T1 H1 ⟨ds, e1, g⟩ R1 s1 d1 => by
    obtain ⟨v, rfl, h⟩ := see1 (d1.see e1)
    obtain ⟨b, vs, rfl, h1, h2, h3, h4⟩ := h.tup
    cases h4 with
    | tup n h z q => exact ⟨b, rfl, ⟨vs, SqT.rd h1⟩, g _ _ T1 H1 R1 s1 it_enT ⟨n, h1, h3⟩⟩
end Cs
set_option maxHeartbeats 4000000
/-! Targets, comprehensions over data. -/
namespace Cs
open PySem L2 PyProof.Rows
def wipeA (ε : List AV) : List Nat → List AV
  | [] => ε
  | v :: vs => (wipeA ε vs).set v .u
theorem wipeA_len {ε : List AV} : ∀ {vs : List Nat}, (wipeA ε vs).length = ε.length
  | [] => rfl
  | v :: vs => by
    show ((wipeA ε vs).set v .u).length = _
    rw [List.length_set, wipeA_len]
theorem wipeA_in {ε : List AV} {i : Nat} {e : AV} : ∀ {vs : List Nat}, i ∈ vs → (wipeA ε vs)[i]? = some e → e = .u
  | v :: vs, h, q => by
    have q' : ((wipeA ε vs).set v .u)[i]? = some e := q
    by_cases z : v = i
    · subst z
      rw [List.getElem?_set] at q'
      rw [if_pos rfl] at q'
      split at q'
      · cases q'; rfl
      · cases q'
    · rw [List.getElem?_set_ne z] at q'
      rcases List.mem_cons.mp h with h | h
      · exact absurd h.symm z
      · exact wipeA_in h q'
theorem wipeA_out {ε : List AV} {i : Nat} : ∀ {vs : List Nat}, i ∉ vs → (wipeA ε vs)[i]? = ε[i]?
  | [], _ => rfl
  | v :: vs, h => by
    show ((wipeA ε vs).set v .u)[i]? = _
    rw [List.getElem?_set_ne (fun z : v = i => h (z ▸ List.mem_cons_self)), wipeA_out fun z => h (List.mem_cons_of_mem _ z)]
theorem wipe_out {σ : L2.St} {i : Nat} : ∀ {vs : List Nat}, i ∉ vs → (wipe σ vs)[i]? = σ[i]?
  | [], _ => rfl
  | v :: vs, h => by
    show ((wipe σ vs).set v none)[i]? = _
    rw [List.getElem?_set_ne (fun z : v = i => h (z ▸ List.mem_cons_self)), wipe_out fun z => h (List.mem_cons_of_mem _ z)]
section
variable {Γ : Ga} {ε : List AV} {T : Addr → Prop} {σ τ : L2.St} {H H2 : Hp} {vs : List Nat}
/-- what is known with some slots forgotten, of a state that is the same at the others -/
theorem Rep.forget (R : Rep Γ ε T σ H) (hl : τ.length = σ.length) (h : ∀ i, i ∉ vs → τ[i]? = σ[i]?) : Rep Γ (wipeA ε vs) T τ H ∧ ∀ a, Mx Γ (wipeA ε vs) T τ a → Mx Γ ε T σ a := by
  have out : ∀ {i : Nat} {xs : List PyData}, (wipeA ε vs)[i]? = some (.l xs) → i ∉ vs ∧ ε[i]? = some (.l xs) := fun {i xs} q => by
    by_cases z : i ∈ vs
    · cases wipeA_in z q
    · rw [wipeA_out z] at q
      exact ⟨z, q⟩
  have own : ∀ a, OwnS (wipeA ε vs) τ a → OwnS ε σ a := by
    rintro a ⟨i, xs, q1, q2⟩
    obtain ⟨z, q1⟩ := out q1
    rw [h i z] at q2
    exact ⟨i, xs, q1, q2⟩
  have mx : ∀ a, Mx Γ (wipeA ε vs) T τ a → Mx Γ ε T σ a := by
    rintro a (z | z | z)
    · exact .inl z
    · exact .inr (.inl (own a z))
    · exact .inr (.inr z)
  refine ⟨⟨by rw [wipeA_len, hl, R.ln], R.pm, R.hp, R.hp0, R.ext, R.ml, fun a ha => ?_, fun i j xs ys h1 h2 e => ?_, fun i e q => ?_, Γ.fst _ _ _ _ (Fit2.less mx) R.fr, R.tz⟩, mx⟩
  · obtain ⟨t1, t2, t3⟩ := R.tmp a ha
    exact ⟨t1, t2, fun z => t3 (own a z)⟩
  · obtain ⟨z1, h1⟩ := out h1
    obtain ⟨z2, h2⟩ := out h2
    rw [h i z1, h j z2] at e
    exact R.dis i j xs ys h1 h2 e
  · by_cases z : i ∈ vs
    · rw [wipeA_in z q]
      trivial
    · rw [wipeA_out z] at q
      rw [h i z]
      exact (R.sl i e q).go (Fit2.less mx) (fun _ h => h) (fun _ _ _ _ _ h => h)
/-- data put into a slot -/
theorem Rep.put {i : Nat} {e : AV} {v : V} (R : Rep Γ ε T σ H) (h : Slot Γ (Mx Γ ε T σ) H e (some (some v))) (hn : ∀ xs, e ≠ .l xs) : Rep Γ (ε.set i e) T (σ.set i (some v)) H ∧ ∀ a, Mx Γ (ε.set i e) T (σ.set i (some v)) a → Mx Γ ε T σ a := by
  have out : ∀ {j : Nat} {xs : List PyData}, (ε.set i e)[j]? = some (.l xs) → i ≠ j ∧ ε[j]? = some (.l xs) := fun {j xs} q => by
    by_cases z : i = j
    · subst z
      rw [List.getElem?_set, if_pos rfl] at q
      split at q
      · cases q
        exact absurd rfl (hn xs)
      · cases q
    · rw [List.getElem?_set_ne z] at q
      exact ⟨z, q⟩
  have own : ∀ a, OwnS (ε.set i e) (σ.set i (some v)) a → OwnS ε σ a := by
    rintro a ⟨j, xs, q1, q2⟩
    obtain ⟨z, q1⟩ := out q1
    rw [List.getElem?_set_ne z] at q2
    exact ⟨j, xs, q1, q2⟩
  have mx : ∀ a, Mx Γ (ε.set i e) T (σ.set i (some v)) a → Mx Γ ε T σ a := by
    rintro a (z | z | z)
    · exact .inl z
    · exact .inr (.inl (own a z))
    · exact .inr (.inr z)
  refine ⟨⟨by rw [List.length_set, List.length_set, R.ln], R.pm, R.hp, R.hp0, R.ext, R.ml, fun a ha => ?_, fun k j xs ys h1 h2 q => ?_, fun j e' q => ?_, Γ.fst _ _ _ _ (Fit2.less mx) R.fr, R.tz⟩, mx⟩
  · obtain ⟨t1, t2, t3⟩ := R.tmp a ha
    exact ⟨t1, t2, fun z => t3 (own a z)⟩
  · obtain ⟨z1, h1⟩ := out h1
    obtain ⟨z2, h2⟩ := out h2
    rw [List.getElem?_set_ne z1, List.getElem?_set_ne z2] at q
    exact R.dis k j xs ys h1 h2 q
  · by_cases z : i = j
    · subst z
      rw [List.getElem?_set, if_pos rfl] at q
      split at q
      · rename_i hi
        cases q
        rw [List.getElem?_set_self (by rw [← R.ln]; exact hi)]
        exact h.go (Fit2.less mx) (fun _ h => h) (fun _ _ _ _ _ h => h)
      · cases q
    · rw [List.getElem?_set_ne z] at q
      rw [List.getElem?_set_ne z]
      exact (R.sl j e' q).go (Fit2.less mx) (fun _ h => h) (fun _ _ _ _ _ h => h)
/-- a temporary list changed -/
theorem Rep.mutT {a : Addr} {ys zs : List V} (R : Rep Γ ε T σ H) (ha : T a) (hy : H a = some (.lst ys)) : Rep Γ ε T σ (upd H a (.lst zs)) := by
  obtain ⟨t1, t2, t3⟩ := R.tmp a ha
  have ne : a ≠ Γ.p := tmp_p R ha
  have k : ∀ b o, ¬ Mx Γ ε T σ b → H b = some o → upd H a (.lst zs) b = some o := fun b o n h => by
    rw [upd_ne (fun e : b = a => n (e ▸ .inr (.inr ha)))]
    exact h
  have f : Fit2 (Mx Γ ε T σ) (Mx Γ ε T σ) H (upd H a (.lst zs)) := ⟨fun _ h => .inl h, k⟩
  refine ⟨R.ln, R.pm, ?_, R.hp0, fun b o n h => ?_, R.ml, fun b hb => ?_, R.dis, fun i e q => (R.sl i e q).go f (fun n h => h.put ne) (fun xs b e1 e2 o h => ?_), Γ.fst _ _ _ _ f R.fr, tabs_exb R.tz hy fun b o nb h => by rw [upd_ne nb]; exact h⟩
  · obtain ⟨o, h⟩ := R.hp
    exact ⟨o, by rw [upd_ne ne.symm]; exact h⟩
  · rw [upd_ne (ne_of_none h t1)]
    exact R.ext b o n h
  · obtain ⟨u1, ⟨ws, u2⟩, u3⟩ := R.tmp b hb
    refine ⟨u1, ?_, u3⟩
    by_cases z : b = a
    · subst z
      exact ⟨zs, upd_same⟩
    · exact ⟨ws, by rw [upd_ne z]; exact u2⟩
  · subst e1
    have : b ≠ a := by
      rintro rfl
      exact t3 ⟨i, xs, q, e2⟩
    rw [upd_ne this]
    exact h
end
/-! ### targets -/
structure XG where
  is : List Nat
  run : PyData → List AV → (List AV → Prop) → Prop
  mono : ∀ {d : PyData} {ε : List AV} {K K' : List AV → Prop}, (∀ e, K e → K' e) → run d ε K → run d ε K'
  prog : ∀ {d : PyData} {ε : List AV} {K : List AV → Prop}, run d ε K → ∃ e, K e
structure XGs where
  is : List Nat
  run : List PyData → List AV → (List AV → Prop) → Prop
  mono : ∀ {d : List PyData} {ε : List AV} {K K' : List AV → Prop}, (∀ e, K e → K' e) → run d ε K → run d ε K'
  prog : ∀ {d : List PyData} {ε : List AV} {K : List AV → Prop}, run d ε K → ∃ e, K e
  len : Nat
  lenOk : ∀ {d : List PyData} {ε : List AV} {K : List AV → Prop}, run d ε K → d.length = len
def GK (Γ : Ga) (ε : List AV) (T : Addr → Prop) (σ : L2.St) (H : Hp) (is : List Nat) (Q : L2.St → Hp → Prop) (ε' : List AV) : Prop :=
  ∀ σ', Rep Γ ε' T σ' H → (∀ a, Mx Γ ε' T σ' a → Mx Γ ε T σ a) → σ'.length = σ.length → (∀ i, i ∉ is → σ'[i]? = σ[i]?) → Q σ' H
def upG (g : XG) : TG := fun v σ H Q => ∃ Γ ε T d, Rep Γ ε T σ H ∧ Dn (Mx Γ ε T σ) H v d ∧ g.run d ε (GK Γ ε T σ H g.is Q)
def upGs (g : XGs) : TGs := fun vs σ H Q => ∃ Γ ε T ds, Rep Γ ε T σ H ∧ DnA (Mx Γ ε T σ) H vs ds ∧ g.run ds ε (GK Γ ε T σ H g.is Q)
theorem pg_wk {X : Cx} {tg : Expr} {t t' : TG} (h : PG X tg t) (w : ∀ v σ H Q, t' v σ H Q → t v σ H Q) : PG X tg t' := ⟨fun pins s σ H v u Q I r q => h.run pins s σ H v u Q I r (w v σ H Q q)⟩
theorem pgs_wk {X : Cx} {tg : List Expr} {t t' : TGs} (h : PGs X tg t) (w : ∀ v σ H Q, t' v σ H Q → t v σ H Q) : PGs X tg t' := ⟨fun pins s σ H v u Q I r q => h.run pins s σ H v u Q I r (w v σ H Q q)⟩
def xgN (i : Nat) : XG := ⟨[i], fun d ε K => K (ε.set i (.d d)), fun h k => h _ k, fun k => ⟨_, k⟩⟩
def xgNil : XGs := ⟨[], fun ds ε K => ds = [] ∧ K ε, fun h k => ⟨k.1, h _ k.2⟩, fun k => ⟨_, k.2⟩, 0, fun k => by rw [k.1]; rfl⟩
def xgCons (g : XG) (gs : XGs) : XGs := ⟨g.is ++ gs.is, fun ds ε K => ∃ d r, ds = d :: r ∧ g.run d ε fun ε1 => gs.run r ε1 K, fun h ⟨d, r, e, k⟩ => ⟨d, r, e, g.mono (fun _ q => gs.mono (fun _ w => h _ w) q) k⟩, fun ⟨d, r, e, k⟩ => (g.prog k).elim fun _ q => gs.prog q, gs.len + 1, fun ⟨d, r, e, k⟩ => (g.prog k).elim fun _ q => by rw [e, List.length_cons, gs.lenOk q]⟩
def xgT (gs : XGs) : XG := ⟨gs.is, fun d ε K => ∃ ds, d = .tuple ds ∧ gs.run ds ε K, fun h ⟨ds, e, k⟩ => ⟨ds, e, gs.mono h k⟩, fun ⟨ds, e, k⟩ => gs.prog k⟩
theorem GK.nest {Γ : Ga} {ε ε1 : List AV} {T : Addr → Prop} {σ σ1 : L2.St} {H : Hp} {is js : List Nat} {Q : L2.St → Hp → Prop} {e : List AV} (mx : ∀ a, Mx Γ ε1 T σ1 a → Mx Γ ε T σ a) (hl : σ1.length = σ.length) (hs : ∀ i, i ∉ is → σ1[i]? = σ[i]?)
    (k : GK Γ ε T σ H (is ++ js) Q e) : GK Γ ε1 T σ1 H js Q e := fun σ2 R2 m2 l2 h2 => k σ2 R2 (fun a z => mx a (m2 a z)) (l2.trans hl) fun i hi => by
  rw [h2 i fun z => hi (List.mem_append_right _ z), hs i fun z => hi (List.mem_append_left _ z)]
theorem xg_n {X : Cx} {tg : Expr} {i : Nat} (h : PG X tg (gName i)) : PG X tg (upG (xgN i)) := pg_wk h fun v σ H Q ⟨Γ, ε, T, d, R, dn, k⟩ => by
  obtain ⟨R', mx⟩ := R.put (i := i) (e := .d d) (v := v) ⟨v, rfl, dn⟩ (fun _ => nofun)
  exact k _ R' mx List.length_set fun j hj => by rw [List.getElem?_set_ne fun z : i = j => hj (z ▸ List.mem_cons_self)]
theorem xgs_nil {X : Cx} : PGs X [] (upGs xgNil) := pgs_wk pgs_nil fun vs σ H Q ⟨Γ, ε, T, ds, R, dn, e, k⟩ => by
  subst e
  cases dn
  exact ⟨rfl, k σ R (fun _ h => h) rfl fun _ _ => rfl⟩
theorem xgs_cons {X : Cx} {e : Expr} {es : List Expr} {g : XG} {gs : XGs} (h1 : PG X e (upG g)) (h2 : PGs X es (upGs gs)) (hs : (assignEach (e :: es) X.env).map (·.2) = assign e X.env :: (assignEach es X.env).map (·.2) := by rfl) : PGs X (e :: es) (upGs (xgCons g gs)) :=
  pgs_wk (pgs_cons h1 h2 hs) fun vs σ H Q ⟨Γ, ε, T, ds, R, dn, d, r, e, k⟩ => by
    subst e
    cases dn with
    | cons dn t =>
      refine ⟨_, _, rfl, Γ, ε, T, d, R, dn, g.mono (fun ε1 q σ1 R1 m1 l1 s1 => ?_) k⟩
      exact ⟨Γ, ε1, T, r, R1, t.go (Fit2.less m1), gs.mono (fun ε2 w => w.nest m1 l1 s1) q⟩
theorem xg_t {X : Cx} {K : PySem.W.Frag} {tg : Expr} {gs : XGs} (h : PG X tg (gTup K gs.len (upGs gs))) : PG X tg (upG (xgT gs)) := pg_wk h fun v σ H Q ⟨Γ, ε, T, d, R, dn, ds, e, k⟩ => by
  subst e
  cases dn with
  | @tup a xs _ n h z r => exact ⟨a, xs, rfl, SqT.rd h, by rw [r.length]; exact gs.lenOk k, Γ, ε, T, ds, R, r, k⟩
/-! ### comprehensions -/
def xYes : XT := ⟨fun ε K => K true ε, fun h k => h _ _ k⟩
theorem pts_wk {X : Cx} {ifs : List Expr} {t t' : TT} (h : PTs X ifs t) (w : ∀ σ H Q, t' σ H Q → t σ H Q) : PTs X ifs t' := ⟨fun pins s σ H Q I q => h.run pins s σ H Q I (w σ H Q q)⟩
theorem xts_nil {X : Cx} : PTs X [] (upT xYes) := pts_wk pts_nil fun σ H Q ⟨Γ, ε, T, R, k⟩ => k T H R (.refl R)
theorem xts_one {X : Cx} {c : Expr} {t : XT} (h : PT X c (upT t)) : PTs X [c] (upT t) := pts_one h
/-- one turn -/
def lcTurn (g : XG) (tt : XT) (te : XE) (vs : List Nat) (d : PyData) (ε : List AV) (Y : PyData → List AV → Prop) (Nn : List AV → Prop) : Prop :=
  g.run d ε fun ε2 => tt.run ε2 fun b ε3 => if b = true then te.run ε3 fun r ε4 => ∃ x, r.kp = some x ∧ Y x (wipeA ε4 vs) else Nn (wipeA ε3 vs)
@[irreducible] def xLc (it : XI) (g : XG) (tt : XT) (te : XE) (vs : List Nat) : XE := ⟨fun ε K => it.run ε fun ds fl ε1 => ds.length ≤ 1000 ∧ ∃ W : Nat → List PyData → List AV → Prop, (∃ e, W 0 [] (wipeA e vs) ∧ wipeA e vs = wipeA ε1 vs) ∧
    (∀ acc e, W ds.length acc (wipeA e vs) → K (.f acc) (wipeA e vs)) ∧
    ∀ i d acc e, ds[i]? = some d → W i acc (wipeA e vs) → lcTurn g tt te vs d (wipeA e vs) (fun x e' => W (i + 1) (acc ++ [x]) e') fun e' => W (i + 1) acc e',
  fun h q => it.mono (fun ds fl ε1 ⟨l, W, w0, wn, ws⟩ => ⟨l, W, w0, fun acc e w => h _ _ (wn acc e w), ws⟩) q⟩
theorem xLc_run {it : XI} {g : XG} {tt : XT} {te : XE} {vs : List Nat} {ε : List AV} {K : RV → List AV → Prop} : (xLc it g tt te vs).run ε K = it.run ε fun ds fl ε1 => ds.length ≤ 1000 ∧ ∃ W : Nat → List PyData → List AV → Prop, (∃ e, W 0 [] (wipeA e vs) ∧ wipeA e vs = wipeA ε1 vs) ∧
    (∀ acc e, W ds.length acc (wipeA e vs) → K (.f acc) (wipeA e vs)) ∧
    ∀ i d acc e, ds[i]? = some d → W i acc (wipeA e vs) → lcTurn g tt te vs d (wipeA e vs) (fun x e' => W (i + 1) (acc ++ [x]) e') fun e' => W (i + 1) acc e' := by
  unfold xLc
  rfl
theorem xe_lcT {it : XI} {g : XG} {tt : XT} {te : XE} {vs : List Nat} {σ : L2.St} {H : Hp} {Q : VK} (hv : ∀ i ∈ g.is, i ∈ vs) (h : up (xLc it g tt te vs) σ H Q) : tLc (upI it) (upG g) (upT tt) (up te) vs σ H Q := by
  obtain ⟨Γ, ε, T, R, k⟩ := h
  rw [xLc_run] at k
  refine ⟨Γ, ε, T, R, it.mono (fun ds fl ε1 q J A T1 H1 R1 s1 ok ha D hD => ?_) k⟩
  obtain ⟨hl, W, ⟨e0, w0, z0⟩, wn, ws⟩ := q
  have nD : ¬ Mx Γ ε1 T1 σ D := R1.not_x hD
  have RT : Rep Γ ε1 (fun a => T1 a ∨ a = D) σ (upd H1 D (.lst [])) := R1.temp hD
  have sN := same_new (o := .lst ([] : List V)) hD
  generalize hT1 : (fun a => T1 a ∨ a = D) = T2 at RT
  have hT : T2 D := by rw [← hT1]; exact .inr rfl
  have sub : ∀ a, T1 a → T2 a := fun a h => by rw [← hT1]; exact .inl h
  have m0 : ∀ a, Mx Γ (wipeA ε1 vs) T2 σ a → Mx Γ ε1 T1 σ a ∨ H1 a = none := fun a z => by
    have := (R1.forget (vs := vs) (τ := σ) rfl fun _ _ => rfl).2 a
    rcases z with z | z | z
    · exact .inl (.inl z)
    · exact .inl (this (.inr (.inl z)))
    · rw [← hT1] at z
      rcases z with z | rfl
      · exact .inl (.inr (.inr z))
      · exact .inr hD
  refine ⟨fun i m H => m = ds.length - i ∧ i ≤ ds.length ∧ ∃ acc e ys, W i acc (wipeA e vs) ∧ acc.length ≤ i ∧ Rep Γ (wipeA e vs) T2 σ H ∧ Stp Γ ε1 T1 (wipeA e vs) T2 σ H1 H ∧ H D = some (.lst ys) ∧ DnA (Mx Γ (wipeA e vs) T2 σ) H ys acc,
    ⟨ds.length, by simp, Nat.zero_le _, [], e0, [], w0, Nat.le_refl _, ?_, ?_, upd_same, .nil⟩, ?_⟩
  · rw [z0]
    exact (RT.forget (vs := vs) (τ := σ) rfl fun _ _ => rfl).1
  · rw [z0]
    exact ⟨fun b o _ h => sN _ _ h, (R1.same sN).hp, (R1.same sN).tz, sub, m0⟩
  · rintro i m H2 ⟨rfl, hi, acc, e, ys, w, la, R2, s2, hd, dn⟩
    have ha2 : A (Mx Γ (wipeA e vs) T2 σ) H2 := ok.st _ _ _ _ (s2.fit R1.pm) (fun _ b o nb nt h => s2.k b o ⟨fun _ => nb, zp_not R1.tz h nt⟩ h) ha
    by_cases lt : i < ds.length
    · have hdi := List.getElem?_eq_getElem lt
      obtain ⟨go, yl⟩ := ok.go _ H2 i _ R2.alloc ha2 hdi
      refine .inr ⟨go, fun H' => i + 1 ≤ ds.length ∧ ∃ acc e ys, W (i + 1) acc (wipeA e vs) ∧ acc.length ≤ i + 1 ∧ Rep Γ (wipeA e vs) T2 σ H' ∧ Stp Γ ε1 T1 (wipeA e vs) T2 σ H1 H' ∧ H' D = some (.lst ys) ∧ DnA (Mx Γ (wipeA e vs) T2 σ) H' ys acc, fun H' p' => ⟨ds.length - (i + 1), by omega, rfl, p'.1, p'.2⟩, fun x H3 y => ?_⟩
      obtain ⟨s23, dx⟩ := yl x H3 y
      have R3 := R2.same s23
      have s3 := s2.same s23
      have hl3 : (wipe σ vs).length = σ.length := wipe_length σ vs
      have fo := R3.forget (vs := vs) (τ := wipe σ vs) hl3 fun i hi => wipe_out hi
      have ww : wipeA (wipeA e vs) vs = wipeA e vs := by
        refine List.ext_getElem? fun j => ?_
        by_cases z : j ∈ vs
        · cases q : (wipeA e vs)[j]? with
          | none =>
            rw [List.getElem?_eq_none_iff] at q ⊢
            rw [wipeA_len]
            exact q
          | some u =>
            cases q2 : (wipeA (wipeA e vs) vs)[j]? with
            | none =>
              rw [List.getElem?_eq_none_iff, wipeA_len] at q2
              have := (List.getElem?_eq_some_iff.mp q).1
              omega
            | some u2 => rw [wipeA_in z q, wipeA_in z q2]
        · rw [wipeA_out z]
      rw [ww] at fo
      obtain ⟨R4, m4⟩ := fo
      have hd3 := s23 _ _ hd
      have dn3 := dn.go (Fit2.same (N := Mx Γ (wipeA e vs) T2 σ) s23)
      refine ⟨Γ, wipeA e vs, T2, _, R4, dx.go (Fit2.less m4), g.mono (fun ε2 q σ2 R5 m5 l5 h5 => ?_) (ws i _ acc e hdi w)⟩
      have back : ∀ j, j ∉ vs → σ2[j]? = σ[j]? := fun j hj => by rw [h5 j fun z => hj (hv j z), wipe_out hj]
      have len5 : σ.length = σ2.length := by rw [l5, hl3]
      -- the end of a turn
      have fin : ∀ {ε4 : List AV} {H4 : Hp}, Rep Γ ε4 T2 σ2 H4 → Stp Γ ε2 T2 ε4 T2 σ2 H3 H4 → ∀ {acc' : List PyData} {ys' : List V}, W (i + 1) acc' (wipeA ε4 vs) → acc'.length ≤ i + 1 → DnA (Mx Γ ε4 T2 σ2) H4 ys' acc' →
          i + 1 ≤ ds.length ∧ ∃ acc e ys, W (i + 1) acc (wipeA e vs) ∧ acc.length ≤ i + 1 ∧ Rep Γ (wipeA e vs) T2 σ (upd H4 D (.lst ys')) ∧ Stp Γ ε1 T1 (wipeA e vs) T2 σ H1 (upd H4 D (.lst ys')) ∧ upd H4 D (.lst ys') D = some (.lst ys) ∧ DnA (Mx Γ (wipeA e vs) T2 σ) (upd H4 D (.lst ys')) ys acc := fun {ε4 H4} R6 s6 {acc' ys'} w' l' d' => by
        have hd4 := s6.k _ _ ⟨fun _ => tmp_p R5 hT, zp_not R5.tz hd3 nofun⟩ hd3
        have R7 := R6.mutT (zs := ys') hT hd4
        obtain ⟨R8, m8⟩ := R7.forget (vs := vs) (τ := σ) len5 fun j hj => (back j hj).symm
        have f7 : Fit2 (Mx Γ ε4 T2 σ2) (Mx Γ (wipeA ε4 vs) T2 σ) H4 (upd H4 D (.lst ys')) := ⟨fun a z => .inl (m8 a z), fun b o n h => by
          rw [upd_ne fun z : b = D => n (z ▸ .inr (.inr hT))]
          exact h⟩
        refine ⟨by omega, acc', ε4, ys', w', l', R8, ⟨fun b o n h => ?_, R8.hp, R8.tz, sub, fun a z => ?_⟩, upd_same, d'.go f7⟩
        · rw [upd_ne (ne_of_none h hD)]
          exact s6.k b o n (s23 _ _ (s2.k b o n h))
        · rcases s6.m a (m8 a z) with z | z
          · exact s2.m a (m4 a (m5 a z))
          · right
            exact (s2.same s23).none R1.hp z
      refine ⟨?_, Γ, ε2, T2, R5, tt.mono (fun b ε3 q3 T3 H4 R6 s6 => ?_) q⟩
      · refine List.ext_getElem? fun j => ?_
        by_cases z : j ∈ vs
        · have wn : ∀ {τ : L2.St} {vs : List Nat}, j ∈ vs → j < τ.length → (wipe τ vs)[j]? = some none := by
            intro τ vs hj hl
            induction vs with
            | nil => cases hj
            | cons v vs ih =>
              show ((wipe τ vs).set v none)[j]? = some none
              by_cases z : v = j
              · subst z
                exact List.getElem?_set_self (by rw [wipe_length]; exact hl)
              · rw [List.getElem?_set_ne z]
                rcases List.mem_cons.mp hj with h | h
                · exact absurd h.symm z
                · exact ih h
          by_cases lj : j < σ.length
          · rw [wn z (by rw [← len5]; exact lj), wn z lj]
          · rw [List.getElem?_eq_none_iff.mpr (by rw [wipe_length, ← len5]; omega), List.getElem?_eq_none_iff.mpr (by rw [wipe_length]; omega)]
        · rw [wipe_out z, wipe_out z, back j z]
      · split at q3
        · rw [if_pos (by assumption)]
          refine up1 R6 q3 fun r y ε4 T4 H5 ⟨x', ex, w'⟩ R7 s7 d7 => ?_
          have sA := s6.trans R5.hp s7
          have dy := (d7.early (H := H3) fun a => s6.none R5.hp).kept R5 R7 sA ex
          have R8 := R7.less (T' := T2) sA.t
          have s8 := sA.drop
          have hd5 := s8.k _ _ ⟨fun _ => tmp_p R5 hT, zp_not R5.tz hd3 nofun⟩ hd3
          have dn5 : DnA (Mx Γ ε4 T2 σ2) H5 ys acc := (dn3.go (Fit2.less fun a z => m4 a (m5 a z))).go (s8.fit R5.pm)
          refine ⟨ys, hd5, ?_, fin R8 s8 w' (by rw [List.length_append]; simp only [List.length_cons, List.length_nil]; omega) (dn5.append (.cons dy .nil))⟩
          rw [dn.length]
          exact Nat.lt_of_lt_of_le (by omega : acc.length < 1000) (by decide)
        · rw [if_neg (by assumption)]
          have R8 := R6.less (T' := T2) s6.t
          have s8 := s6.drop
          have hd5 := s8.k _ _ ⟨fun _ => tmp_p R5 hT, zp_not R5.tz hd3 nofun⟩ hd3
          have dn5 : DnA (Mx Γ ε3 T2 σ2) H4 ys acc := (dn3.go (Fit2.less fun a z => m4 a (m5 a z))).go (s8.fit R5.pm)
          have := fin R8 s8 q3 (by omega) dn5
          have same : upd H4 D (.lst ys) = H4 := by
            funext b
            unfold upd
            split
            · rename_i z; rw [z, hd5]
            · rfl
          rw [same] at this
          exact this
    · have e2 : i = ds.length := by omega
      subst e2
      refine .inl ⟨ok.stop _ H2 ha2, ?_⟩
      exact wn acc e w (.ref D) T2 H2 R2 (s1.trans R.hp s2) ⟨D, ys, rfl, s1.none R.hp hD, hT, hd, by rw [dn.length]; omega, dn⟩
section
variable {X : Cx} {elt tg iter : Expr} {ifs : List Expr} {scope : Scope} {own : List (Str × Nat)} {pos : Pos} {it : XI} {g : XG} {tt : XT} {te : XE}
theorem xe_lc (hc : X.calm = true) (hN : X.N.Nodup) (hi : PI X tg iter (upI it)) (ok : BlkOk X.N X.env.scope scope own)
    (hg : ∀ (s : Shared) (H : Hp) (C : Addr) (cl : List (Str × Addr)) (fp : List Addr), PG (X.blk s H scope (compEnvC scope cl C X.env) fp) tg (upG g)) (ht : ∀ (s : Shared) (H : Hp) (C : Addr) (cl : List (Str × Addr)) (fp : List Addr), PTs (X.blk s H scope (compEnvC scope cl C X.env) fp) ifs (upT tt))
    (he : ∀ (s : Shared) (H : Hp) (C : Addr) (cl : List (Str × Addr)) (fp : List Addr), PE (X.blk s H scope (compEnvC scope cl C X.env) fp) elt (up te)) (hv : ∀ i ∈ g.is, i ∈ own.map (·.2)) (hs : ∀ x, foldedSetIterable iter X.env x = pure x := by intro _; rfl) :
    PE X (.ListComp elt [⟨tg, iter, ifs, 0⟩] scope pos) (up (xLc it g tt te (own.map (·.2)))) := pe_wk (pe_lc hc hN hi ok hg ht he hs) fun _ _ _ h => xe_lcT hv h
end
end Cs
set_option maxHeartbeats 4000000
/-! Statements, calls, defs over data. -/
namespace Cs
open PySem L2 PyProof.Rows
abbrev TN : Addr → Prop := fun _ => False
structure XEnds where
  nx : List AV → Prop
  rt : RV → List AV → Prop
  bk : List AV → Prop := fun _ => False
  ct : List AV → Prop := fun _ => False
structure XS where
  run : XEnds → List AV → Prop
  mono : ∀ {D D' : XEnds} {ε : List AV}, (∀ e, D.nx e → D'.nx e) → (∀ r e, D.rt r e → D'.rt r e) → (∀ e, D.bk e → D'.bk e) → (∀ e, D.ct e → D'.ct e) → run D ε → run D' ε
def upD (Γ : Ga) (D : Ends) : XEnds where
  nx := fun ε' => ∀ σ' H', Rep Γ ε' TN σ' H' → D.nx σ' H'
  rt := fun r ε' => ∀ v σ' T' H', Rep Γ ε' T' σ' H' → Den Γ ε' T' σ' Γ.H0 r v H' → D.rt v H'
  bk := fun ε' => ∀ σ' H', Rep Γ ε' TN σ' H' → D.bk σ' H'
  ct := fun ε' => ∀ σ' H', Rep Γ ε' TN σ' H' → D.ct σ' H'
def upS (t : XS) : TS := fun D σ H => ∃ Γ ε, Rep Γ ε TN σ H ∧ t.run (upD Γ D) ε
theorem ps_wk {X : Cx} {st : Stmt} {t t' : TS} (h : PS X st t) (w : ∀ D σ H, t' D σ H → t D σ H) : PS X st t' := ⟨fun pins s σ H D I q => h.run pins s σ H D I (w D σ H q)⟩
theorem pss_wk {X : Cx} {st : List Stmt} {t t' : TS} (h : PSs X st t) (w : ∀ D σ H, t' D σ H → t D σ H) : PSs X st t' := ⟨fun pins s σ H D I q => h.run pins s σ H D I (w D σ H q)⟩
theorem Rep.nil {Γ : Ga} {ε : List AV} {T : Addr → Prop} {σ : L2.St} {H : Hp} (R : Rep Γ ε T σ H) : Rep Γ ε TN σ H := R.less fun _ h => h.elim
def xNext : XS := ⟨fun D ε => D.nx ε, fun h _ _ _ q => h _ q⟩
def xSeq (t u : XS) : XS := ⟨fun D ε => t.run { D with nx := u.run D } ε, fun {D D' ε} h1 h2 h3 h4 q => t.mono (D := { D with nx := u.run D }) (D' := { D' with nx := u.run D' }) (fun _ w => u.mono h1 h2 h3 h4 w) h2 h3 h4 q⟩
def xNev : XS := ⟨fun _ _ => False, fun _ _ _ _ q => q⟩
theorem xss_nil {X : Cx} : PSs X [] (upS xNext) := pss_wk pss_nil fun D σ H ⟨Γ, ε, R, k⟩ => k σ H R
theorem xss_cons {X : Cx} {st : Stmt} {rest : List Stmt} {t u : XS} (h1 : PS X st (upS t)) (h2 : PSs X rest (upS u)) : PSs X (st :: rest) (upS (xSeq t u)) := pss_wk (pss_cons h1 h2) fun D σ H ⟨Γ, ε, R, k⟩ =>
  ⟨Γ, ε, R, t.mono (D := { upD Γ D with nx := u.run (upD Γ D) }) (D' := upD Γ { D with nx := upS u D }) (fun e q σ' H' R' => ⟨Γ, e, R', q⟩) (fun _ _ q => q) (fun _ q => q) (fun _ q => q) k⟩
theorem xss_one {X : Cx} {st : Stmt} {t : XS} (h1 : PS X st (upS t)) : PSs X [st] (upS t) := pss_one h1
theorem xs_nev {X : Cx} {st : Stmt} : PS X st (upS xNev) := ⟨fun _ _ _ _ _ _ ⟨_, _, _, h⟩ => h.elim⟩
theorem xs_pass {X : Cx} {pos : Pos} : PS X (.Pass pos) (upS xNext) := ps_wk ps_pass fun D σ H ⟨Γ, ε, R, k⟩ => k σ H R
def xBrk : XS := ⟨fun D ε => D.bk ε, fun _ _ h _ q => h _ q⟩
def xCnt : XS := ⟨fun D ε => D.ct ε, fun _ _ _ h q => h _ q⟩
theorem xs_break {X : Cx} {pos : Pos} : PS X (.Break pos) (upS xBrk) := ps_wk ps_break fun D σ H ⟨Γ, ε, R, k⟩ => k σ H R
theorem xs_cont {X : Cx} {pos : Pos} : PS X (.Continue pos) (upS xCnt) := ps_wk ps_continue fun D σ H ⟨Γ, ε, R, k⟩ => k σ H R
def xDrop (t : XE) : XS := ⟨fun D ε => t.run ε fun _ ε1 => D.nx ε1, fun h _ _ _ q => t.mono (fun _ _ w => h _ w) q⟩
theorem xs_expr {X : Cx} {e : Expr} {pos : Pos} {t : XE} (he : PE X e (up t)) (hs : swapsWith e none pos.line X.env = pure false := by rfl) : PS X (.Expr e pos) (upS (xDrop t)) := ps_wk (ps_expr he hs) fun D σ H ⟨Γ, ε, R, k⟩ =>
  up1 R k fun r x ε1 T1 H1 g R1 s1 d1 => g σ H1 R1.nil
def xRet (t : XE) : XS := ⟨fun D ε => t.run ε fun r ε1 => D.rt r ε1, fun _ h _ _ q => t.mono (fun _ _ w => h _ _ w) q⟩
theorem Rep.first {Γ : Ga} {ε : List AV} {T : Addr → Prop} {σ : L2.St} {H : Hp} (R : Rep Γ ε T σ H) {a : Addr} (h : H a = none) : Γ.H0 a = none := R.fresh h
theorem xs_ret {X : Cx} {e : Expr} {pos : Pos} {t : XE} (he : PE X e (up t)) : PS X (.Return (some e) pos) (upS (xRet t)) := ps_wk (ps_ret he) fun D σ H ⟨Γ, ε, R, k⟩ =>
  up1 R k fun r x ε1 T1 H1 g R1 s1 d1 => g x σ T1 H1 R1 (d1.early fun a h => R.fresh h)
def xRetN : XS := ⟨fun D ε => D.rt (.d .none) ε, fun _ h _ _ q => h _ _ q⟩
theorem xs_retN {X : Cx} {pos : Pos} : PS X (.Return none pos) (upS xRetN) := ps_wk ps_retN fun D σ H ⟨Γ, ε, R, k⟩ => k .non σ TN H R .non
def xIfS (c : XT) (t u : XS) : XS := ⟨fun D ε => c.run ε fun b ε1 => if b = true then t.run D ε1 else u.run D ε1, fun h1 h2 h3 h4 q => c.mono (fun b _ w => by
  split at w
  · rw [if_pos (by assumption)]
    exact t.mono h1 h2 h3 h4 w
  · rw [if_neg (by assumption)]
    exact u.mono h1 h2 h3 h4 w) q⟩
theorem xs_if {X : Cx} {c : Expr} {a b : List Stmt} {pos : Pos} {tc : XT} {t u : XS} (hc : PT X c (upT tc)) (ha : PSs X a (upS t)) (hb : PSs X b (upS u)) : PS X (.If c a b pos) (upS (xIfS tc t u)) := ps_wk (ps_if hc ha hb) fun D σ H ⟨Γ, ε, R, k⟩ =>
  upT1 R k fun b ε1 T1 H1 g R1 s1 => by
    split at g
    · rw [if_pos (by assumption)]
      exact ⟨Γ, ε1, R1.nil, g⟩
    · rw [if_neg (by assumption)]
      exact ⟨Γ, ε1, R1.nil, g⟩
/-! ### names set -/
def setR : Bool → RV → Option AV
  | false, .d x => some (.d x)
  | false, .f xs => some (.d (.list xs))
  | false, .o P => some (.o P)
  | true, .f xs => some (.l xs)
  | _, _ => none
section
variable {Γ : Ga} {ε ε0 : List AV} {T T0 : Addr → Prop} {σ : L2.St} {H H2 : Hp}
/-- a new list put into a slot for itself -/
theorem Rep.putL {i : Nat} {a : Addr} {vs : List V} {xs : List PyData} (R : Rep Γ ε T σ H) (ha : T a) (hv : H a = some (.lst vs)) (hl : vs.length ≤ 1000) (dn : DnA (Mx Γ ε T σ) H vs xs) : Rep Γ (ε.set i (.l xs)) (fun b => T b ∧ b ≠ a) (σ.set i (some (.ref a))) H ∧ ∀ b, Mx Γ (ε.set i (.l xs)) (fun b => T b ∧ b ≠ a) (σ.set i (some (.ref a))) b → Mx Γ ε T σ b := by
  obtain ⟨t1, t2, t3⟩ := R.tmp a ha
  have out : ∀ {j : Nat} {ys : List PyData}, (ε.set i (.l xs))[j]? = some (.l ys) → (i ≠ j ∧ ε[j]? = some (.l ys)) ∨ (i = j ∧ i < ε.length ∧ ys = xs) := fun {j ys} q => by
    by_cases z : i = j
    · subst z
      rw [List.getElem?_set, if_pos rfl] at q
      split at q
      · rename_i hi
        cases q
        exact .inr ⟨rfl, hi, rfl⟩
      · cases q
    · rw [List.getElem?_set_ne z] at q
      exact .inl ⟨z, q⟩
  have at_i : i < ε.length → (σ.set i (some (V.ref a)))[i]? = some (some (.ref a)) := fun hi => List.getElem?_set_self (by rw [← R.ln]; exact hi)
  have own : ∀ b, OwnS (ε.set i (.l xs)) (σ.set i (some (.ref a))) b → OwnS ε σ b ∨ b = a := by
    rintro b ⟨j, ys, q1, q2⟩
    rcases out q1 with ⟨z, q1⟩ | ⟨rfl, hi, rfl⟩
    · rw [List.getElem?_set_ne z] at q2
      exact .inl ⟨j, ys, q1, q2⟩
    · rw [at_i hi] at q2
      cases q2
      exact .inr rfl
  have mx : ∀ b, Mx Γ (ε.set i (.l xs)) (fun b => T b ∧ b ≠ a) (σ.set i (some (.ref a))) b → Mx Γ ε T σ b := by
    rintro b (z | z | z)
    · exact .inl z
    · rcases own b z with z | rfl
      · exact .inr (.inl z)
      · exact .inr (.inr ha)
    · exact .inr (.inr z.1)
  refine ⟨⟨by rw [List.length_set, List.length_set, R.ln], R.pm, R.hp, R.hp0, R.ext, R.ml, fun b hb => ?_, fun k j ys zs h1 h2 q => ?_, fun j e' q => ?_, Γ.fst _ _ _ _ (Fit2.less mx) R.fr, R.tz⟩, mx⟩
  · obtain ⟨u1, u2, u3⟩ := R.tmp b hb.1
    refine ⟨u1, u2, fun z => ?_⟩
    rcases own b z with z | z
    · exact u3 z
    · exact hb.2 z
  · rcases out h1 with ⟨z1, h1⟩ | ⟨rfl, hi, _⟩
    · rw [List.getElem?_set_ne z1] at q
      rcases out h2 with ⟨z2, h2⟩ | ⟨rfl, hi, _⟩
      · rw [List.getElem?_set_ne z2] at q
        exact R.dis k j ys zs h1 h2 q
      · rw [at_i hi] at q
        exact absurd ⟨k, ys, h1, q⟩ t3
    · rw [at_i hi] at q
      rcases out h2 with ⟨z2, h2⟩ | ⟨rfl, _, _⟩
      · rw [List.getElem?_set_ne z2] at q
        exact absurd ⟨j, zs, h2, q.symm⟩ t3
      · rfl
  · by_cases z : i = j
    · subst z
      rw [List.getElem?_set, if_pos rfl] at q
      split at q
      · rename_i hi
        cases q
        rw [at_i hi]
        exact ⟨a, vs, rfl, t1, hv, hl, dn.go (Fit2.less mx)⟩
      · cases q
    · rw [List.getElem?_set_ne z] at q
      rw [List.getElem?_set_ne z]
      exact (R.sl j e' q).go (Fit2.less mx) (fun _ h => h) (fun _ _ _ _ _ h => h)
/-- what is left of the temporary things when one result is stored -/
theorem Rep.store {i : Nat} {w : Bool} {r : RV} {v : V} {e : AV} (R : Rep Γ ε T σ H2) (d : Den Γ ε T σ H r v H2) (h : setR w r = some e) :
    ∃ T', (∀ b, T' b → T b) ∧ Rep Γ (ε.set i e) T' (σ.set i (some v)) H2 ∧ (∀ b, Mx Γ (ε.set i e) T' (σ.set i (some v)) b → Mx Γ ε T σ b) ∧ ∀ b, T b → T' b ∨ (∃ xs, r = .f xs ∧ v = .ref b) := by
  have drop : ∀ {a : Addr} {vs : List V} {xs : List PyData}, v = .ref a → H a = none → T a → H2 a = some (.lst vs) → vs.length ≤ 1000 → DnA (Mx Γ ε T σ) H2 vs xs → Rep Γ ε (fun b => T b ∧ b ≠ a) σ H2 ∧ Dn (Mx Γ ε (fun b => T b ∧ b ≠ a) σ) H2 v (.list xs) := fun {a vs xs} e h0 ha hv hl dn => by
    obtain ⟨t1, t2, t3⟩ := R.tmp a ha
    refine ⟨R.less fun _ h => h.1, ?_⟩
    subst e
    refine .lst ?_ hv hl (dn.go (Fit2.less fun _ => mx_less fun _ h => h.1))
    rintro (z | z | z)
    · exact not_M R t1 z
    · exact t3 z
    · exact z.2 rfl
  cases w with
  | false =>
    cases r with
    | d x =>
      cases h
      obtain ⟨R', mx⟩ := R.put (i := i) (e := .d x) (v := v) ⟨v, rfl, d⟩ (fun _ => nofun)
      exact ⟨T, fun _ h => h, R', mx, fun _ h => .inl h⟩
    | f xs =>
      cases h
      obtain ⟨a, vs, e, h0, ha, hv, hl, dn⟩ := d
      obtain ⟨R1, d1⟩ := drop e h0 ha hv hl dn
      obtain ⟨R', mx⟩ := R1.put (i := i) (e := .d (.list xs)) (v := v) ⟨v, rfl, d1⟩ (fun _ => nofun)
      refine ⟨_, fun _ h => h.1, R', fun b z => mx_less (fun _ h => h.1) (mx b z), fun b hb => ?_⟩
      by_cases z : b = a
      · subst z
        exact .inr ⟨xs, rfl, e⟩
      · exact .inl ⟨hb, z⟩
    | o P =>
      cases h
      obtain ⟨R', mx⟩ := R.put (i := i) (e := .o P) (v := v) ⟨v, rfl, d⟩ (fun _ => nofun)
      exact ⟨T, fun _ h => h, R', mx, fun _ h => .inl h⟩
    | b x => cases h
    | p => cases h
  | true =>
    cases r with
    | f xs =>
      cases h
      obtain ⟨a, vs, e, h0, ha, hv, hl, dn⟩ := d
      subst e
      obtain ⟨R', mx⟩ := R.putL (i := i) ha hv hl dn
      refine ⟨_, fun _ h => h.1, R', mx, fun b hb => ?_⟩
      by_cases z : b = a
      · subst z
        exact .inr ⟨xs, rfl, rfl⟩
      · exact .inl ⟨hb, z⟩
    | d x => cases h
    | o P => cases h
    | b x => cases h
    | p => cases h
end
def xSet (w : Bool) (i : Nat) (t : XE) : XS := ⟨fun D ε => t.run ε fun r ε1 => ∃ e, setR w r = some e ∧ D.nx (ε1.set i e), fun h _ _ _ q => t.mono (fun _ _ ⟨e, a, w⟩ => ⟨e, a, h _ w⟩) q⟩
theorem xs_asg {X : Cx} {st : Stmt} {w : Bool} {i : Nat} {t : XE} (h : PS X st (tAsg (up t) (gName i))) : PS X st (upS (xSet w i t)) := ps_wk h fun D σ H ⟨Γ, ε, R, k⟩ =>
  up1 R k fun r x ε1 T1 H1 ⟨e, he, g⟩ R1 s1 d1 => by
    obtain ⟨T', _, R', _⟩ := R1.store (i := i) (w := w) d1 he
    exact g _ H1 R'.nil
theorem xs_asgT {X : Cx} {st : Stmt} {w : Bool} {i : Nat} {it : XI} {g : XG} {tt : XT} {te : XE} {vs : List Nat} (h : PS X st (tAsg (tLc (upI it) (upG g) (upT tt) (up te) vs) (gName i))) (hv : ∀ i ∈ g.is, i ∈ vs) : PS X st (upS (xSet w i (xLc it g tt te vs))) :=
  xs_asg (ps_wk h fun D σ H q => xe_lcT hv q)
/-- a target of data -/
def xAsg (t : XE) (g : XG) : XS := ⟨fun D ε => t.run ε fun r ε1 => ∃ x, r.kp = some x ∧ g.run x ε1 D.nx, fun h _ _ _ q => t.mono (fun _ _ ⟨x, a, w⟩ => ⟨x, a, g.mono h w⟩) q⟩
theorem xs_tgt {X : Cx} {st : Stmt} {t : XE} {g : XG} (h : PS X st (tAsg (up t) (upG g))) : PS X st (upS (xAsg t g)) := ps_wk h fun D σ H ⟨Γ, ε, R, k⟩ =>
  up1 R k fun r x ε1 T1 H1 ⟨y, he, q⟩ R1 s1 d1 => ⟨Γ, ε1, TN, y, R1.nil, d1.kept R R1 s1 he, g.mono (fun e w σ' R' _ _ _ => w σ' H1 R') q⟩
/-- some names set to results, one after another -/
def setsR : List (Bool × Nat) → List RV → List AV → Option (List AV)
  | [], [], ε => some ε
  | (w, i) :: is, r :: rs, ε => match setR w r with
    | some e => setsR is rs (ε.set i e)
    | none => none
  | _, _, _ => none
def setsV : List (Bool × Nat) → List V → L2.St → L2.St
  | (_, i) :: is, v :: vs, σ => setsV is vs (σ.set i (some v))
  | _, _, σ => σ
def xSets (is : List (Bool × Nat)) (t : XA) : XS := ⟨fun D ε => t.run ε fun rs ε1 => ∃ ε2, setsR is rs ε1 = some ε2 ∧ D.nx ε2, fun h _ _ _ q => t.mono (fun _ _ ⟨e, a, w⟩ => ⟨e, a, h _ w⟩) q⟩
theorem sets_ok {Γ : Ga} {H H2 : Hp} : ∀ (is : List (Bool × Nat)) (rs : List RV) (vs : List V) (ε : List AV) (T : Addr → Prop) (σ : L2.St) (ε2 : List AV), Rep Γ ε T σ H2 → DenA Γ ε T σ H rs vs H2 → setsR is rs ε = some ε2 → ∃ T', Rep Γ ε2 T' (setsV is vs σ) H2
  | [], [], vs, ε, T, σ, ε2, R, d, e => by
    cases d
    cases e
    exact ⟨T, R⟩
  | (w, i) :: is, r :: rs, _, ε, T, σ, ε2, R, .cons (v := v) (vs := vs) d t ap, e => by
    unfold setsR at e
    split at e
    · rename_i e1 he
      obtain ⟨T', s1, R', mx, keep⟩ := R.store (i := i) (w := w) d he
      refine sets_ok (H := H) is rs vs _ T' _ ε2 R' ?_ e
      have f : Fit2 (Mx Γ ε T σ) (Mx Γ (ε.set i e1) T' (σ.set i (some v))) H2 H2 := Fit2.less mx
      have go : ∀ (rs : List RV) (vs : List V), (∀ xs a, r = .f xs → v = .ref a → ∀ (k : Nat) ys, rs[k]? = some (.f ys) → vs[k]? ≠ some (.ref a)) → DenA Γ ε T σ H rs vs H2 → DenA Γ (ε.set i e1) T' (σ.set i (some v)) H rs vs H2 := by
        intro rs
        induction rs with
        | nil => intro vs _ d; cases d; exact .nil
        | cons q rs ih =>
          intro vs ap d
          cases d with
          | @cons _ u _ us _ d t n =>
            refine .cons ?_ (ih us (fun xs a e1 e2 k ys h => ap xs a e1 e2 (k + 1) ys h) t) n
            cases q with
            | d x => exact Dn.go f d
            | f ys =>
              obtain ⟨a, ws, e1, h0, h1, h2, h3, h4⟩ := d
              refine ⟨a, ws, e1, h0, ?_, h2, h3, h4.go f⟩
              rcases keep a h1 with z | ⟨xs, z1, z2⟩
              · exact z
              · exact absurd (by rw [e1]; rfl) (ap xs a z1 z2 0 ys rfl)
            | b x =>
              rcases d with d | d | ⟨a, ws, xs, e1, e2, h1, h2, h3, h4⟩
              · exact .inl (d.go f)
              · exact .inr (.inl d)
              · exact .inr (.inr ⟨a, ws, xs, e1, e2, h1, h2, h3, h4.go f⟩)
            | p => exact d
            | o P => exact Stb.go f d
      exact go rs vs ap t
    · cases e
  | [], _ :: _, _, _, _, _, _, _, _, e => by cases e
  | _ :: _, [], _, _, _, _, _, _, _, e => by cases e
theorem xs_par {X : Cx} {st : Stmt} {i j : Nat} {w1 w2 : Bool} {t : XA} (h : PS X st (tPar i j (upA t))) : PS X st (upS (xSets [(w1, i), (w2, j)] t)) := ps_wk h fun D σ H ⟨Γ, ε, R, k⟩ =>
  upA1 R k fun rs vs ε1 T1 H1 ⟨ε2, he, g⟩ R1 s1 d1 => by
    obtain ⟨T', R'⟩ := sets_ok _ rs vs ε1 T1 σ ε2 R1 d1 he
    cases d1 with
    | nil => cases he
    | @cons r v rs vs _ d t n =>
      cases t with
      | nil =>
        unfold setsR at he
        split at he
        · cases he
        · cases he
      | @cons r' v' rs vs _ d' t n' =>
        cases t with
        | nil => exact ⟨v, v', rfl, g _ H1 R'.nil⟩
        | cons d'' t'' =>
          unfold setsR at he
          split at he
          · unfold setsR at he
            split at he
            · cases he
            · cases he
          · cases he
/-- the same by way of a tuple -/
theorem xs_pars {X : Cx} {st : Stmt} {K : PySem.W.Frag} {is : List (Bool × Nat)} {n : Nat} {t : XA} {g : TGs} (h : PS X st (tAsg (tTup (upA t)) (gTup K n g))) (hn : n = is.length) (hz : n ≤ 100)
    (hg : ∀ vs σ H Q, vs.length = is.length → Q (setsV is vs σ) H → g vs σ H Q) : PS X st (upS (xSets is t)) := ps_wk h fun D σ H ⟨Γ, ε, R, k⟩ =>
  upA1 R k fun rs vs ε1 T1 H1 ⟨ε2, he, q⟩ R1 s1 d1 => by
    have l1 : ∀ (is : List (Bool × Nat)) (rs : List RV) (ε : List AV), setsR is rs ε = some ε2 → rs.length = is.length := by
      intro is
      induction is with
      | nil => intro rs ε e; cases rs with
        | nil => rfl
        | cons _ _ => cases e
      | cons p is ih => intro rs ε e; cases rs with
        | nil => cases e
        | cons r rs =>
          unfold setsR at e
          split at e
          · rw [List.length_cons, List.length_cons, ih _ _ e]
          · cases e
    have l2 : ∀ {rs : List RV} {vs : List V}, DenA Γ ε1 T1 σ H rs vs H1 → vs.length = rs.length := by
      intro rs
      induction rs with
      | nil => intro vs d; cases d; rfl
      | cons r rs ih => intro vs d; cases d with
        | cons d t n => rw [List.length_cons, List.length_cons, ih t]
    have lv : vs.length = is.length := by rw [l2 d1, l1 _ _ _ he]
    refine ⟨sz1000 (by omega), fun p hp => ⟨p, vs, rfl, SqT.rd (.inl upd_same), by rw [lv, hn], hg vs σ _ _ lv ?_⟩⟩
    obtain ⟨T', R'⟩ := sets_ok _ rs vs ε1 T1 σ ε2 R1 d1 he
    exact q _ _ (R'.nil.same (same_new hp))
end Cs
set_option maxHeartbeats 4000000
/-! Loops, calls, defs over data. -/
namespace Cs
open PySem L2 PyProof.Rows
/-! ### for -/
def xFor (it : XI) (g : XG) (b : XS) : XS := ⟨fun D ε => it.run ε fun ds fl ε1 => fl = true ∧ ∃ W : Nat → List AV → Prop, W 0 ε1 ∧ (∀ e, W ds.length e → D.nx e) ∧ ∀ i d e, ds[i]? = some d → W i e → g.run d e fun e2 => b.run { D with nx := W (i + 1), ct := W (i + 1), bk := D.nx } e2,
  fun {D D' ε} h1 h2 h3 h4 q => it.mono (fun ds fl ε1 ⟨f, W, w0, wn, ws⟩ => ⟨f, W, w0, fun e w => h1 _ (wn e w), fun i d e hd w => g.mono (fun e2 q => b.mono (D := { D with nx := W (i + 1), ct := W (i + 1), bk := D.nx }) (D' := { D' with nx := W (i + 1), ct := W (i + 1), bk := D'.nx }) (fun _ h => h) h2 h1 (fun _ h => h) q) (ws i d e hd w)⟩) q⟩
theorem xs_for {X : Cx} {tg iter : Expr} {body : List Stmt} {pos : Pos} {it : XI} {g : XG} {b : XS} (hp : PassesOwn (model X.prog X.w) X.A X.env X.xe) (hc : X.calm = true) (hi : PI X tg iter (upI it)) (hg : PG X tg (upG g)) (hb : PSs X body (upS b))
    (hs : ∀ x, foldedSetIterable iter X.env x = pure x := by intro _; rfl) : PS X (.For tg iter body [] pos) (upS (xFor it g b)) := ps_wk (ps_for hp hc hi hg hb hs) fun D σ H ⟨Γ, ε, R, k⟩ => by
  refine ⟨Γ, ε, TN, R, it.mono (fun ds fl ε1 q J A T1 H1 R1 s1 ok ha => ?_) k⟩
  obtain ⟨rfl, W, w0, wn, ws⟩ := q
  -- what is walked stays as it is
  have go : ∀ (Γ' : Ga), Γ' = { Γ with F := fun N H => Γ.F N H ∧ A N H, fst := fun N N' H H' f h => ⟨Γ.fst _ _ _ _ f h.1, ok.st _ _ _ _ f nofun h.2⟩ } →
      ∃ W : Nat → Nat → L2.St → Hp → Prop, (∃ m, W 0 m σ H1) ∧ ∀ i m σ H, W i m σ H → (J.stop i H ∧ D.nx σ H) ∨ (J.go i H ∧ ∃ N : L2.St → Hp → Prop, (∀ σ' H', N σ' H' → ∃ m', m' < m ∧ W (i + 1) m' σ' H') ∧ ∀ x H', J.yld i H x H' → upG g x σ H' fun σ2 H2 => upS b { D with nx := N, ct := N, bk := D.nx } σ2 H2) := by
    intro Γ' hΓ
    have up_ : ∀ {ε : List AV} {T : Addr → Prop} {σ : L2.St} {H : Hp}, Rep Γ ε T σ H → A (Mx Γ ε T σ) H → Rep Γ' ε T σ H := fun {ε T σ H} R ha => by
      subst hΓ
      exact ⟨R.ln, R.pm, R.hp, R.hp0, R.ext, R.ml, R.tmp, R.dis, R.sl, ⟨R.fr, ha⟩, R.tz⟩
    have dn_ : ∀ {ε : List AV} {T : Addr → Prop} {σ : L2.St} {H : Hp}, Rep Γ' ε T σ H → Rep Γ ε T σ H ∧ A (Mx Γ' ε T σ) H := fun {ε T σ H} R => by
      subst hΓ
      exact ⟨⟨R.ln, R.pm, R.hp, R.hp0, R.ext, R.ml, R.tmp, R.dis, R.sl, R.fr.1, R.tz⟩, R.fr.2⟩
    have den_ : ∀ {ε : List AV} {T : Addr → Prop} {σ : L2.St} {H H' : Hp} {r : RV} {v : V}, Den Γ' ε T σ H r v H' → Den Γ ε T σ H r v H' := fun {ε T σ H H' r v} d => by
      subst hΓ
      exact d
    have h0 : Γ'.H0 = Γ.H0 := by rw [hΓ]
    have al : A (Mx Γ ε1 TN σ) H1 := ok.st _ _ _ _ (Fit2.less fun _ => mx_less fun _ h => h.elim) nofun ha
    refine ⟨fun i m σ H => m = ds.length - i ∧ i ≤ ds.length ∧ ∃ e, W i e ∧ Rep Γ' e TN σ H, ⟨ds.length, by simp, Nat.zero_le _, ε1, w0, up_ R1.nil al⟩, ?_⟩
    rintro i m σ2 H2 ⟨rfl, hi, e, w, R2⟩
    obtain ⟨R2', a2⟩ := dn_ R2
    by_cases lt : i < ds.length
    · have hdi := List.getElem?_eq_getElem lt
      obtain ⟨go, yl⟩ := ok.go _ H2 i _ R2.alloc a2 hdi
      refine .inr ⟨go, fun σ' H' => i + 1 ≤ ds.length ∧ ∃ e, W (i + 1) e ∧ Rep Γ' e TN σ' H', fun σ' H' p' => ⟨ds.length - (i + 1), by omega, rfl, p'⟩, fun x H3 y => ?_⟩
      obtain ⟨s23, dx⟩ := yl x H3 y
      refine ⟨Γ', e, TN, _, R2.same s23, dx, g.mono (fun e2 q σ3 R3 _ _ _ => ?_) (ws i _ e hdi w)⟩
      refine ⟨Γ', e2, R3, b.mono (D := { upD Γ D with nx := W (i + 1), ct := W (i + 1), bk := (upD Γ D).nx }) (fun e3 w3 σ' H' R' => ⟨by omega, e3, w3, R'⟩) (fun r e3 q v σ' T' H' R' d' => ?_) (fun e3 q σ' H' R' => q σ' H' (dn_ R').1) (fun e3 w3 σ' H' R' => ⟨by omega, e3, w3, R'⟩) q⟩
      rw [h0] at d'
      exact q v σ' T' H' (dn_ R').1 (den_ d')
    · have e2 : i = ds.length := by omega
      subst e2
      exact .inl ⟨ok.stop _ H2 a2, wn e w σ2 H2 R2'⟩
  exact go _ rfl
end Cs
set_option maxHeartbeats 4000000
/-! Lists changed, calls, defs over data. -/
namespace Cs
open PySem L2 PyProof.Rows
section
variable {Γ : Ga} {ε ε0 : List AV} {T T0 : Addr → Prop} {σ : L2.St} {H H2 : Hp}
/-- a list of one's own changed -/
theorem Rep.mutL {i : Nat} {xs ys : List PyData} {ws : List V} (R : Rep Γ ε T σ H) (h : ε[i]? = some (.l xs)) (hl : ws.length ≤ 1000) (dn : DnA (Mx Γ ε T σ) H ws ys) :
    ∃ a, σ[i]? = some (some (.ref a)) ∧ Rep Γ (ε.set i (.l ys)) T σ (upd H a (.lst ws)) := by
  obtain ⟨a, vs, e, h0, h1, h2, h3⟩ := R.sl i _ h
  have hi : i < ε.length := (List.getElem?_eq_some_iff.mp h).1
  have own : ∀ b, OwnS (ε.set i (.l ys)) σ b ↔ OwnS ε σ b := fun b => by
    constructor
    · rintro ⟨j, zs, e1, e2⟩
      by_cases z : i = j
      · subst z
        exact ⟨i, xs, h, e2⟩
      · rw [List.getElem?_set_ne z] at e1
        exact ⟨j, zs, e1, e2⟩
    · rintro ⟨j, zs, e1, e2⟩
      by_cases z : i = j
      · subst z
        exact ⟨i, ys, List.getElem?_set_self hi, e2⟩
      · exact ⟨j, zs, by rw [List.getElem?_set_ne z]; exact e1, e2⟩
  have mx : ∀ b, Mx Γ (ε.set i (.l ys)) T σ b → Mx Γ ε T σ b := by
    rintro b (z | z | z)
    · exact .inl z
    · exact .inr (.inl ((own b).mp z))
    · exact .inr (.inr z)
  have na : Mx Γ ε T σ a := .inr (.inl ⟨i, xs, h, e⟩)
  have f : Fit2 (Mx Γ ε T σ) (Mx Γ (ε.set i (.l ys)) T σ) H (upd H a (.lst ws)) := ⟨fun b z => .inl (mx b z), fun b o n q => by
    rw [upd_ne fun z : b = a => n (z ▸ na)]
    exact q⟩
  have nep : a ≠ Γ.p := fun z => by
    obtain ⟨o, q⟩ := R.hp0
    rw [← z, h0] at q
    cases q
  refine ⟨a, e, by rw [List.length_set]; exact R.ln, R.pm, ?_, R.hp0, fun b o n q => ?_, R.ml, fun b hb => ?_, fun j k zs us hj hk q => ?_, fun j e' hj => ?_, Γ.fst _ _ _ _ f R.fr, tabs_exb R.tz h1 fun b o nb q => by rw [upd_ne nb]; exact q⟩
  · obtain ⟨o, q⟩ := R.hp
    exact ⟨o, by rw [upd_ne nep.symm]; exact q⟩
  · rw [upd_ne (ne_of_none q h0)]
    exact R.ext b o n q
  · obtain ⟨t1, ⟨us, t2⟩, t3⟩ := R.tmp b hb
    refine ⟨t1, ?_, fun z => t3 ((own b).mp z)⟩
    rw [upd_ne fun z : b = a => t3 (z ▸ ⟨i, xs, h, e⟩)]
    exact ⟨us, t2⟩
  · have back : ∀ {j : Nat} {zs : List PyData}, (ε.set i (.l ys))[j]? = some (.l zs) → ∃ us, ε[j]? = some (.l us) := fun {j zs} hj => by
      by_cases z : i = j
      · subst z
        exact ⟨xs, h⟩
      · rw [List.getElem?_set_ne z] at hj
        exact ⟨zs, hj⟩
    obtain ⟨z1, b1⟩ := back hj
    obtain ⟨z2, b2⟩ := back hk
    exact R.dis j k z1 z2 b1 b2 q
  · by_cases z : i = j
    · subst z
      rw [List.getElem?_set_self hi] at hj
      cases hj
      exact ⟨a, ws, e, h0, upd_same, hl, dn.go f⟩
    · rw [List.getElem?_set_ne z] at hj
      refine (R.sl j e' hj).go f (fun n h => h.put nep) fun zs b e1 e2 o q => ?_
      subst e1
      rw [upd_ne fun w : b = a => z (R.dis i j xs zs h hj (by rw [e, e2, w]))]
      exact q
theorem Rep.ownAt {i : Nat} {xs : List PyData} (R : Rep Γ ε T σ H) (h : ε[i]? = some (.l xs)) : ∃ a vs, σ[i]? = some (some (.ref a)) ∧ H a = some (.lst vs) ∧ vs.length ≤ 1000 ∧ DnA (Mx Γ ε T σ) H vs xs := by
  obtain ⟨a, vs, e, _, h1, h2, h3⟩ := R.sl i _ h
  exact ⟨a, vs, e, h1, h2, h3⟩
end
def xApp (i : Nat) (t : XE) : XS := ⟨fun D ε => (∃ xs, ε[i]? = some (.l xs)) ∧ t.run ε fun r ε1 => ∃ x xs, r.kp = some x ∧ ε1[i]? = some (.l xs) ∧ xs.length < 1000 ∧ D.nx (ε1.set i (.l (xs ++ [x]))),
  fun h _ _ _ q => ⟨q.1, t.mono (fun _ _ ⟨x, xs, a, b, c, w⟩ => ⟨x, xs, a, b, c, h _ w⟩) q.2⟩⟩
theorem xs_app {X : Cx} {K : PySem.W.Frag} {st : Stmt} {i : Nat} {t : XE} (h : PS X st (tDrop (tBM K "list" rAppend (tVar i) (tCons (up t) tNil)))) : PS X st (upS (xApp i t)) := ps_wk h fun D σ H ⟨Γ, ε, R, ⟨xs0, h0⟩, k⟩ => by
  obtain ⟨a, vs, e, h1, _, _⟩ := R.ownAt h0
  refine ⟨_, e, .inl ⟨rfl, _, SqL.of h1⟩, up1 R k fun r x ε1 T1 H1 ⟨y, xs, ek, ex, hl, g⟩ R1 s1 d1 => ?_⟩
  have R2 := R1.nil
  obtain ⟨a', vs', e', h1', h2', h3'⟩ := R2.ownAt ex
  rw [e] at e'
  cases e'
  have dy := d1.kept R R1 s1 ek
  have ll := h3'.length
  obtain ⟨a3, e3, R3⟩ := R2.mutL ex (ws := vs' ++ [x]) (by rw [List.length_append, ll]; simp only [List.length_cons, List.length_nil]; omega) (h3'.append (.cons dy .nil))
  rw [e] at e3
  cases e3
  exact ⟨a, vs', x, rfl, rfl, h1', Nat.lt_of_lt_of_le (by omega : vs'.length < 1000) (by decide), g _ _ R3⟩
def xPopS (i j : Nat) (t : XE) : XS := ⟨fun D ε => i ≠ j ∧ (∃ xs, ε[j]? = some (.l xs)) ∧ t.run ε fun r ε1 => ∃ (k : Nat) (xs : List PyData) (y : PyData), r.see = some (.int (k : Nat)) ∧ ε1[j]? = some (.l xs) ∧ xs[k]? = some y ∧ D.nx ((ε1.set j (.l (xs.eraseIdx k))).set i (.d y)),
  fun h _ _ _ q => ⟨q.1, q.2.1, t.mono (fun _ _ ⟨k, xs, y, a, b, c, w⟩ => ⟨k, xs, y, a, b, c, h _ w⟩) q.2.2⟩⟩
def xPopA (i j : Nat) (t : XE) : XS := ⟨fun D ε => i ≠ j ∧ (∃ zs, ε[i]? = some (.l zs)) ∧ (∃ xs, ε[j]? = some (.l xs)) ∧ t.run ε fun r ε1 => ∃ (k : Nat) (xs zs : List PyData) (y : PyData), r.see = some (.int (k : Nat)) ∧ ε1[j]? = some (.l xs) ∧ ε1[i]? = some (.l zs) ∧ xs[k]? = some y ∧ zs.length < 1000 ∧ D.nx ((ε1.set j (.l (xs.eraseIdx k))).set i (.l (zs ++ [y]))),
  fun h _ _ _ q => ⟨q.1, q.2.1, q.2.2.1, t.mono (fun _ _ ⟨k, xs, zs, y, a, b, c, d, e, w⟩ => ⟨k, xs, zs, y, a, b, c, d, e, h _ w⟩) q.2.2.2⟩⟩
theorem ix_nat {n k : Nat} (h : k < n) : seqIndex? ((k : Nat) : Int) n = some k := by
  have h1 : ¬ ((k : Nat) : Int) < 0 := by omega
  have h2 : ((k : Nat) : Int) < (n : Nat) := by omega
  simp only [seqIndex?, if_neg h1, decide_eq_true h2, decide_eq_true (Int.natCast_nonneg k), Bool.and_self, if_true, Int.toNat_natCast]
section
variable {Γ : Ga} {ε : List AV} {T : Addr → Prop} {σ : L2.St} {H : Hp} {K : PySem.W.Frag}
/-- popped -/
theorem pop_ok {j : Nat} {t : XE} {G : RV → List AV → Prop} {Q : VK} (R : Rep Γ ε TN σ H) (h0 : ∃ xs, ε[j]? = some (.l xs)) (h : t.run ε G)
    (k : ∀ r ε1, G r ε1 → ∃ (k : Nat) (xs : List PyData) (y : PyData), r.see = some (.int (k : Nat)) ∧ ε1[j]? = some (.l xs) ∧ xs[k]? = some y ∧ ∀ v H', Rep Γ (ε1.set j (.l (xs.eraseIdx k))) TN σ H' → Dn (Mx Γ (ε1.set j (.l (xs.eraseIdx k))) TN σ) H' v y → Q v H') :
    tBM K "list" rPopAt (tVar j) (tCons (up t) tNil) σ H Q := by
  obtain ⟨xs0, h0⟩ := h0
  obtain ⟨a, vs, e, h1, _, _⟩ := R.ownAt h0
  refine ⟨_, e, .inl ⟨rfl, _, SqL.of h1⟩, up1 R h fun r x ε1 T1 H1 g R1 s1 d1 => ?_⟩
  obtain ⟨k, xs, y, es, ex, ey, q⟩ := k r ε1 g
  have R2 := R1.nil
  obtain ⟨a', vs', e', h1', h2', h3'⟩ := R2.ownAt ex
  rw [e] at e'
  cases e'
  obtain ⟨v, hv, dv⟩ := h3'.at_ ey
  have lk := (List.getElem?_eq_some_iff.mp hv).1
  obtain ⟨a3, e3, R3⟩ := R2.mutL ex (ws := vs'.eraseIdx k) (by rw [List.length_eraseIdx]; split <;> omega) (h3'.erase k)
  rw [e] at e3
  cases e3
  refine ⟨a, vs', (k : Nat), k, v, rfl, by rw [(d1.see es).int], h1', by omega, by omega, ix_nat lk, hv, q v _ R3 ?_⟩
  have own : ∀ b, OwnS (ε1.set j (.l (xs.eraseIdx k))) σ b → OwnS ε1 σ b := by
    rintro b ⟨i, zs, e1, e2⟩
    by_cases z : j = i
    · subst z
      exact ⟨j, xs, ex, e2⟩
    · rw [List.getElem?_set_ne z] at e1
      exact ⟨i, zs, e1, e2⟩
  refine dv.go ⟨fun b z => .inl ?_, fun b o n h => ?_⟩
  · rcases z with z | z | z
    · exact .inl z
    · exact .inr (.inl (own b z))
    · exact .inr (.inr z)
  · rw [upd_ne fun z : b = a => n (z ▸ .inr (.inl ⟨j, xs, ex, e⟩))]
    exact h
end
theorem xs_popS {X : Cx} {K : PySem.W.Frag} {st : Stmt} {i j : Nat} {t : XE} (h : PS X st (tAsg (tBM K "list" rPopAt (tVar j) (tCons (up t) tNil)) (gName i))) : PS X st (upS (xPopS i j t)) := ps_wk h fun D σ H ⟨Γ, ε, R, hij, h0, k⟩ =>
  pop_ok R h0 k fun r ε1 ⟨k, xs, y, a, b, c, w⟩ => ⟨k, xs, y, a, b, c, fun v H' R' d => w _ H' (R'.put (i := i) (e := .d y) (v := v) ⟨v, rfl, d⟩ (fun _ => nofun)).1⟩
theorem xs_popA {X : Cx} {K : PySem.W.Frag} {st : Stmt} {i j : Nat} {t : XE} (h : PS X st (tDrop (tBM K "list" rAppend (tVar i) (tCons (tBM K "list" rPopAt (tVar j) (tCons (up t) tNil)) tNil)))) : PS X st (upS (xPopA i j t)) := ps_wk h fun D σ H ⟨Γ, ε, R, hij, hi, hj, k⟩ => by
  obtain ⟨zs0, h0⟩ := hi
  obtain ⟨a, vs, e, h1, _, _⟩ := R.ownAt h0
  refine ⟨_, e, .inl ⟨rfl, _, SqL.of h1⟩, pop_ok R hj k fun r ε1 ⟨k, xs, zs, y, b1, b2, b3, b4, b5, w⟩ => ⟨k, xs, y, b1, b2, b4, fun v H' R' d => ?_⟩⟩
  have b3' : (ε1.set j (.l (xs.eraseIdx k)))[i]? = some (.l zs) := by
    rw [List.getElem?_set_ne hij.symm]
    exact b3
  obtain ⟨a', vs', e', h1', h2', h3'⟩ := R'.ownAt b3'
  rw [e] at e'
  cases e'
  have ll := h3'.length
  obtain ⟨a3, e3, R3⟩ := R'.mutL b3' (ws := vs' ++ [v]) (by rw [List.length_append, ll]; simp only [List.length_cons, List.length_nil]; omega) (h3'.append (.cons d .nil))
  rw [e] at e3
  cases e3
  exact ⟨a, vs', v, rfl, rfl, h1', Nat.lt_of_lt_of_le (by omega : vs'.length < 1000) (by decide), w _ _ R3⟩
/-! ### calls of defs -/
structure DR where
  run : Nat → List RV → (RV → Nat → Prop) → Prop
  mono : ∀ {n : Nat} {rs : List RV} {K K' : RV → Nat → Prop}, (∀ r m, K r m → K' r m) → run n rs K → run n rs K'
def ArgR (p : Addr) (M : Addr → Prop) (H : Hp) : RV → V → Prop
  | .d x, v => Dn M H v x
  | .p, v => v = .ref p
  | .o P, v => Stb M H P v
  | _, _ => False
inductive ArgA (p : Addr) (M : Addr → Prop) (H : Hp) : List RV → List V → Prop
  | nil : ArgA p M H [] []
  | cons {r : RV} {v : V} {rs : List RV} {vs : List V} (h : ArgR p M H r v) (t : ArgA p M H rs vs) : ArgA p M H (r :: rs) (v :: vs)
def ResR (M : Addr → Prop) (H : Hp) (r : RV) (v : V) (H' : Hp) : Prop := match r with
  | .d x => Dn M H' v x
  | .f xs => ∃ a vs, v = .ref a ∧ H a = none ∧ H' a = some (.lst vs) ∧ vs.length ≤ 1000 ∧ DnA (fun b => M b ∨ b = a) H' vs xs
  | .o P => Stb M H' P v
  | _ => False
def Aft (B : Bool) (p : Addr) (H H' : Hp) (n : Nat) : Prop := match B with
  | true => ExB p H H' ∧ PailAt H' p n
  | false => Same H H'
/-- what a def promises, over data: B says whether it draws -/
def SpD (B : Bool) (R : DR) : Sp := fun vs H Q _ => ∃ (p : Addr) (M : Addr → Prop) (n : Nat) (rs : List RV), M p ∧ (∃ o, H p = some (.lst o)) ∧ (∀ a, M a → a = p ∨ Ls H a) ∧ (B = true → PailAt H p n) ∧ ArgA p M H rs vs ∧
  R.run n rs fun r n' => ∀ v H', Aft B p H H' n' → ResR M H r v H' → Q v H'
/-- arguments as a def takes them -/
def kas : List RV → Option (List RV)
  | [] => some []
  | .d x :: rs => (kas rs).map (RV.d x :: ·)
  | .f xs :: rs => (kas rs).map (RV.d (.list xs) :: ·)
  | .p :: rs => (kas rs).map (RV.p :: ·)
  | .o P :: rs => (kas rs).map (RV.o P :: ·)
  | _ => none
def pnOf : List AV → Option Nat
  | [] => none
  | .p n :: _ => some n
  | .q n _ :: _ => some n
  | _ :: ε => pnOf ε
def setP (n : Nat) (ε : List AV) : List AV := ε.map fun e => match e with
  | .p _ => .p n
  | .q _ z => .q n z
  | e => e
def aftP (B : Bool) (n : Nat) (ε : List AV) : List AV := match B with
  | true => setP n ε
  | false => ε
def okRes : RV → Bool
  | .d _ | .f _ | .o _ => true
  | _ => false
def xCall (B : Bool) (R : DR) (a : XA) : XE := ⟨fun ε K => a.run ε fun rs ε1 => ∃ rs' n, kas rs = some rs' ∧ (B = true → pnOf ε1 = some n) ∧ R.run n rs' fun r n' => okRes r = true ∧ K r (aftP B n' ε1),
  fun h q => a.mono (fun _ _ ⟨rs, n, e1, e2, w⟩ => ⟨rs, n, e1, e2, R.mono (fun _ _ k => ⟨k.1, h _ _ k.2⟩) w⟩) q⟩
section
variable {Γ : Ga} {ε ε2 : List AV} {T T2 : Addr → Prop} {σ : L2.St} {H H2 : Hp}
theorem pn_at : ∀ {ε : List AV} {n : Nat}, pnOf ε = some n → ∃ i : Nat, ε[i]? = some (.p n) ∨ ∃ z, ε[i]? = some (.q n z)
  | .p m :: ε, n, h => ⟨0, by cases h; exact .inl rfl⟩
  | .q m z :: ε, n, h => ⟨0, by cases h; exact .inr ⟨z, rfl⟩⟩
  | .u :: ε, n, h => by obtain ⟨i, e⟩ := pn_at (ε := ε) h; exact ⟨i + 1, e⟩
  | .t _ :: ε, n, h => by obtain ⟨i, e⟩ := pn_at (ε := ε) h; exact ⟨i + 1, e⟩
  | .d _ :: ε, n, h => by obtain ⟨i, e⟩ := pn_at (ε := ε) h; exact ⟨i + 1, e⟩
  | .l _ :: ε, n, h => by obtain ⟨i, e⟩ := pn_at (ε := ε) h; exact ⟨i + 1, e⟩
  | .o _ :: ε, n, h => by obtain ⟨i, e⟩ := pn_at (ε := ε) h; exact ⟨i + 1, e⟩
theorem Rep.pail {n : Nat} (R : Rep Γ ε T σ H) (h : pnOf ε = some n) : PailAt H Γ.p n ∧ Γ.B = true := by
  obtain ⟨i, e | ⟨z, e⟩⟩ := pn_at h
  · exact (R.sl i _ e).2
  · obtain ⟨_, h1, h2, _⟩ := R.sl i _ e
    exact ⟨h1, h2⟩
def tbOf : List AV → Option (List (Addr × Str))
  | [] => none
  | .q _ z :: _ => some z
  | .t z :: _ => some z
  | _ :: ε => tbOf ε
theorem tb_at : ∀ {ε : List AV} {z : List (Addr × Str)}, tbOf ε = some z → ∃ i : Nat, (∃ n, ε[i]? = some (.q n z)) ∨ ε[i]? = some (.t z)
  | .p m :: ε, z, h => by obtain ⟨i, e⟩ := tb_at (ε := ε) h; exact ⟨i + 1, e⟩
  | .q m z' :: ε, z, h => ⟨0, .inl ⟨m, by cases h; rfl⟩⟩
  | .t z' :: ε, z, h => ⟨0, .inr (by cases h; rfl)⟩
  | .u :: ε, z, h => by obtain ⟨i, e⟩ := tb_at (ε := ε) h; exact ⟨i + 1, e⟩
  | .d _ :: ε, z, h => by obtain ⟨i, e⟩ := tb_at (ε := ε) h; exact ⟨i + 1, e⟩
  | .l _ :: ε, z, h => by obtain ⟨i, e⟩ := tb_at (ε := ε) h; exact ⟨i + 1, e⟩
  | .o _ :: ε, z, h => by obtain ⟨i, e⟩ := tb_at (ε := ε) h; exact ⟨i + 1, e⟩
theorem Rep.tbs {z : List (Addr × Str)} (R : Rep Γ ε T σ H) (h : tbOf ε = some z) : Γ.tb = z := by
  obtain ⟨i, ⟨n, e⟩ | e⟩ := tb_at h
  · exact (R.sl i _ e).2.2.2
  · exact R.sl i _ e
def isP : AV → Bool
  | .p _ | .q _ _ => true
  | _ => false
theorem setP_at {n : Nat} {i : Nat} {e : AV} (h : (setP n ε)[i]? = some e) : ((∃ m, ε[i]? = some (.p m) ∧ e = .p n) ∨ ∃ m z, ε[i]? = some (.q m z) ∧ e = .q n z) ∨ (ε[i]? = some e ∧ isP e = false) := by
  unfold setP at h
  obtain ⟨x, hx, e1⟩ := mapget h
  cases x with
  | p m => exact .inl (.inl ⟨m, hx, e1⟩)
  | q m z => exact .inl (.inr ⟨m, z, hx, e1⟩)
  | u => exact .inr ⟨by rw [hx, e1], by rw [e1]; rfl⟩
  | t y => exact .inr ⟨by rw [hx, e1], by rw [e1]; rfl⟩
  | d y => exact .inr ⟨by rw [hx, e1], by rw [e1]; rfl⟩
  | l y => exact .inr ⟨by rw [hx, e1], by rw [e1]; rfl⟩
  | o y => exact .inr ⟨by rw [hx, e1], by rw [e1]; rfl⟩
theorem setP_l {n : Nat} {i : Nat} {xs : List PyData} (h : (setP n ε)[i]? = some (.l xs)) : ε[i]? = some (.l xs) := by
  rcases setP_at h with (⟨_, _, e⟩ | ⟨_, _, _, e⟩) | ⟨e, _⟩
  · cases e
  · cases e
  · exact e
theorem Rep.drew {n : Nat} (R : Rep Γ ε T σ H) (hB : Γ.B = true) (e : ∀ b o, b ≠ Γ.p → ¬ Zp Γ b → H b = some o → H2 b = some o) (hp : PailAt H2 Γ.p n) (tz : LamX.Tabs Γ.tb H2) : Rep Γ (setP n ε) T σ H2 ∧ ∀ a, Mx Γ (setP n ε) T σ a ↔ Mx Γ ε T σ a := by
  have own : ∀ a, OwnS (setP n ε) σ a ↔ OwnS ε σ a := fun a => by
    constructor
    · rintro ⟨i, xs, e1, e2⟩
      exact ⟨i, xs, setP_l e1, e2⟩
    · rintro ⟨i, xs, e1, e2⟩
      refine ⟨i, xs, ?_, e2⟩
      unfold setP
      rw [List.getElem?_map, e1]
      rfl
  have mx : ∀ a, Mx Γ (setP n ε) T σ a ↔ Mx Γ ε T σ a := fun a => by
    unfold Mx
    rw [own]
  have f : Fit2 (Mx Γ ε T σ) (Mx Γ (setP n ε) T σ) H H2 := ⟨fun a z => .inl ((mx a).mp z), fun b o nb h => e b o (fun z => nb (z ▸ .inl R.pm)) (fun z => nb (.inl (zp_M z))) h⟩
  refine ⟨⟨by unfold setP; rw [List.length_map]; exact R.ln, R.pm, hp.lst, R.hp0, fun b o nb h => ?_, R.ml, fun a ha => ?_, fun i j xs ys h1 h2 q => ?_, fun i e' h => ?_, Γ.fst _ _ _ _ f R.fr, tz⟩, mx⟩
  · exact e b o (nb.1 hB) nb.2 (R.ext b o nb h)
  · obtain ⟨t1, ⟨vs, t2⟩, t3⟩ := R.tmp a ha
    exact ⟨t1, ⟨vs, e _ _ (tmp_p R ha) (zp_not R.tz t2 nofun) t2⟩, fun z => t3 ((own a).mp z)⟩
  · exact R.dis i j xs ys (setP_l h1) (setP_l h2) q
  · rcases setP_at h with (⟨m, z, rfl⟩ | ⟨m, z, hz, rfl⟩) | ⟨z, np⟩
    · obtain ⟨s1, _, s3⟩ := R.sl i _ z
      exact ⟨s1, hp, s3⟩
    · obtain ⟨s1, _, s3⟩ := R.sl i _ hz
      exact ⟨s1, hp, s3⟩
    · have s := R.sl i _ z
      cases e' with
      | p m => cases np
      | q m z => cases np
      | l xs =>
        obtain ⟨a, vs, s1, s2, s3, s4, s5⟩ := s
        refine ⟨a, vs, s1, s2, e _ _ (fun z => ?_) (zp_not R.tz s3 nofun) s3, s4, s5.go f⟩
        obtain ⟨o, q⟩ := R.hp0
        rw [← z, s2] at q
        cases q
      | u => trivial
      | t z => exact s
      | d x =>
        obtain ⟨v, s1, s2⟩ := s
        exact ⟨v, s1, s2.go f⟩
      | o P =>
        obtain ⟨v, s1, s2⟩ := s
        exact ⟨v, s1, s2.go f⟩
theorem kas_arg (R : Rep Γ ε T σ H) (R2 : Rep Γ ε2 T2 σ H2) (s : Stp Γ ε T ε2 T2 σ H H2) : ∀ {rs rs' : List RV} {vs : List V}, DenA Γ ε2 T2 σ H rs vs H2 → kas rs = some rs' → ArgA Γ.p (Mx Γ ε2 T σ) H2 rs' vs := by
  intro rs
  induction rs with
  | nil => intro rs' vs d e; cases d; cases e; exact .nil
  | cons r rs ih =>
    intro rs' vs d e
    cases d with
    | cons d t n =>
      have f : Fit2 (Mx Γ ε2 T2 σ) (Mx Γ ε2 T σ) H2 H2 := Fit2.less fun _ => mx_less s.t
      cases r with
      | d x =>
        obtain ⟨q, e1, rfl⟩ := Option.map_eq_some_iff.mp e
        exact .cons (d.kept R R2 s rfl) (ih t e1)
      | f xs =>
        obtain ⟨q, e1, rfl⟩ := Option.map_eq_some_iff.mp e
        exact .cons (d.kept R R2 s rfl) (ih t e1)
      | p =>
        obtain ⟨q, e1, rfl⟩ := Option.map_eq_some_iff.mp e
        exact .cons d (ih t e1)
      | o P =>
        obtain ⟨q, e1, rfl⟩ := Option.map_eq_some_iff.mp e
        exact .cons (Stb.go f d) (ih t e1)
      | b x => cases e
theorem Rep.lists (R : Rep Γ ε T σ H) : ∀ a, Mx Γ ε T σ a → a = Γ.p ∨ Ls H a := by
  rintro a (m | ⟨i, xs, e1, e2⟩ | t)
  · by_cases z : a = Γ.p
    · exact .inl z
    · rcases R.ml a m with z' | h
      · exact absurd z' z
      · by_cases zz : Zp Γ a
        · exact .inr (.inr (zp_at R.tz zz))
        · rcases h with ⟨xs, h⟩ | ⟨ps, h⟩
          · exact .inr (.inl ⟨xs, R.ext a _ ⟨fun _ => z, zz⟩ h⟩)
          · exact .inr (.inr ⟨ps, R.ext a _ ⟨fun _ => z, zz⟩ h⟩)
  · obtain ⟨b, vs, e3, _, h2, _⟩ := R.sl i _ e1
    rw [e3] at e2
    cases e2
    exact .inr (.inl ⟨_, h2⟩)
  · exact .inr (.inl (R.tmp a t).2.1)
/-- how the heap stands behind a call -/
def AfG (B : Bool) (Γ : Ga) (H H' : Hp) (n : Nat) : Prop := match B with
  | true => (∀ b o, b ≠ Γ.p → ¬ Zp Γ b → H b = some o → H' b = some o) ∧ PailAt H' Γ.p n ∧ LamX.Tabs Γ.tb H'
  | false => Same H H'
theorem AfG.of {B : Bool} {n : Nat} (R : Rep Γ ε T σ H) (h : Aft B Γ.p H H2 n) : AfG B Γ H H2 n := by
  cases B with
  | false => exact h
  | true => exact ⟨fun b o nb _ e => h.1 b o nb e, h.2, R.hp.elim fun o ho => tabs_exb R.tz ho h.1⟩
theorem call_aft {B : Bool} {Q : VK} {ε1 : List AV} {T1 : Addr → Prop} {H1 H' : Hp} {n n' : Nat} {K : RV → List AV → Prop} {r : RV} {v : V} (R0 : Rep Γ ε T σ H) (R1 : Rep Γ ε1 T1 σ H1) (s1 : Stp Γ ε T ε1 T1 σ H H1) (e2 : B = true → pnOf ε1 = some n)
    (ok : okRes r = true) (w : K r (aftP B n' ε1)) (af : AfG B Γ H1 H' n') (rr : ResR (Mx Γ ε1 T σ) H1 r v H') (q : ∀ r ε' v T' H', K r ε' → Rep Γ ε' T' σ H' → Stp Γ ε T ε' T' σ H H' → Den Γ ε' T' σ H r v H' → Q v H') : Q v H' := by
    have R2 := R1.less (T' := T) s1.t
    have s2 := s1.drop
    have key : ∃ ε3, ε3 = (aftP B n' ε1) ∧ Rep Γ ε3 T σ H' ∧ (∀ b o, b ≠ Γ.p → ¬ Zp Γ b → H1 b = some o → H' b = some o) ∧ (Γ.B = false → Same H1 H') ∧ ∀ b, Mx Γ ε3 T σ b ↔ Mx Γ ε1 T σ b := by
      cases B with
      | true =>
        have hB := (R1.pail (e2 rfl)).2
        obtain ⟨R3, mx⟩ := R2.drew (n := n') hB af.1 af.2.1 af.2.2
        exact ⟨_, rfl, R3, af.1, fun z => (by rw [hB] at z; cases z), mx⟩
      | false =>
        have af' : Same H1 H' := af
        exact ⟨_, rfl, R2.same af', fun b o _ _ h => af' _ _ h, fun _ => af', fun _ => Iff.rfl⟩
    obtain ⟨ε3, rfl, R3, ex, sm, mx⟩ := key
    have st : Stp Γ ε T (aftP B n' ε1) T σ H H' := ⟨fun b o nb h => by
      cases hB : Γ.B with
      | true => exact ex b o (nb.1 hB) nb.2 (s2.k b o nb h)
      | false => exact sm hB _ _ (s2.k b o nb h), R3.hp, R3.tz, fun _ h => h, fun b z => s2.m b ((mx b).mp z)⟩
    have f : Fit2 (Mx Γ ε1 T σ) (Mx Γ (aftP B n' ε1) T σ) H' H' := Fit2.less fun b z => (mx b).mp z
    cases r with
    | d x => exact q _ _ v T H' w R3 st (Dn.go f rr)
    | o P => exact q _ _ v T H' w R3 st (Stb.go f rr)
    | f xs =>
      obtain ⟨b, ws, e, h0, h1, h2, h3⟩ := rr
      have hb0 : H b = none := s1.none R0.hp h0
      -- the new list among the temporary ones
      have nb : ¬ Mx Γ (aftP B n' ε1) T σ b := fun z => R2.not_x h0 ((mx b).mp z)
      have R1' : Rep Γ ε1 T σ H1 := R2
      have f1 : Fit2 (Mx Γ ε1 T σ) (Mx Γ (aftP B n' ε1) (fun c => T c ∨ c = b) σ) H1 H' := ⟨fun c z => by
        rcases z with z | z | z | rfl
        · exact .inl ((mx c).mp (.inl z))
        · exact .inl ((mx c).mp (.inr (.inl z)))
        · exact .inl ((mx c).mp (.inr (.inr z)))
        · exact .inr h0, fun c o n h => ex c o (fun z => n (z ▸ .inl R1.pm)) (fun z => n (.inl (zp_M z))) h⟩
      have h0' : Γ.H0 b = none := R1.fresh h0
      have slots : ∀ (i : Nat) (e : AV), (aftP B n' ε1)[i]? = some e → Slot Γ (Mx Γ (aftP B n' ε1) (fun c => T c ∨ c = b) σ) H' e σ[i]? := fun i e he => by
        have sl := R3.sl i e he
        have old : ∀ {u : AV}, ε1[i]? = some u → Slot Γ (Mx Γ ε1 T σ) H1 u σ[i]? := fun h => R1'.sl i _ h
        have at1 : isP e = true ∨ ε1[i]? = some e := by
          cases B with
          | false => exact .inr he
          | true =>
            rcases setP_at he with (⟨m, z, rfl⟩ | ⟨m, z, _, rfl⟩) | ⟨z, _⟩
            · exact .inl rfl
            · exact .inl rfl
            · exact .inr z
        cases e with
        | u => trivial
        | p m => exact sl
        | q m z => exact sl
        | t z => exact sl
        | d x =>
          rcases at1 with z | z
          · cases z
          · obtain ⟨v, w1, w2⟩ := old z
            exact ⟨v, w1, w2.go f1⟩
        | l ys =>
          rcases at1 with z | z
          · cases z
          · obtain ⟨a2, vs2, w1, w2, w3, w4, w5⟩ := old z
            refine ⟨a2, vs2, w1, w2, ex _ _ (fun z => ?_) (zp_not R1.tz w3 nofun) w3, w4, w5.go f1⟩
            obtain ⟨o, qq⟩ := R1.hp0
            rw [← z, w2] at qq
            cases qq
        | o P =>
          rcases at1 with z | z
          · cases z
          · obtain ⟨v, w1, w2⟩ := old z
            exact ⟨v, w1, w2.go f1⟩
      have R4 : Rep Γ (aftP B n' ε1) (fun c => T c ∨ c = b) σ H' := by
        refine ⟨R3.ln, R3.pm, R3.hp, R3.hp0, R3.ext, R3.ml, fun c hc => ?_, R3.dis, slots, Γ.fst _ _ _ _ f1 R1'.fr, R3.tz⟩
        rcases hc with hc | rfl
        · exact R3.tmp c hc
        · exact ⟨h0', ⟨ws, h1⟩, fun z => nb (.inr (.inl z))⟩
      refine q _ _ v (fun c => T c ∨ c = b) H' w R4 ⟨st.k, st.hp, st.tz, fun c h => .inl h, fun c z => ?_⟩ ⟨b, ws, e, hb0, .inr rfl, h1, h2, h3.go ⟨fun c z => ?_, fun c o _ h => h⟩⟩
      · rcases z with z | z | z | rfl
        · exact st.m c (.inl z)
        · exact st.m c (.inr (.inl z))
        · exact st.m c (.inr (.inr z))
        · exact .inr hb0
      · rcases z with z | z | z | rfl
        · exact .inl (.inl ((mx c).mp (.inl z)))
        · exact .inl (.inl ((mx c).mp (.inr (.inl z))))
        · exact .inl (.inl ((mx c).mp (.inr (.inr z))))
        · exact .inl (.inr rfl)
    | b x => cases ok
    | p => cases ok
theorem call_core {B : Bool} {R : DR} {E : XK} {Q : VK} {ε1 : List AV} {T1 : Addr → Prop} {H1 : Hp} {vs vs2 : List V} {rs rs' rs2 : List RV} {n : Nat} {K : RV → List AV → Prop} (R0 : Rep Γ ε T σ H) (R1 : Rep Γ ε1 T1 σ H1) (s1 : Stp Γ ε T ε1 T1 σ H H1) (d1 : DenA Γ ε1 T1 σ H rs vs H1) (e1 : kas rs = some rs') (pr : ∀ {p : Addr} {M : Addr → Prop} {H : Hp}, ArgA p M H rs' vs → ArgA p M H rs2 vs2) (e2 : B = true → pnOf ε1 = some n)
    (g : R.run n rs2 fun r n' => okRes r = true ∧ K r (aftP B n' ε1)) (q : ∀ r ε' v T' H', K r ε' → Rep Γ ε' T' σ H' → Stp Γ ε T ε' T' σ H H' → Den Γ ε' T' σ H r v H' → Q v H') : SpD B R vs2 H1 Q E := by
  have R2 := R1.less (T' := T) s1.t
  exact ⟨Γ.p, Mx Γ ε1 T σ, n, rs2, .inl R1.pm, R1.hp, R2.lists, fun hb => (R1.pail (e2 hb)).1, pr (kas_arg R0 R1 s1 d1 e1), R.mono (fun r n' ⟨ok, w⟩ v H' af rr => call_aft R0 R1 s1 e2 ok w (.of R1 af) rr q) g⟩
theorem call_up {B : Bool} {R : DR} {a : XA} {E : XK} {Q : VK} {sp : Sp} (ad : ∀ vs H Q, SpD B R vs H Q E → sp vs H Q E) (h : up (xCall B R a) σ H Q) : upA a σ H fun vs H1 => sp vs H1 Q E := by
  obtain ⟨Γ, ε, T, R0, k⟩ := h
  exact upA1 R0 k fun rs vs ε1 T1 H1 ⟨rs', n, e1, e2, g⟩ R1 s1 d1 => ad vs H1 Q (call_core (K := fun r ε' => ∀ v T' H', Rep Γ ε' T' σ H' → Stp Γ ε T ε' T' σ H H' → Den Γ ε' T' σ H r v H' → Q v H') R0 R1 s1 d1 e1 (fun h => h) e2 g fun r ε' v T' H' w R' s' d' => w v T' H' R' s' d')
end
theorem x_call {X : Cx} {Ex : Expr} {B : Bool} {R : DR} {a : XA} {E : XK} {sp : Sp} (h : PE X Ex (tCall sp [] E (upA a))) (ad : ∀ vs H Q, SpD B R vs H Q E → sp vs H Q E) : PE X Ex (up (xCall B R a)) :=
  pe_wk h fun σ H Q q => call_up (fun vs H1 Q1 w => by rw [List.append_nil]; exact ad vs H1 Q1 w) q
/-! ### a def -/
def toAV (n : Nat) : RV → AV
  | .d x => .d x
  | .p => .p n
  | .o P => .o P
  | _ => .u
def noP : List RV → Bool
  | [] => true
  | .p :: _ => false
  | _ :: rs => noP rs
def okEnd (B : Bool) (K : RV → Nat → Prop) : XEnds where
  nx := fun ε => ∃ n, (B = true → pnOf ε = some n) ∧ K (.d .none) n
  rt := fun r ε => okRes r = true ∧ ∃ n, (B = true → pnOf ε = some n) ∧ K r n
theorem arg_at {p : Addr} {M : Addr → Prop} {H : Hp} : ∀ {rs : List RV} {vs : List V} {i : Nat} {r : RV}, ArgA p M H rs vs → rs[i]? = some r → ∃ v, vs[i]? = some v ∧ ArgR p M H r v
  | _, _, _, _, .nil, e => by simp at e
  | _, _, 0, _, .cons h _, e => by
    obtain rfl := Option.some.inj e
    exact ⟨_, rfl, h⟩
  | _, _, i + 1, _, .cons _ t, e => arg_at (i := i) t e
theorem arg_len {p : Addr} {M : Addr → Prop} {H : Hp} : ∀ {rs : List RV} {vs : List V}, ArgA p M H rs vs → vs.length = rs.length
  | _, _, .nil => rfl
  | _, _, .cons _ t => by rw [List.length_cons, List.length_cons, arg_len t]
theorem noP_at : ∀ {rs : List RV} {i : Nat}, noP rs = true → rs[i]? ≠ some .p
  | [], i, _ => by simp
  | .p :: _, _, h => by cases h
  | .d _ :: rs, i, h => by cases i with
    | zero => simp
    | succ i => exact noP_at (rs := rs) (i := i) h
  | .f _ :: rs, i, h => by cases i with
    | zero => simp
    | succ i => exact noP_at (rs := rs) (i := i) h
  | .b _ :: rs, i, h => by cases i with
    | zero => simp
    | succ i => exact noP_at (rs := rs) (i := i) h
  | .o _ :: rs, i, h => by cases i with
    | zero => simp
    | succ i => exact noP_at (rs := rs) (i := i) h
/-- the body of a def, entered -/
theorem enter {B : Bool} {R : DR} {t : XS} {N : List Str} {vs : List V} {H : Hp} {Q : VK} {E : XK} (h : SpD B R vs H Q E) (hn : vs.length ≤ N.length) (hp : ∀ n rs K, R.run n rs K → (B || noP rs) = true)
    (k : ∀ n rs K, R.run n rs K → t.run (okEnd B K) (rs.map (toAV n) ++ List.replicate (N.length - rs.length) .u)) : upS t { nx := fun _ H' => Q .non H', rt := Q } (start N vs) H := by
  obtain ⟨p, M, n, rs, pm, ph, ml, hP, ag, hr⟩ := h
  have hB := hp n rs _ hr
  have lv := arg_len ag
  let Γ : Ga := ⟨B, p, M, H, fun _ _ => True, fun _ _ _ _ _ _ => trivial, [], nofun, nofun⟩
  have noL : ∀ (i : Nat) (xs : List PyData), (rs.map (toAV n) ++ List.replicate (N.length - rs.length) AV.u)[i]? ≠ some (.l xs) := fun i xs e => by
    by_cases z : i < (rs.map (toAV n)).length
    · rw [List.getElem?_append_left z] at e
      obtain ⟨r, _, e⟩ := mapget e
      cases r <;> cases e
    · rw [List.getElem?_append_right (by omega), List.getElem?_replicate] at e
      split at e <;> cases e
  have mx : ∀ a, Mx Γ (rs.map (toAV n) ++ List.replicate (N.length - rs.length) AV.u) TN (start N vs) a ↔ M a := fun a => by
    constructor
    · rintro (z | ⟨i, xs, e, _⟩ | z)
      · exact z
      · exact absurd e (noL i xs)
      · exact z.elim
    · exact fun z => .inl z
  have f : Fit2 M (Mx Γ (rs.map (toAV n) ++ List.replicate (N.length - rs.length) AV.u) TN (start N vs)) H H := Fit2.less fun a z => (mx a).mp z
  have rep : Rep Γ (rs.map (toAV n) ++ List.replicate (N.length - rs.length) AV.u) TN (start N vs) H := by
    refine ⟨?_, pm, ph, ph, fun _ _ _ h => h, ml, fun a h => h.elim, fun i j xs ys h1 _ _ => absurd h1 (noL i xs), fun i e h => ?_, trivial, nofun⟩
    · unfold L2.start
      simp only [List.length_append, List.length_map, List.length_replicate, lv]
    · by_cases z : i < (rs.map (toAV n)).length
      · rw [List.getElem?_append_left z] at h
        obtain ⟨r, hr2, rfl⟩ := mapget h
        obtain ⟨v, hv, ar⟩ := arg_at ag hr2
        have sv : (start N vs)[i]? = some (some v) := by
          unfold L2.start
          rw [List.getElem?_append_left (by rw [List.length_map]; exact (List.getElem?_eq_some_iff.mp hv).1), List.getElem?_map, hv]
          rfl
        rw [sv]
        cases r with
        | d x => exact ⟨v, rfl, Dn.go f ar⟩
        | p =>
          have ar' : v = .ref p := ar
          have hB' : B = true := by
            cases B with
            | true => rfl
            | false =>
              rw [Bool.false_or] at hB
              exact absurd hr2 (noP_at hB)
          exact ⟨by rw [ar'], hP hB', hB'⟩
        | o P => exact ⟨v, rfl, Stb.go f ar⟩
        | f xs => trivial
        | b x => trivial
      · rw [List.getElem?_append_right (by omega), List.getElem?_replicate] at h
        split at h
        · cases h
          trivial
        · cases h
  have nz : ∀ b, ¬ Zp Γ b := fun b ⟨_, z, _⟩ => nomatch z
  refine ⟨Γ, _, rep, t.mono (fun e q σ' H' R' => ?_) (fun r e q v σ' T' H' R' d => ?_) (fun _ (h : False) => h.elim) (fun _ (h : False) => h.elim) (k n rs _ hr)⟩
  · obtain ⟨m, hm, q⟩ := q
    refine q .non H' ?_ .non
    cases B with
    | false => exact fun b o h => R'.ext b o ⟨nofun, nz b⟩ h
    | true => exact ⟨fun b o nb h => R'.ext b o ⟨fun _ => nb, nz b⟩ h, (R'.pail (hm rfl)).1⟩
  · obtain ⟨okr, m, hm, q⟩ := q
    have af : Aft B p H H' m := by
      cases B with
      | false => exact fun b o h => R'.ext b o ⟨nofun, nz b⟩ h
      | true => exact ⟨fun b o nb h => R'.ext b o ⟨fun _ => nb, nz b⟩ h, (R'.pail (hm rfl)).1⟩
    have g : Fit2 (Mx Γ e T' σ') M H' H' := Fit2.less fun a z => .inl z
    refine q v H' af ?_
    cases r with
    | d x => exact Dn.go g d
    | o P => exact Stb.go g d
    | f xs =>
      obtain ⟨a, ws, e1, h0, ht, h1, h2, h3⟩ := d
      exact ⟨a, ws, e1, h0, h1, h2, h3.go (Fit2.less fun b z => by
        rcases z with z | rfl
        · exact .inl z
        · exact .inr (.inr ht))⟩
    | b x => cases okr
    | p => cases okr
/-! ### isinstance -/
def isiD : String → PyData → Option Bool
  | "int", d => some (isInt d || isBl d)
  | "bool", d => some (isBl d)
  | "str", d => some (isStr d)
  | "tuple", d => some (isTup d)
  | _, _ => none
def xIsi (T : String) (t : XE) : XE := ⟨fun ε K => t.run ε fun r ε1 => ∃ d b, r.see = some d ∧ isiD T d = some b ∧ K (.d (.bool b)) ε1, fun h q => t.mono (fun _ _ ⟨d, b, e1, e2, w⟩ => ⟨d, b, e1, e2, h _ _ w⟩) q⟩
theorem See.ty {N : Addr → Prop} {H : Hp} {v : V} {d : PyData} {K : PySem.W.Frag} {p : Addr} (hp : N p) (h : See N H v d) : TyX K H v (.type (tyD d)) := by
  rcases h with h | ⟨y, rfl, rfl, _⟩ | ⟨a, vs, xs, rfl, rfl, h1, _⟩
  · exact (h.rp hp).ty
  · exact .base (.str y)
  · exact .base (.lst h1)
theorem xe_isi {X : Cx} {Ex : Expr} {T : String} {t : XE} {K : PySem.W.Frag} (h : PE X Ex (tCB (rIsi K) (tCons (up t) (tCons (tC (.ty T)) tNil)))) : PE X Ex (up (xIsi T t)) :=
  pe_wk h fun σ H Q ⟨Γ, ε, T0, R, k⟩ => up1 R k fun r x ε1 T1 H1 ⟨d, b, e1, e2, g⟩ R1 s1 d1 => by
    have ty := (d1.see e1).ty (K := K) (p := Γ.p) (.inl R1.pm)
    have fin : ∀ {b' : Bool}, b = b' → PySem.W.kitOne K (.type (tyD d)) (.type T) = some b' → rIsi K [x, .ty T] H1 Q := fun {b'} e kk => ⟨x, .ty T, _, _, b', rfl, .ty T, ty, kk, by rw [← e]; exact g _ T1 H1 R1 s1 (.bl b)⟩
    unfold isiD at e2
    split at e2
    · cases e2; exact fin rfl kit_int
    · cases e2; exact fin rfl kit_bool
    · cases e2; exact fin rfl kit_str
    · cases e2; exact fin rfl kit_tup
    · cases e2
/-! ### anything else, by its own reading -/
def xRaw (W : List AV → (RV → List AV → Prop) → Prop) : XE := ⟨fun ε K => ∃ K0 : RV → List AV → Prop, W ε K0 ∧ ∀ r e, K0 r e → K r e, fun h ⟨K0, w, q⟩ => ⟨K0, w, fun r e z => h r e (q r e z)⟩⟩
theorem xe_raw {X : Cx} {Ex : Expr} {t : TE} {W : List AV → (RV → List AV → Prop) → Prop} (h : PE X Ex t)
    (w : ∀ (Γ : Ga) (ε : List AV) (T : Addr → Prop) (σ : L2.St) (H : Hp) (Q : VK) (K0 : RV → List AV → Prop), W ε K0 → Rep Γ ε T σ H → (∀ r ε' v T' H', K0 r ε' → Rep Γ ε' T' σ H' → Stp Γ ε T ε' T' σ H H' → Den Γ ε' T' σ H r v H' → Q v H') → t σ H Q) : PE X Ex (up (xRaw W)) :=
  pe_wk h fun σ H Q ⟨Γ, ε, T, R, K0, q, k⟩ => w Γ ε T σ H Q K0 q R fun r ε' v T' H' z R' s' d' => k r ε' z v T' H' R' s' d'
end Cs
set_option maxHeartbeats 4000000
/-! Chains; comprehensions in their common forms; what is drawn. -/
namespace Cs
open PySem L2 PyProof.Rows
/-! ### a < b < c -/
def xChain (f f' : F2) (a b c : XE) : XE := ⟨fun ε K => a.run ε fun r ε1 => b.run ε1 fun s ε2 => ∃ d e q, r.see = some d ∧ s.see = some e ∧ f d e = some q ∧ q.1 ∧ ∃ k, q.2 = .d (.bool k) ∧
    if k = true then c.run ε2 fun u ε3 => ∃ g w, u.see = some g ∧ f' e g = some w ∧ w.1 ∧ K w.2 ε3 else K (.d (.bool false)) ε2,
  fun h q => a.mono (fun _ _ q => b.mono (fun _ _ ⟨d, e, q, a1, a2, a3, a4, k, a5, w⟩ => ⟨d, e, q, a1, a2, a3, a4, k, a5, by
    split at w
    · rw [if_pos (by assumption)]
      exact c.mono (fun _ _ ⟨g, u, b1, b2, b3, b4⟩ => ⟨g, u, b1, b2, b3, h _ _ b4⟩) w
    · rw [if_neg (by assumption)]
      exact h _ _ w⟩) q) q⟩
theorem chain_up {g g' : R2} {f f' : F2} {a b c : XE} {σ : L2.St} {H : Hp} {Q : VK} (hl : OpL g f) (hl' : OpL g' f') (h : up (xChain f f' a b c) σ H Q) : tChain g g' (up a) (up b) (up c) σ H Q := by
  obtain ⟨Γ, ε, T, R, k⟩ := h
  refine up2 R k fun r s x y ε2 T2 H2 ⟨d, e, q, e1, e2, e3, e4, k, e5, w⟩ R2 s2 d1 d2 => hl (d1.see e1) (d2.see e2) e3 e4 ?_
  have key : ∃ k', V.bl k = .bl k' ∧ if k' = true then up c σ H2 fun u H3 => g' y u H3 Q else Q (.bl false) H2 := by
    refine ⟨k, rfl, ?_⟩
    split at w
    · rw [if_pos (by assumption)]
      refine up1 R2 w fun u z ε3 T3 H3 ⟨gg, ww, b1, b2, b3, b4⟩ R3 s3 d3 => ?_
      have sA := s2.trans R.hp s3
      exact hl' ((d2.step R2 s3).see e2) (d3.see b1) b2 b3 (outs R R3 sA fun r er v T' H' R' s' d' => by subst er; exact b4 v T' H' R' s' d')
    · rw [if_neg (by assumption)]
      exact w _ T2 H2 R2 s2 (.bl _)
  rw [e5]
  refine ⟨fun v cc er dn => ?_, fun _ _ _ er => (nomatch er), fun _ _ _ er => (nomatch er), fun _ er => (nomatch er)⟩
  cases er
  cases dn
  exact key
theorem x_chain {X : Cx} {E : Expr} {g g' : R2} {f f' : F2} {a b c : XE} (h : PE X E (tChain g g' (up a) (up b) (up c))) (hl : OpL g f) (hl' : OpL g' f') : PE X E (up (xChain f f' a b c)) := pe_wk h fun _ _ _ q => chain_up hl hl' q
theorem xt_chain {X : Cx} {E : Expr} {g g' : R2} {f f' : F2} {a b c : XE} (h : PT X E (tTest (tChain g g' (up a) (up b) (up c)))) (hl : OpL g f) (hl' : OpL g' f') : PT X E (upT (xTest (xChain f f' a b c))) := xt_of (tTest_wk h fun _ _ _ q => chain_up hl hl' q)
/-! ### three names at once -/
theorem xs_par3 {X : Cx} {st : Stmt} {i j l : Nat} {w1 w2 w3 : Bool} {t : XA} (h : PS X st (tPar3 i j l (upA t))) : PS X st (upS (xSets [(w1, i), (w2, j), (w3, l)] t)) := ps_wk h fun D σ H ⟨Γ, ε, R, k⟩ =>
  upA1 R k fun rs vs ε1 T1 H1 ⟨ε2, he, g⟩ R1 s1 d1 => by
    obtain ⟨T', R'⟩ := sets_ok _ rs vs ε1 T1 σ ε2 R1 d1 he
    have len : ∃ a b c, vs = [a, b, c] := by
      cases d1 with
      | nil => cases he
      | @cons r v rs vs _ d t n =>
        unfold setsR at he
        split at he
        · cases t with
          | nil => cases he
          | @cons r' v' rs vs _ d' t n' =>
            unfold setsR at he
            split at he
            · cases t with
              | nil => cases he
              | @cons r2 v2 rs vs _ d2 t n2 =>
                unfold setsR at he
                split at he
                · cases t with
                  | nil => exact ⟨_, _, _, rfl⟩
                  | cons d3 t3 => cases he
                · cases he
            · cases he
        · cases he
    obtain ⟨a, b, c, rfl⟩ := len
    exact ⟨a, b, c, rfl, g _ H1 R'.nil⟩
/-! ### comprehensions -/
section
variable {it : XI} {g : XG} {tt : XT} {te : XE} {vs : List Nat} {ε : List AV} {K : RV → List AV → Prop}
theorem lcTurn_mono {d : PyData} {ε : List AV} {Y Y' : PyData → List AV → Prop} {Z Z' : List AV → Prop} (hy : ∀ x e, Y x e → Y' x e) (hz : ∀ e, Z e → Z' e) (h : lcTurn g tt te vs d ε Y Z) : lcTurn g tt te vs d ε Y' Z' :=
  g.mono (fun _ q => tt.mono (fun b _ q => by
    split at q
    · rw [if_pos (by assumption)]
      exact te.mono (fun r e' hq => by
        obtain ⟨x, e, y⟩ := hq
        exact ⟨x, e, hy _ _ y⟩) q
    · rw [if_neg (by assumption)]
      exact hz _ q) q) h
/-- each gives one, by a function of it -/
theorem lc_map (f : PyData → PyData) (h : it.run ε fun ds _ ε1 => ds.length ≤ 1000 ∧ (∀ d ∈ ds, lcTurn g tt te vs d (wipeA ε1 vs) (fun x e => x = f d ∧ e = wipeA ε1 vs) fun _ => False) ∧ K (.f (ds.map f)) (wipeA ε1 vs)) : (xLc it g tt te vs).run ε K := by
  rw [xLc_run]
  refine it.mono (fun ds fl ε1 q => ?_) h
  obtain ⟨hl, hs, k⟩ := q
  refine ⟨hl, fun i acc e => acc = (ds.take i).map f ∧ e = wipeA ε1 vs, ⟨ε1, ⟨rfl, rfl⟩, rfl⟩, fun acc e w => ?_, fun i d acc e hd w => ?_⟩
  · rw [w.1, w.2, List.take_of_length_le (Nat.le_refl _)]
    exact k
  · rw [w.2, w.1]
    refine lcTurn_mono (fun x e' q => ⟨?_, q.2⟩) (fun _ q => q.elim) (hs d (List.mem_of_getElem? hd))
    rw [take_snoc hd, List.map_append, q.1]
    rfl
/-- the same by the place -/
theorem lc_es (es : List PyData) (h : it.run ε fun ds _ ε1 => es.length = ds.length ∧ ds.length ≤ 1000 ∧ (∀ (i : Nat) (d x : PyData), ds[i]? = some d → es[i]? = some x → lcTurn g tt te vs d (wipeA ε1 vs) (fun y e => y = x ∧ e = wipeA ε1 vs) fun _ => False) ∧ K (.f es) (wipeA ε1 vs)) : (xLc it g tt te vs).run ε K := by
  rw [xLc_run]
  refine it.mono (fun ds fl ε1 q => ?_) h
  obtain ⟨he, hl, hs, k⟩ := q
  refine ⟨hl, fun i acc e => acc = es.take i ∧ e = wipeA ε1 vs, ⟨ε1, ⟨rfl, rfl⟩, rfl⟩, fun acc e w => ?_, fun i d acc e hd w => ?_⟩
  · rw [w.1, w.2, List.take_of_length_le (by omega)]
    exact k
  · rw [w.2, w.1]
    have hi := (List.getElem?_eq_some_iff.mp hd).1
    have hx : es[i]? = some es[i] := List.getElem?_eq_getElem (by omega)
    refine lcTurn_mono (fun x e' q => ⟨?_, q.2⟩) (fun _ q => q.elim) (hs i d _ hd hx)
    rw [take_snoc hx, q.1]
/-- what passes a test is kept -/
theorem lc_fil (f : PyData → Option PyData) (h : it.run ε fun ds _ ε1 => ds.length ≤ 1000 ∧ (∀ d ∈ ds, lcTurn g tt te vs d (wipeA ε1 vs) (fun x e => f d = some x ∧ e = wipeA ε1 vs) fun e => f d = none ∧ e = wipeA ε1 vs) ∧ K (.f (ds.filterMap f)) (wipeA ε1 vs)) : (xLc it g tt te vs).run ε K := by
  rw [xLc_run]
  refine it.mono (fun ds fl ε1 q => ?_) h
  obtain ⟨hl, hs, k⟩ := q
  refine ⟨hl, fun i acc e => acc = (ds.take i).filterMap f ∧ e = wipeA ε1 vs, ⟨ε1, ⟨rfl, rfl⟩, rfl⟩, fun acc e w => ?_, fun i d acc e hd w => ?_⟩
  · rw [w.1, w.2, List.take_of_length_le (Nat.le_refl _)]
    exact k
  · rw [w.2, w.1]
    refine lcTurn_mono (fun x e' q => ⟨?_, q.2⟩) (fun e' q => ⟨?_, q.2⟩) (hs d (List.mem_of_getElem? hd))
    · rw [fil_yes hd q.1]
    · rw [fil_no hd q.1]
/-- each is drawn -/
theorem lc_drw (εf : Nat → List AV) (n c : Nat) (ok : Nat → PyData → PyData → Prop) (h : it.run ε fun ds _ ε1 => wipeA (εf n) vs = wipeA ε1 vs ∧ ds.length ≤ 1000 ∧ (∀ (i : Nat) (d : PyData), ds[i]? = some d → lcTurn g tt te vs d (wipeA (εf (n + c * i)) vs) (fun x e => ok i d x ∧ e = wipeA (εf (n + c * i + c)) vs) fun _ => False) ∧
    ∀ es : List PyData, es.length = ds.length → (∀ (i : Nat) (d x : PyData), ds[i]? = some d → es[i]? = some x → ok i d x) → K (.f es) (wipeA (εf (n + c * ds.length)) vs)) : (xLc it g tt te vs).run ε K := by
  rw [xLc_run]
  refine it.mono (fun ds fl ε1 q => ?_) h
  obtain ⟨h0, hl, hs, k⟩ := q
  refine ⟨hl, fun i acc e => acc.length = i ∧ (∀ (j : Nat) (d x : PyData), ds[j]? = some d → acc[j]? = some x → ok j d x) ∧ e = wipeA (εf (n + c * i)) vs, ⟨ε1, ⟨rfl, fun j d x _ h => by simp at h, by rw [Nat.mul_zero, Nat.add_zero, h0]⟩, rfl⟩, fun acc e w => ?_, fun i d acc e hd w => ?_⟩
  · rw [w.2.2]
    exact k acc w.1 w.2.1
  · rw [w.2.2]
    refine lcTurn_mono (fun x e' q => ⟨by rw [List.length_append, w.1]; rfl, fun j d' x' hd' hx' => ?_, by rw [q.2, Nat.mul_succ, Nat.add_assoc]⟩) (fun _ q => q.elim) (hs i d hd)
    by_cases hj : j < acc.length
    · rw [List.getElem?_append_left hj] at hx'
      exact w.2.1 j d' x' hd' hx'
    · rw [List.getElem?_append_right (by omega)] at hx'
      have hj2 : j = i := by
        have z := (List.getElem?_eq_some_iff.mp hx').1
        rw [List.length_singleton] at z
        have := w.1
        omega
      subst hj2
      rw [w.1, Nat.sub_self] at hx'
      cases hx'
      rw [hd] at hd'
      cases hd'
      exact q.1
/-- a loop -/
theorem for_W {b : XS} {D : XEnds} (W : Nat → List AV → Prop) (h : it.run ε fun ds fl ε1 => fl = true ∧ W 0 ε1 ∧ (∀ e, W ds.length e → D.nx e) ∧ ∀ (i : Nat) (d : PyData) (e : List AV), ds[i]? = some d → W i e → g.run d e fun e2 => b.run { D with nx := W (i + 1), ct := W (i + 1), bk := D.nx } e2) : (xFor it g b).run D ε := by
  refine it.mono (fun ds fl ε1 q => ?_) h
  obtain ⟨h1, h2, h3, h4⟩ := q
  exact ⟨h1, W, h2, h3, h4⟩
end
end Cs
namespace Cs
open PySem L2 PyProof.Rows
theorem atI_ok {α : Type} {ds : List α} {r : Int} (h0 : 0 ≤ r) (h1 : r < ds.length) : ∃ d, ds[r.toNat]? = some d ∧ L2.atI ds r = some d := by
  have h : r.toNat < ds.length := by omega
  refine ⟨ds[r.toNat], List.getElem?_eq_getElem h, ?_⟩
  have := atI_nat (List.getElem?_eq_getElem h)
  rw [show ((r.toNat : Nat) : Int) = r by omega] at this
  exact this
theorem fIx_l {ds : List PyData} {r : Int} {d : PyData} (h : L2.atI ds r = some d) : fIx (.list ds) (.int r) = some (True, .d d) := by
  show (L2.atI ds r).map _ = _
  rw [h]
  rfl
theorem fIx_t {ds : List PyData} {r : Int} {d : PyData} (h : L2.atI ds r = some d) : fIx (.tuple ds) (.int r) = some (True, .d d) := by
  show (L2.atI ds r).map _ = _
  rw [h]
  rfl
theorem byIf {b : Prop} [Decidable b] {P Q : Prop} (h1 : b → P) (h2 : ¬ b → Q) : if b then P else Q := by
  split
  · exact h1 (by assumption)
  · exact h2 (by assumption)
/-- by its number -/
def onI (g : Int → PyData) : PyData → PyData
  | .int i => g i
  | d => d
theorem onI_map {g : Int → PyData} {xs : List Int} : (xs.map PyData.int).map (onI g) = xs.map g := by rw [List.map_map]; rfl
end Cs
set_option maxHeartbeats 4000000
/-! Methods, properties, calls by keywords over data; tuples known whole. -/
namespace Cs
open PySem L2 PyProof.Rows
/-- an instance of C, without an attribute of that name of its own -/
def InsM (C : Addr) (m : Str) (P : V → Hp → Prop) : Prop := ∀ v H, P v H → ∃ a dx fs, v = .ref a ∧ H a = some (.ins C dx fs) ∧ fs.lookup m = none
def xMeth (C : Addr) (m : Str) (B : Bool) (R : DR) (o : XE) (a : XA) : XE := ⟨fun ε K => o.run ε fun r ε1 => ∃ P, r = .o P ∧ InsM C m P ∧ a.run ε1 fun rs ε2 => ∃ rs' n, kas rs = some rs' ∧ (B = true → pnOf ε2 = some n) ∧ R.run n (.o P :: rs') fun r n' => okRes r = true ∧ K r (aftP B n' ε2),
  fun h q => o.mono (fun _ _ ⟨P, e, i, q⟩ => ⟨P, e, i, a.mono (fun _ _ ⟨rs, n, e1, e2, w⟩ => ⟨rs, n, e1, e2, R.mono (fun _ _ k => ⟨k.1, h _ _ k.2⟩) w⟩) q⟩) q⟩
theorem x_meth {X : Cx} {Ex : Expr} {C : Addr} {m : Str} {B : Bool} {R : DR} {o : XE} {a : XA} {E : XK} {sp : Sp} (h : PE X Ex (tMeth C m sp [] E (up o) (upA a))) (ad : ∀ vs H Q, SpD B R vs H Q E → sp vs H Q E) : PE X Ex (up (xMeth C m B R o a)) :=
  pe_wk h fun σ H Q ⟨Γ, ε, T, R0, k⟩ => up1 R0 k fun r x ε1 T1 H1 ⟨P, er, im, g⟩ R1 s1 d1 => by
    subst er
    have hP : P x H1 := d1 H1 fun _ _ _ h => h
    obtain ⟨b, dx, fs, rfl, hb, hl⟩ := im x H1 hP
    refine ⟨b, dx, fs, rfl, hb, hl, upA1 R1 g fun rs vs ε2 T2 H2 ⟨rs', n, e1, e2, w⟩ R2 s2 d2 => ?_⟩
    rw [List.append_nil]
    have dd : DenA Γ ε2 T2 σ H (.o P :: rs) (.ref b :: vs) H2 := .cons (d1.step R1 s2) (d2.early fun a => s1.none R0.hp) (fun xs a e => nomatch e)
    have e1' : kas (.o P :: rs) = some (.o P :: rs') := by
      show (kas rs).map _ = _
      rw [e1]
      rfl
    exact ad _ H2 Q (call_core (K := fun r ε' => ∀ v T' H', Rep Γ ε' T' σ H' → Stp Γ ε T ε' T' σ H H' → Den Γ ε' T' σ H r v H' → Q v H') R0 R2 (s1.trans R0.hp s2) dd e1' (fun h => h) e2 w fun r ε' v T' H' w R' s' d' => w v T' H' R' s' d')
def xProp (C : Addr) (R : DR) (o : XE) : XE := ⟨fun ε K => o.run ε fun r ε1 => ∃ P, r = .o P ∧ (∀ v H, P v H → ∃ a dx fs, v = .ref a ∧ H a = some (.ins C dx fs)) ∧ R.run 0 [.o P] fun r n' => okRes r = true ∧ K r ε1,
  fun h q => o.mono (fun _ _ ⟨P, e, i, w⟩ => ⟨P, e, i, R.mono (fun _ _ k => ⟨k.1, h _ _ k.2⟩) w⟩) q⟩
theorem x_prop {X : Cx} {Ex : Expr} {C : Addr} {R : DR} {o : XE} {E : XK} {sp : Sp} (h : PE X Ex (tProp C sp [] E (up o))) (ad : ∀ vs H Q, SpD false R vs H Q E → sp vs H Q E) : PE X Ex (up (xProp C R o)) :=
  pe_wk h fun σ H Q ⟨Γ, ε, T, R0, k⟩ => up1 R0 k fun r x ε1 T1 H1 ⟨P, er, im, w⟩ R1 s1 d1 => by
    subst er
    have hP : P x H1 := d1 H1 fun _ _ _ h => h
    obtain ⟨b, dx, fs, rfl, hb⟩ := im x H1 hP
    refine ⟨b, dx, fs, rfl, hb, ?_⟩
    have dd : DenA Γ ε1 T1 σ H [.o P] [.ref b] H1 := .cons d1 .nil (fun xs a e => nomatch e)
    exact ad _ H1 Q (call_core (B := false) (K := fun r ε' => ∀ v T' H', Rep Γ ε' T' σ H' → Stp Γ ε T ε' T' σ H H' → Den Γ ε' T' σ H r v H' → Q v H') R0 R1 s1 dd rfl (fun h => h) nofun w fun r ε' v T' H' w R' s' d' => w v T' H' R' s' d')
/-! ### calls by keywords alone -/
theorem xk_nil {X : Cx} : PK X [] (upA xNil) := ⟨fun pos pins s σ H Q I ⟨Γ, ε, T, R, k⟩ => pk_nil.run pos pins s σ H Q I (k [] T H R (.refl R) .nil)⟩
theorem xk_cons {X : Cx} {nm : Option Str} {e : Expr} {kpos : Pos} {kws : List Keyword} {a : XE} {b : XA} (ha : PE X e (up a)) (hb : PK X kws (upA b)) : PK X (⟨nm, e, kpos⟩ :: kws) (upA (xCons a b)) := ⟨fun pos pins s σ H Q I ⟨Γ, ε, T, R, k⟩ => (pk_cons ha hb).run pos pins s σ H Q I
  (up1 R k fun r x ε1 T1 H1 g R1 s1 d1 => upA1 R1 g fun rs xs ε2 T2 H2 g2 R2 s2 d2 => g2 _ T2 H2 R2 (s1.trans R.hp s2) (.cons (d1.step R1 s2) (d2.early fun a => s1.none R.hp) fun ys a er ev k zs h1 h2 => by
    have h0 := d2.fr k zs a h1 h2
    subst er
    obtain ⟨b, ws, e, _, _, h3, _⟩ := d1
    rw [ev] at e
    cases e
    rw [h0] at h3
    cases h3))⟩
theorem argA_app {p : Addr} {M : Addr → Prop} {H : Hp} : ∀ {rs qs : List RV} {vs ws : List V}, ArgA p M H rs vs → ArgA p M H qs ws → ArgA p M H (rs ++ qs) (vs ++ ws)
  | _, _, _, _, .nil, s => s
  | _, _, _, _, .cons h t, s => .cons h (argA_app t s)
theorem argA_rev {p : Addr} {M : Addr → Prop} {H : Hp} : ∀ {rs : List RV} {vs : List V}, ArgA p M H rs vs → ArgA p M H rs.reverse vs.reverse
  | _, _, .nil => .nil
  | _, _, .cons h t => by
    rw [List.reverse_cons, List.reverse_cons]
    exact argA_app (argA_rev t) (.cons h .nil)
/-- rv: whether they stand the other way round -/
def xCallK (rv B : Bool) (R : DR) (a : XA) : XE := ⟨fun ε K => a.run ε fun rs ε1 => ∃ rs' n, kas rs = some rs' ∧ (B = true → pnOf ε1 = some n) ∧ R.run n (if rv then rs'.reverse else rs') fun r n' => okRes r = true ∧ K r (aftP B n' ε1),
  fun h q => a.mono (fun _ _ ⟨rs, n, e1, e2, w⟩ => ⟨rs, n, e1, e2, R.mono (fun _ _ k => ⟨k.1, h _ _ k.2⟩) w⟩) q⟩
theorem x_callK {X : Cx} {Ex : Expr} {rv B : Bool} {R : DR} {a : XA} {E : XK} {sp : Sp} {m : Nat} (h : PE X Ex (tCallN 0 m sp (fun vs zs => vs ++ if rv then zs.reverse else zs) E tNil (upA a))) (hm : ∀ n rs K, R.run n rs K → rs.length = m) (ad : ∀ vs H Q, SpD B R vs H Q E → sp vs H Q E) : PE X Ex (up (xCallK rv B R a)) :=
  pe_wk h fun σ H Q ⟨Γ, ε, T, R0, k⟩ => upA1 R0 k fun rs vs ε1 T1 H1 ⟨rs', n, e1, e2, w⟩ R1 s1 d1 => by
    have key : ∀ {p : Addr} {M : Addr → Prop} {H : Hp}, ArgA p M H rs' vs → ArgA p M H (if rv then rs'.reverse else rs') (if rv then vs.reverse else vs) := fun {p M H} hq => by
      cases rv with
      | true => exact argA_rev hq
      | false => exact hq
    have l1 := arg_len (kas_arg R0 R1 s1 d1 e1)
    have l2 := hm _ _ _ w
    refine ⟨rfl, ?_, ad _ H1 Q (call_core (K := fun r ε' => ∀ v T' H', Rep Γ ε' T' σ H' → Stp Γ ε T ε' T' σ H H' → Den Γ ε' T' σ H r v H' → Q v H') R0 R1 s1 d1 e1 key e2 w fun r ε' v T' H' w R' s' d' => w v T' H' R' s' d')⟩
    rw [l1, ← l2]
    cases rv with
    | true => exact List.length_reverse.symm
    | false => rfl
/-! ### tuples known whole -/
def NF : Addr → Prop := fun _ => False
def WhP (ds : List PyData) : V → Hp → Prop := fun v H => ∃ l vs, v = .ref l ∧ Fz H l vs ∧ vs.length ≤ 1000 ∧ DnA NF H vs ds
theorem Stb.now {N : Addr → Prop} {H : Hp} {P : V → Hp → Prop} {v : V} (h : Stb N H P v) : P v H := h H fun _ _ _ h => h
mutual
/-- neither list nor dict stands in it -/
def imm : PyData → Bool
  | .list _ => false
  | .dict _ => false
  | .tuple ds => imms ds
  | _ => true
def imms : List PyData → Bool
  | [] => true
  | d :: ds => imm d && imms ds
end
theorem imms_map {α : Type} {f : α → PyData} : ∀ {xs : List α}, (∀ x ∈ xs, imm (f x) = true) → imms (xs.map f) = true
  | [], _ => rfl
  | x :: xs, h => by
    show (imm (f x) && imms (xs.map f)) = true
    rw [h x List.mem_cons_self, imms_map fun y hy => h y (List.mem_cons_of_mem _ hy)]
    rfl
mutual
theorem Dn.imm {N N' : Addr → Prop} {H : Hp} (hn : ∀ a xs, Rd H a (.tup xs) → ¬ N' a) : ∀ {v : V} {d : PyData}, Dn N H v d → Cs.imm d = true → Dn N' H v d
  | _, _, .non, _ => .non
  | _, _, .bl b, _ => .bl b
  | _, _, .int i, _ => .int i
  | _, _, .str x h, _ => .str x h
  | _, _, .lst _ _ _ _, e => by cases e
  | _, _, .tup n h z r, e => .tup (hn _ _ h) h z (DnA.imm hn r e)
  | _, _, .dct _ _, e => by cases e
theorem DnA.imm {N N' : Addr → Prop} {H : Hp} (hn : ∀ a xs, Rd H a (.tup xs) → ¬ N' a) : ∀ {vs : List V} {ds : List PyData}, DnA N H vs ds → Cs.imms ds = true → DnA N' H vs ds
  | _, _, .nil, _ => .nil
  | _, _, .cons h t, e => by
    have e' : (_ && _) = true := e
    rw [Bool.and_eq_true] at e'
    exact .cons (Dn.imm hn h e'.1) (DnA.imm hn t e'.2)
end
mutual
theorem Dn.rpt {N : Addr → Prop} {H : Hp} {p : Addr} (hp : ∀ xs, ¬ Rd H p (.tup xs)) : ∀ {v : V} {d : PyData}, Dn N H v d → Cs.imm d = true → RpT p H v d
  | _, _, .non, _ => .non
  | _, _, .bl b, _ => .bl b
  | _, _, .int i, _ => .int i
  | _, _, .str x h, _ => .str x h
  | _, _, .lst _ _ _ _, e => by cases e
  | _, _, .tup n h z r, e => .tup (fun q => hp _ (q ▸ h)) h z (DnA.rpt hp r e)
  | _, _, .dct _ _, e => by cases e
theorem DnA.rpt {N : Addr → Prop} {H : Hp} {p : Addr} (hp : ∀ xs, ¬ Rd H p (.tup xs)) : ∀ {vs : List V} {ds : List PyData}, DnA N H vs ds → Cs.imms ds = true → RpTA p H vs ds
  | _, _, .nil, _ => .nil
  | _, _, .cons h t, e => by
    have e' : (_ && _) = true := e
    rw [Bool.and_eq_true] at e'
    exact .cons (Dn.rpt hp h e'.1) (DnA.rpt hp t e'.2)
end
theorem not_tup {H : Hp} {p : Addr} (h : ∃ o, H p = some (.lst o)) : ∀ xs, ¬ Rd H p (.tup xs) := fun xs r => by
  obtain ⟨o, e⟩ := h
  rcases r with r | ⟨u, r⟩ <;> (rw [e] at r; cases r)
/-- addresses of lists, and p: no tuple is among them -/
theorem no_tup {M : Addr → Prop} {H : Hp} {p : Addr} (ml : ∀ a, M a → a = p ∨ Ls H a) (hp : ∀ xs, ¬ Rd H p (.tup xs)) : ∀ a xs, Rd H a (.tup xs) → ¬ M a := fun a xs h m => by
  rcases ml a m with rfl | ⟨ys, e⟩ | ⟨ys, e⟩
  · exact hp xs h
  · rcases h with h | ⟨o, h⟩ <;> (rw [e] at h; cases h)
  · rcases h with h | ⟨o, h⟩ <;> (rw [e] at h; cases h)
theorem Ls.exb {H H' : Hp} {a p : Addr} (h : Ls H a) (n : a ≠ p) (s : ∀ b o, b ≠ p → H b = some o → H' b = some o) : Ls H' a := by
  rcases h with ⟨x, e⟩ | ⟨x, e⟩
  · exact .inl ⟨x, s _ _ n e⟩
  · exact .inr ⟨x, s _ _ n e⟩
theorem Ls.keep {H H' : Hp} {a : Addr} (h : Ls H a) (s : ∀ b o, H b = some o → H' b = some o) : Ls H' a := by
  rcases h with ⟨x, e⟩ | ⟨x, e⟩
  · exact .inl ⟨x, s _ _ e⟩
  · exact .inr ⟨x, s _ _ e⟩
end Cs
namespace Cs
open PySem L2 PyProof.Rows
/-! ### numbers of places -/
def natD (ks : List Nat) : List PyData := ks.map fun k => PyData.int (k : Nat)
theorem rg_nat {n : Nat} : rgD 0 ((n : Nat) : Int).toNat = natD (List.range n) := by
  unfold rgD natD
  rw [Int.toNat_natCast]
  refine List.map_congr_left fun i _ => ?_
  rw [Int.zero_add]
theorem rg_lit {n : Nat} : rgD 0 n = natD (List.range n) := by
  unfold rgD natD
  refine List.map_congr_left fun i _ => ?_
  rw [Int.zero_add]
def filN (c : Nat → Bool) : PyData → Option PyData
  | .int i => if c i.toNat = true then some (.int i) else none
  | _ => none
theorem filN_nat {c : Nat → Bool} : ∀ {ks : List Nat}, (natD ks).filterMap (filN c) = natD (ks.filter c)
  | [] => rfl
  | k :: ks => by
    have e : filN c (PyData.int (k : Nat)) = if c k = true then some (PyData.int (k : Nat)) else none := by
      show (if c ((k : Nat) : Int).toNat = true then _ else _) = _
      rw [Int.toNat_natCast]
    show (PyData.int (k : Nat) :: natD ks).filterMap (filN c) = _
    rw [List.filterMap_cons, filN_nat (ks := ks), List.filter_cons, e]
    cases c k <;> rfl
theorem natD_len {ks : List Nat} : (natD ks).length = ks.length := List.length_map _
theorem natD_mem {ks : List Nat} {d : PyData} (h : d ∈ natD ks) : ∃ k, k ∈ ks ∧ d = .int (k : Nat) := by
  obtain ⟨k, hk, rfl⟩ := List.mem_map.mp h
  exact ⟨k, hk, rfl⟩
theorem natD_app {ks ls : List Nat} : natD ks ++ natD ls = natD (ks ++ ls) := by
  unfold natD
  rw [List.map_append]
theorem natD_flat {ks : List Nat} : (natD ks).all flatD = true := by
  unfold natD
  rw [List.all_map, List.all_eq_true]
  intro _ _
  rfl
theorem natD_any {ks : List Nat} {k : Nat} : ((natD ks).any fun y => y.eqv (.int (k : Nat))) = ks.contains k := by
  unfold natD
  induction ks with
  | nil => rfl
  | cons x ks ih =>
    rw [List.map_cons, List.any_cons, ih, List.contains_cons]
    congr 1
    show (((x : Nat) : Int) == ((k : Nat) : Int)) = (k == x)
    rw [Bool.eq_iff_iff, beq_iff_eq, beq_iff_eq]
    omega
theorem natD_ints {ks : List Nat} : intsD (natD ks) = some (ks.map fun k => ((k : Nat) : Int)) := by
  have := intsD_map (ks.map fun k => ((k : Nat) : Int))
  rw [List.map_map] at this
  exact this
theorem fMax_t {xs : List Int} (h : xs ≠ []) : fMax [.tuple (xs.map PyData.int)] = some (xs ≠ [], .d (.int (maxI xs))) := by
  show (intsD (xs.map PyData.int)).map _ = _
  rw [intsD_map]
  rfl
theorem fMax_l {xs : List Int} : fMax [.list (xs.map PyData.int)] = some (xs ≠ [], .d (.int (maxI xs))) := by
  show (intsD (xs.map PyData.int)).map _ = _
  rw [intsD_map]
  rfl
theorem fMin_l {xs : List Int} : fMin [.list (xs.map PyData.int)] = some (xs ≠ [], .d (.int (minI xs))) := by
  show (intsD (xs.map PyData.int)).map _ = _
  rw [intsD_map]
  rfl
/-- what is sorted of places that are all told by a test -/
theorem srt_nat {ks : List Nat} {n : Nat} {c : Nat → Bool} (nd : ks.Nodup) (h : ∀ k, k ∈ ks ↔ k < n ∧ c k = true) : srt (ks.map fun k => ((k : Nat) : Int)) = ((List.range n).filter c).map fun k => ((k : Nat) : Int) := by
  symm
  refine srt_un ?_ ?_
  · refine List.Perm.map _ ?_
    refine (List.perm_ext_iff_of_nodup (List.nodup_range.filter _) nd).mpr fun k => ?_
    rw [List.mem_filter, List.mem_range, h k]
  · rw [List.pairwise_map]
    refine List.Pairwise.imp (R := (· < ·)) (fun h => by omega) ?_
    exact List.pairwise_lt_range.filter _
end Cs
namespace Cs
open PySem L2 PyProof.Rows
theorem fin_n (ks : List Nat) (k : Nat) : ∃ P : Prop, fIn true (.int (k : Nat)) (.list (natD ks)) = some (P, .d (.bool (!ks.contains k))) ∧ P := by
  rw [← natD_any]
  exact ⟨_, rfl, rfl, (fun y e => nomatch e), natD_flat⟩
theorem fin_y (ks : List Nat) (k : Nat) : ∃ P : Prop, fIn false (.int (k : Nat)) (.list (natD ks)) = some (P, .d (.bool (ks.contains k))) ∧ P := by
  rw [← natD_any]
  exact ⟨_, rfl, rfl, (fun y e => nomatch e), natD_flat⟩
theorem filN_at {c : Nat → Bool} {k : Nat} : filN c (.int (k : Nat)) = if c k = true then some (.int (k : Nat)) else none := by
  show (if c ((k : Nat) : Int).toNat = true then _ else _) = _
  rw [Int.toNat_natCast]
/-- strings -/
def strD (xs : List Str) : List PyData := xs.map PyData.str
theorem strD_flat {xs : List Str} : (strD xs).all flatD = true := by
  unfold strD
  rw [List.all_map, List.all_eq_true]
  intro _ _
  rfl
theorem strD_any {xs : List Str} {x : Str} : ((strD xs).any fun y => y.eqv (.str x)) = xs.contains x := by
  unfold strD
  induction xs with
  | nil => rfl
  | cons y xs ih =>
    rw [List.map_cons, List.any_cons, ih, List.contains_cons]
    congr 1
    show (y == x) = (x == y)
    rw [Bool.eq_iff_iff, beq_iff_eq, beq_iff_eq]
    exact eq_comm
theorem fins_n {xs : List Str} {x : Str} (hx : x.length ≤ 1000) : ∃ P : Prop, fIn true (.str x) (.tuple (strD xs)) = some (P, .d (.bool (!xs.contains x))) ∧ P := by
  rw [← strD_any]
  exact ⟨_, rfl, rfl, (fun y e => by cases e; exact hx), strD_flat⟩
theorem fins_y {xs : List Str} {x : Str} (hx : x.length ≤ 1000) : ∃ P : Prop, fIn false (.str x) (.tuple (strD xs)) = some (P, .d (.bool (xs.contains x))) ∧ P := by
  rw [← strD_any]
  exact ⟨_, rfl, rfl, (fun y e => by cases e; exact hx), strD_flat⟩
end Cs
namespace Cs
open PySem L2 PyProof.Rows
theorem lay_all : ∀ {ds : List PyData}, (∀ d ∈ ds, d.canLay0 = true) → PyData.canLayAll0 ds = true
  | [], _ => rfl
  | d :: ds, h => by
    show (d.canLay0 && PyData.canLayAll0 ds) = true
    rw [h d List.mem_cons_self, lay_all fun e he => h e (List.mem_cons_of_mem _ he)]
    rfl
theorem dep_all {b : Nat} : ∀ {ds : List PyData}, (∀ d ∈ ds, d.depth ≤ b) → PyData.depthAll ds ≤ b
  | [], _ => Nat.zero_le _
  | d :: ds, h => by
    have h1 := h d List.mem_cons_self
    have h2 := dep_all fun e he => h e (List.mem_cons_of_mem _ he)
    show max d.depth (PyData.depthAll ds) ≤ b
    omega
/-- data that may be laid, of a depth -/
def ShD (b : Nat) (d : PyData) : Prop := d.canLay0 = true ∧ d.depth ≤ b
theorem ShD.list {b : Nat} {ds : List PyData} (h : ∀ d ∈ ds, ShD b d) : ShD (b + 1) (.list ds) := ⟨lay_all fun d hd => (h d hd).1, by
  rw [PyData.depth]
  have := dep_all fun d hd => (h d hd).2
  omega⟩
theorem ShD.tup {b : Nat} {ds : List PyData} (h : ∀ d ∈ ds, ShD b d) : ShD (b + 1) (.tuple ds) := ⟨lay_all fun d hd => (h d hd).1, by
  rw [PyData.depth]
  have := dep_all fun d hd => (h d hd).2
  omega⟩
theorem ShD.int {b : Nat} {i : Int} : ShD b (.int i) := ⟨rfl, Nat.zero_le _⟩
theorem ShD.bool {b : Nat} {i : Bool} : ShD b (.bool i) := ⟨rfl, Nat.zero_le _⟩
theorem ShD.none {b : Nat} : ShD b .none := ⟨rfl, Nat.zero_le _⟩
theorem ShD.up {b c : Nat} {d : PyData} (h : ShD b d) (k : b ≤ c) : ShD c d := ⟨h.1, Nat.le_trans h.2 k⟩
theorem ShD.sh {b : Nat} {d : PyData} (h : ShD b d) (k : b ≤ 64) : SeqAt.shaped d = true := by
  show (d.canLay0 && decide (d.depth ≤ 64)) = true
  rw [h.1, decide_eq_true (Nat.le_trans h.2 k)]
  rfl
theorem eqv_nil {ds : List PyData} : (PyData.list ds).eqv (.list []) = ds.isEmpty := by cases ds <;> rfl
theorem fEq_nil {ds : List PyData} {b : Nat} (h : ∀ d ∈ ds, ShD b d) (hb : b < 64) : ∃ P : Prop, fEq (.list ds) (.list []) = some (P, .d (.bool ds.isEmpty)) ∧ P := by
  rw [← eqv_nil]
  exact ⟨_, rfl, (ShD.list h).sh (by omega), rfl⟩
theorem fNe_nil {ds : List PyData} {b : Nat} (h : ∀ d ∈ ds, ShD b d) (hb : b < 64) : ∃ P : Prop, fNe (.list ds) (.list []) = some (P, .d (.bool !ds.isEmpty)) ∧ P := by
  rw [← eqv_nil]
  exact ⟨_, rfl, (ShD.list h).sh (by omega), rfl⟩
mutual
theorem eqv_refl : ∀ {d : PyData}, d.canLay0 = true → d.eqv d = true
  | .none, _ => rfl
  | .bool b, _ => by show (b == b) = true; exact beq_self_eq_true b
  | .int i, _ => by show (i == i) = true; exact beq_self_eq_true i
  | .str x, _ => by show (x == x) = true; exact beq_self_eq_true x
  | .list xs, h => eqv_refls h
  | .tuple xs, h => eqv_refls h
  | .dict _, h => by cases h
theorem eqv_refls : ∀ {ds : List PyData}, PyData.canLayAll0 ds = true → PyData.eqvAll ds ds = true
  | [], _ => rfl
  | d :: ds, h => by
    have h' : (d.canLay0 && PyData.canLayAll0 ds) = true := h
    rw [Bool.and_eq_true] at h'
    show (d.eqv d && PyData.eqvAll ds ds) = true
    rw [eqv_refl h'.1, eqv_refls h'.2]
    rfl
end
/-- the same twice, of what is no text and no number -/
theorem fNe_same {d : PyData} {b : Nat} (h : ShD b d) (hb : b ≤ 64) (hd : ∃ ds, d = .list ds ∨ d = .tuple ds) : ∃ P : Prop, fNe d d = some (P, .d (.bool false)) ∧ P := by
  have e := eqv_refl h.1
  obtain ⟨ds, rfl | rfl⟩ := hd
  · refine ⟨SeqAt.shaped (.list ds) = true ∧ SeqAt.shaped (.list ds) = true, ?_, h.sh hb, h.sh hb⟩
    show some (_, RV.d (.bool (!PyData.eqv _ _))) = _
    rw [e]
    rfl
  · refine ⟨SeqAt.shaped (.tuple ds) = true ∧ SeqAt.shaped (.tuple ds) = true, ?_, h.sh hb, h.sh hb⟩
    show some (_, RV.d (.bool (!PyData.eqv _ _))) = _
    rw [e]
    rfl
end Cs
set_option maxHeartbeats 4000000
/-! tuple(zip(t, l)): the pairs are kept. -/
namespace CsZip
open PySem
open PySem.Sem (wp)
theorem nq {a b : Nat} (h : a < b ∨ b < a) : @Ne Addr a b := fun e => by
  have e : a = b := e
  omega
theorem zip_no_len : typeLookup (.type "zip") "__len__" = pure none := by rw [typeLookup_type, builtinLookup_eq_fast]; kernel_rfl
theorem zip_no_hint : typeLookup (.type "zip") "__length_hint__" = pure none := by rw [typeLookup_type, builtinLookup_eq_fast]; kernel_rfl
theorem bB_at {t : Bool} {l : Addr} {xs : Array Value} {h h' : Heap} (b : bB t l xs h) (k : ∀ o, h.get? l = some o → h'.get? l = some o) : bB t l xs h' := by
  cases t with
  | true => obtain ⟨o, e, r⟩ := (show h.IsTuple l xs from b); exact ⟨o, k o e, r⟩
  | false => obtain ⟨o, e, r⟩ := (show h.IsList l xs from b); exact ⟨o, k o e, r⟩
theorem jB_at {t : Bool} {i l : Addr} {n : Nat} {h h' : Heap} (b : jB t i l n h) (k : ∀ o, h.get? i = some o → h'.get? i = some o) : jB t i l n h' := by
  cases t with
  | true => exact Heap.IsTupleIter.at b k
  | false => exact Heap.IsListIter.at b k
theorem jB_has {t : Bool} {i l : Addr} {n : Nat} {h : Heap} (b : jB t i l n h) : ∃ o, h.get? i = some o := by
  cases t with
  | true => obtain ⟨o, e, _⟩ := (show h.IsTupleIter i l n from b); exact ⟨o, e⟩
  | false => obtain ⟨o, e, _⟩ := (show h.IsListIter i l n from b); exact ⟨o, e⟩
section
variable {prog : Program} {w : World} {A : Around} {E : Value → Shared → Prop} {s : Shared} {z P O T i j l m : Addr} {f : Bool} {oT : Obj} {k n : Nat} {xs ys : Array Value} {x y a b : Value} {J1 J2 : Nat → Heap → Prop} {B1 B2 : Heap → Prop}
theorem stepH {Q : Value → Shared → Prop} (D : ZipApart z P O i j l m) (S1 : Src i l J1 B1 xs) (S2 : Src j m J2 B2 ys) (hz : IsZipHeld s.heap z P O T f) (hT : s.heap.get? T = some oT) (hP : IsPair s.heap P (.ref i) (.ref j)) (g1 : J1 k s.heap) (g2 : J2 n s.heap) (c1 : B1 s.heap) (c2 : B2 s.heap)
    (ex : xs[k]? = some x) (ey : ys[n]? = some y)
    (K : ∀ h', IsZipHeld h' z P O T true → J1 (k + 1) h' → J2 (n + 1) h' → IsPair h' s.heap.objs.size x y → h'.objs.size = s.heap.objs.size + 1 → (∀ c o, c ≠ z → c ≠ i → c ≠ j → s.heap.get? c = some o → h'.get? c = some o) →
      Q (.ref s.heap.objs.size) { s with heap := h' }) : wpAny (model prog w) A (Builtin.«zip.__next__» ⟨[.ref z], []⟩) (fun r t => ∃ v, r = .done (.ret v) ∧ Q v t) E s := by
  show wpAny _ _ (field (.ref z) 2 >>= _) _ _ s
  refine wpAny_bind (wpAny_field hz rfl (x := .bool false) rfl (show wpAny _ _ (field (.ref z) 3 >>= _) _ _ s from wpAny_bind (wpAny_field hz rfl (x := .ref P) rfl (wpAny_bind (wpAny_seqItems hP rfl ?_)))))
  refine (show wpAny _ _ (Builtin.SmallTypes.ownedTupleIsFree (.ref z) >>= _) _ _ s from wpAny_bind (wpAny_tupleHeld_zip hz hT fun h1 z1 t1 => ?_))
  simp only [Bool.false_eq_true, if_false]
  refine wpAny_bind ?_
  rw [← Array.forIn_toList]
  simp only [List.forIn_cons, List.forIn_nil]
  refine wpAny_bind (wpAny_bind (wpAny_holding (show wpAny _ _ (Builtin.SmallTypes.nextOf (.ref i) >>= _) _ _ _ from wpAny_bind (S1.go (s := { s with heap := h1 }) (S1.jx g1 t1.extBut D.i1z) (S1.bx c1 t1.extBut D.l1z) ex fun h2 u2 t2 => wpAny_pure (wpAny_pure ?_)))))
  refine wpAny_bind (wpAny_bind (wpAny_holding (show wpAny _ _ (Builtin.SmallTypes.nextOf (.ref j) >>= _) _ _ _ from wpAny_bind (S2.go (s := { s with heap := h2 }) (S2.jx (S2.jx g2 t1.extBut D.i2z) t2.extBut D.i12.symm) (S2.bx (S2.bx c2 t1.extBut D.l2z) t2.extBut D.l2i1) ey fun h3 u3 t3 => wpAny_pure (wpAny_pure (wpAny_pure ?_))))))
  show wpAny _ _ (newTuple [x, y] >>= _) _ _ _
  refine wpAny_bind (wpAny_newTuple ?_)
  have hsz : h3.objs.size = s.heap.objs.size := by rw [t3.1, t2.1, t1.1]
  have z3 : IsZipHeld h3 z P O T true := t3.extBut _ _ D.i2z.symm (t2.extBut _ _ D.i1z.symm z1)
  have hk : ∀ c o, c ≠ z → c ≠ i → c ≠ j → s.heap.get? c = some o → h3.get? c = some o := fun c o c1 c2 c3 e => t3.extBut _ _ c3 (t2.extBut _ _ c2 (t1.extBut _ _ c1 e))
  have v1 : J1 (k + 1) h3 := S1.jx u2 t3.extBut D.i12
  refine wpAny_pure ⟨_, rfl, ?_⟩
  show Q (.ref h3.objs.size) _
  have hp : IsPair (h3.push { cls := .type "tuple", data := .seq #[x, y] }) h3.objs.size x y := Heap.get?_push_size _ rfl
  have hz4 : (h3.push { cls := .type "tuple", data := .seq #[x, y] }).objs.size = h3.objs.size + 1 := Heap.size_push ..
  rw [hsz] at hp hz4 ⊢
  exact K _ (Heap.get?_push_of_some _ z3) (S1.ja v1 fun o e => Heap.get?_push_of_some _ e) (S2.ja u3 fun o e => Heap.get?_push_of_some _ e) hp hz4 fun c o c1 c2 c3 e => Heap.get?_push_of_some _ (hk c o c1 c2 c3 e)
theorem lastH {Q : Fin → Shared → Prop} (nh : A.handled = none) (D : ZipApart z P O i j l m) (S1 : Src i l J1 B1 xs) (S2 : Src j m J2 B2 ys) (hz : IsZipHeld s.heap z P O T f) (hT : s.heap.get? T = some oT) (hP : IsPair s.heap P (.ref i) (.ref j)) (g1 : J1 k s.heap) (g2 : J2 n s.heap) (c1 : B1 s.heap) (c2 : B2 s.heap)
    (ends : xs[k]? = none ∨ ys[n]? = none) (K : ∀ h' e, (∀ c o, c ≠ z → c ≠ i → c ≠ j → s.heap.get? c = some o → h'.get? c = some o) → (∃ o, h'.get? e = some o ∧ o.cls = .type "StopIteration") → E (.ref e) { s with heap := h' }) :
    wpAny (model prog w) A (Builtin.«zip.__next__» ⟨[.ref z], []⟩) Q E s := by
  show wpAny _ _ (field (.ref z) 2 >>= _) _ _ s
  refine wpAny_bind (wpAny_field hz rfl (x := .bool false) rfl (show wpAny _ _ (field (.ref z) 3 >>= _) _ _ s from wpAny_bind (wpAny_field hz rfl (x := .ref P) rfl (wpAny_bind (wpAny_seqItems hP rfl ?_)))))
  refine (show wpAny _ _ (Builtin.SmallTypes.ownedTupleIsFree (.ref z) >>= _) _ _ s from wpAny_bind (wpAny_tupleHeld_zip hz hT fun h1 z1 t1 => ?_))
  simp only [Bool.false_eq_true, if_false]
  refine wpAny_bind ?_
  rw [← Array.forIn_toList]
  simp only [List.forIn_cons, List.forIn_nil]
  refine wpAny_bind (wpAny_bind (wpAny_holding (show wpAny _ _ (Builtin.SmallTypes.nextOf (.ref i) >>= _) _ _ _ from ?_)))
  cases ex : xs[k]? with
  | none =>
    refine wpAny_bind (S1.fin (s := { s with heap := h1 }) nh (S1.jx g1 t1.extBut D.i1z) (S1.bx c1 t1.extBut D.l1z) ex fun h2 e t2 he => ?_)
    exact K h2 e (fun c o d1 d2 _ q => t2 _ _ d2 (t1.extBut _ _ d1 q)) he
  | some x =>
    have ey : ys[n]? = none := ends.resolve_left fun q => by rw [ex] at q; cases q
    refine wpAny_bind (S1.go (s := { s with heap := h1 }) (S1.jx g1 t1.extBut D.i1z) (S1.bx c1 t1.extBut D.l1z) ex fun h2 u2 t2 => wpAny_pure (wpAny_pure ?_))
    refine wpAny_bind (wpAny_bind (wpAny_holding (show wpAny _ _ (Builtin.SmallTypes.nextOf (.ref j) >>= _) _ _ _ from wpAny_bind (S2.fin (s := { s with heap := h2 }) nh (S2.jx (S2.jx g2 t1.extBut D.i2z) t2.extBut D.i12.symm) (S2.bx (S2.bx c2 t1.extBut D.l2z) t2.extBut D.l2i1) ey fun h3 e t3 he => ?_))))
    exact K h3 e (fun c o d1 d2 d3 q => t3 _ _ d3 (t2.extBut _ _ d2 (t1.extBut _ _ d1 q))) he
theorem nextH {Q : Option Value → Shared → Prop} (D : ZipApart z P O i j l m) (S1 : Src i l J1 B1 xs) (S2 : Src j m J2 B2 ys) (hz : IsZipHeld s.heap z P O T f) (hT : s.heap.get? T = some oT) (hP : IsPair s.heap P (.ref i) (.ref j)) (g1 : J1 k s.heap) (g2 : J2 n s.heap) (c1 : B1 s.heap) (c2 : B2 s.heap)
    (ex : xs[k]? = some x) (ey : ys[n]? = some y)
    (K : ∀ h', IsZipHeld h' z P O T true → J1 (k + 1) h' → J2 (n + 1) h' → IsPair h' s.heap.objs.size x y → h'.objs.size = s.heap.objs.size + 1 → (∀ c o, c ≠ z → c ≠ i → c ≠ j → s.heap.get? c = some o → h'.get? c = some o) →
      Q (some (.ref s.heap.objs.size)) { s with heap := h' }) : wpAny (model prog w) A (pyNext (.ref z)) Q E s := by
  have ty : s.TypeIs (.ref z) "zip" := ⟨_, hz, rfl⟩
  unfold pyNext
  exact wpAny_bind (wpAny_attempt (wpAny_callSpecial?_slot (name := Str.ofString "__next__") ty F.slot_zip_next (wpAny_call_entry F.slot_zip_next ty F.entry_zip_next
    (stepH D S1 S2 hz hT hP g1 g2 c1 c2 ex ey fun h' a1 a2 a3 a4 a5 a6 => wpAny_pure (K h' a1 a2 a3 a4 a5 a6)) (F.args_zip_next_1 _))))
theorem stopH {Q : Option Value → Shared → Prop} (nh : A.handled = none) (D : ZipApart z P O i j l m) (S1 : Src i l J1 B1 xs) (S2 : Src j m J2 B2 ys) (hz : IsZipHeld s.heap z P O T f) (hT : s.heap.get? T = some oT) (hP : IsPair s.heap P (.ref i) (.ref j)) (g1 : J1 k s.heap) (g2 : J2 n s.heap) (c1 : B1 s.heap) (c2 : B2 s.heap)
    (ends : xs[k]? = none ∨ ys[n]? = none) (K : ∀ h', (∀ c o, c ≠ z → c ≠ i → c ≠ j → s.heap.get? c = some o → h'.get? c = some o) → Q none { s with heap := h' }) : wpAny (model prog w) A (pyNext (.ref z)) Q E s := by
  have ty : s.TypeIs (.ref z) "zip" := ⟨_, hz, rfl⟩
  unfold pyNext
  refine wpAny_bind (wpAny_attempt (wpAny_callSpecial?_slot (name := Str.ofString "__next__") ty F.slot_zip_next (wpAny_call_entry F.slot_zip_next ty F.entry_zip_next (lastH nh D S1 S2 hz hT hP g1 g2 c1 c2 ends fun h' e hk ⟨o, ho, hc⟩ => ?_) (F.args_zip_next_1 _))))
  exact wpAny_bind (wpAny_isInstance (T := "StopIteration") (b := true) ⟨o, ho, hc⟩ isSubtype_stop (wpAny_pure (K _ hk)))
end
abbrev Prs (h : Heap) (T : Addr) (a b : Value) : Prop := IsPair h T a b
/-- what stands while the pairs are gathered: N: the size of the heap h0 before -/
structure Gz (h0 : Heap) (N : Nat) (t u : Bool) (l m : Addr) (xs ys : Array Value) (i : Nat) (acc : Array Value) (h : Heap) : Prop where
  kp : ∀ c o, h0.get? c = some o → h.get? c = some o
  P : IsPair h (N + 2) (.ref N) (.ref (N + 1))
  j1 : jB t N l i h
  j2 : jB u (N + 1) m i h
  z : (IsZip h (N + 4) (N + 2) (N + 3) .none ∧ ∃ a b, IsPair h (N + 3) a b) ∨ ∃ (T : Nat) (f : Bool) (oT : Obj), IsZipHeld h (N + 4) (N + 2) (N + 3) T f ∧ h.get? T = some oT ∧ N + 6 ≤ T
  ac : acc.size = i
  ps : ∀ (k : Nat) (v : Value), acc[k]? = some v → ∃ (p : Nat) (x y : Value), v = Value.ref p ∧ N + 6 ≤ p ∧ IsPair h p x y ∧ xs[k]? = some x ∧ ys[k]? = some y
  nd : ∀ (k k' : Nat) (v : Value), acc[k]? = some v → acc[k']? = some v → k = k'
  S : ∃ c, h.get? (N + 5) = some { cls := .type "list", dict := none, data := .seq acc c, slots := #[] }
  sz : N + 6 ≤ h.objs.size
section
variable {prog : Program} {w : World} {A : Around} {E : Value → Shared → Prop} {h0 : Heap} {t u : Bool} {l m : Addr} {xs ys : Array Value}
/-- the pair that came is put in -/
theorem Gz.put {N i : Nat} {acc : Array Value} {h h' : Heap} {p : Nat} {x y : Value} (D : ZipApart (N + 4) (N + 2) (N + 3) N (N + 1) l m) (b0 : ∀ (c : Nat) (o : Obj), h0.get? c = some o → c < N) (g : Gz h0 N t u l m xs ys i acc h) (hp : p = h.objs.size) (p0 : IsPair h' p x y) (ex : xs[i]? = some x) (ey : ys[i]? = some y)
    (k1 : jB t N l (i + 1) h') (k2 : jB u (N + 1) m (i + 1) h') (hz : ∃ (T : Nat) (f : Bool) (oT : Obj), IsZipHeld h' (N + 4) (N + 2) (N + 3) T f ∧ h'.get? T = some oT ∧ N + 6 ≤ T) (ss : h'.objs.size = h.objs.size + 1)
    (kk : ∀ c o, c ≠ N + 4 → c ≠ N + 3 → c ≠ N → c ≠ N + 1 → h.get? c = some o → h'.get? c = some o) : Gz h0 N t u l m xs ys (i + 1) (acc.push (.ref p)) (h'.update (N + 5) (Obj.mapSeq (·.push (.ref p)))) := by
  obtain ⟨c0, hS⟩ := g.S
  have hS' := kk _ _ (nq (by omega)) (nq (by omega)) (nq (by omega)) (nq (by omega)) hS
  have oth : ∀ c o, c ≠ N + 5 → h'.get? c = some o → (h'.update (N + 5) (Obj.mapSeq (·.push (.ref p)))).get? c = some o := fun c o hc e => (Heap.get?_update_other _ _ (Ne.symm hc)).trans e
  have all : ∀ c o, c ≠ N + 5 → c ≠ N + 4 → c ≠ N + 3 → c ≠ N → c ≠ N + 1 → h.get? c = some o → (h'.update (N + 5) (Obj.mapSeq (·.push (.ref p)))).get? c = some o := fun c o q1 q2 q3 q4 q5 e => oth c o q1 (kk c o q2 q3 q4 q5 e)
  have sz := g.sz
  refine ⟨fun c o e => ?_, all _ _ (nq (by omega)) (nq (by omega)) (nq (by omega)) (nq (by omega)) (nq (by omega)) g.P, jB_at k1 fun o e => oth _ o (nq (by omega)) e, jB_at k2 fun o e => oth _ o (nq (by omega)) e, ?_, by rw [Array.size_push, g.ac], fun k v e => ?_, fun k k' v e e' => ?_, ⟨_, Heap.get?_update_self _ hS' rfl⟩, ?_⟩
  · have := b0 c o e
    exact all c o (nq (by omega)) (nq (by omega)) (nq (by omega)) (nq (by omega)) (nq (by omega)) (g.kp c o e)
  · obtain ⟨T, f, oT, e1, e2, e3⟩ := hz
    exact .inr ⟨T, f, oT, oth _ _ (nq (by omega)) e1, oth _ _ (nq (by omega)) e2, e3⟩
  · rw [Array.getElem?_push, g.ac] at e
    split at e
    · rename_i q
      subst q
      cases e
      exact ⟨p, x, y, rfl, by omega, oth _ _ (nq (by omega)) p0, ex, ey⟩
    · obtain ⟨p', x', y', e1, e2, e3, e4, e5⟩ := g.ps k v e
      exact ⟨p', x', y', e1, e2, all _ _ (nq (by omega)) (nq (by omega)) (nq (by omega)) (nq (by omega)) (nq (by omega)) e3, e4, e5⟩
  · have old : ∀ k : Nat, acc[k]? = some (Value.ref p) → False := fun k e => by
      obtain ⟨p', x', y', e1, e2, e3, _⟩ := g.ps k _ e
      cases e1
      have q : p < h.objs.size := Heap.lt_size e3
      omega
    rw [Array.getElem?_push, g.ac] at e e'
    split at e
    · split at e'
      · omega
      · cases e
        exact (old _ e').elim
    · split at e'
      · cases e'
        exact (old _ e).elim
      · exact g.nd k k' v e e'
  · rw [Heap.size_update]
    omega
/-- what is left when all is gathered -/
structure Gf (h0 : Heap) (N : Nat) (xs ys : Array Value) (acc : Array Value) (h : Heap) : Prop where
  kp : ∀ c o, h0.get? c = some o → h.get? c = some o
  ac : acc.size = min xs.size ys.size
  ps : ∀ (k : Nat) (v : Value), acc[k]? = some v → ∃ (p : Nat) (x y : Value), v = Value.ref p ∧ N + 6 ≤ p ∧ IsPair h p x y ∧ xs[k]? = some x ∧ ys[k]? = some y
  nd : ∀ (k k' : Nat) (v : Value), acc[k]? = some v → acc[k']? = some v → k = k'
  S : ∃ c, h.get? (N + 5) = some { cls := .type "list", dict := none, data := .seq acc c, slots := #[] }
theorem zip_loop {R : Result → Shared → Prop} {N : Nat} {res : Value} (D : ZipApart (N + 4) (N + 2) (N + 3) N (N + 1) l m) (hh : A.handled = none) (b0 : ∀ (c : Nat) (o : Obj), h0.get? c = some o → c < N) (c1 : bB t l xs h0) (c2 : bB u m ys h0) (hn : min xs.size ys.size ≤ 1000) :
    ∀ (k i : Nat) (s : Shared) (acc : Array Value), min xs.size ys.size - i = k → i ≤ min xs.size ys.size → Gz h0 N t u l m xs ys i acc s.heap → (∀ h' acc', Gf h0 N xs ys acc' h' → R (.ok (.ret res)) { s with heap := h' }) →
    codeAny (model prog w) A (.builtin "list.extend.loop" ⟨[.ref (N + 5), .ref (N + 4), res], []⟩) R s := by
  have S1 := src t N l xs
  have S2 := src u (N + 1) m ys
  have hh1 : A.in1.handled = none := hh
  intro k
  induction k with
  | zero =>
    intro i s acc hk hi g hR
    have hin : i = min xs.size ys.size := by omega
    subst hin
    refine codeAny_builtin F.entry_extend_loop ?_
    rw [Around.under_plainId F.plain_extend_loop _]
    show wpAny _ A.in1 (pyNext (.ref (N + 4)) >>= _) _ _ s
    have hend : xs[min xs.size ys.size]? = none ∨ ys[min xs.size ys.size]? = none := by
      rcases Nat.le_total xs.size ys.size with h | h
      · exact .inl (Array.getElem?_eq_none (by rw [Nat.min_eq_left h]; exact Nat.le_refl _))
      · exact .inr (Array.getElem?_eq_none (by rw [Nat.min_eq_right h]; exact Nat.le_refl _))
    have d1 : bB t l xs s.heap := bB_at c1 fun o e => g.kp _ o e
    have d2 : bB u m ys s.heap := bB_at c2 fun o e => g.kp _ o e
    have fin : ∀ h', (∀ c o, c ≠ N + 4 → c ≠ N + 3 → c ≠ N → c ≠ N + 1 → s.heap.get? c = some o → h'.get? c = some o) → R (.ok (.ret res)) { s with heap := h' } := fun h' kk => by
      refine hR h' acc ⟨fun c o e => ?_, g.ac, fun k v e => ?_, g.nd, ?_⟩
      · have := b0 c o e
        exact kk c o (nq (by omega)) (nq (by omega)) (nq (by omega)) (nq (by omega)) (g.kp c o e)
      · obtain ⟨p, x, y, e1, e2, e3, e4⟩ := g.ps k v e
        exact ⟨p, x, y, e1, e2, kk _ _ (nq (by omega)) (nq (by omega)) (nq (by omega)) (nq (by omega)) e3, e4⟩
      · obtain ⟨c, e⟩ := g.S
        exact ⟨c, kk _ _ (nq (by omega)) (nq (by omega)) (nq (by omega)) (nq (by omega)) e⟩
    rcases g.z with ⟨hz, a, b, hO⟩ | ⟨T, f, oT, hz, hT, _⟩
    · exact wpAny_bind (stop_ hh1 D S1 S2 hz g.P hO g.j1 g.j2 d1 d2 hend fun h' kk => wpAny_pure (fin h' fun c o q1 q2 q3 q4 e => kk c o q1 q2 q3 q4 e))
    · exact wpAny_bind (stopH hh1 D S1 S2 hz hT g.P g.j1 g.j2 d1 d2 hend fun h' kk => wpAny_pure (fin h' fun c o q1 q2 q3 q4 e => kk c o q1 q3 q4 e))
  | succ k ih =>
    intro i s acc hk hi g hR
    have hlt : i < min xs.size ys.size := by omega
    have ex := Array.getElem?_eq_getElem (xs := xs) (i := i) (by omega)
    have ey := Array.getElem?_eq_getElem (xs := ys) (i := i) (by omega)
    refine codeAny_builtin F.entry_extend_loop ?_
    rw [Around.under_plainId F.plain_extend_loop _]
    show wpAny _ A.in1 (pyNext (.ref (N + 4)) >>= _) _ _ s
    have d1 : bB t l xs s.heap := bB_at c1 fun o e => g.kp _ o e
    have d2 : bB u m ys s.heap := bB_at c2 fun o e => g.kp _ o e
    have sz := g.sz
    have ac := g.ac
    have sl : (1000 : Nat) ≤ sizeLine := by rw [sizeLine_eq]; decide
    have tail : ∀ h' : Heap, Gz h0 N t u l m xs ys (i + 1) (acc.push (.ref s.heap.objs.size)) (h'.update (N + 5) (Obj.mapSeq (·.push (.ref s.heap.objs.size)))) → codeAny (model prog w) A (.builtin "list.extend.loop" ⟨[.ref (N + 5), .ref (N + 4), res], []⟩) R { s with heap := h'.update (N + 5) (Obj.mapSeq (·.push (.ref s.heap.objs.size))) } := fun h' g' =>
      ih (i + 1) _ _ (by omega) hlt g' fun h'' acc' gf => hR h'' acc' gf
    obtain ⟨c0, hS⟩ := id g.S
    rcases g.z with ⟨hz, a, b, hO⟩ | ⟨T, f, oT, hz, hT, lT⟩
    · refine wpAny_bind (next D S1 S2 hz g.P hO g.j1 g.j2 d1 d2 ex ey fun h' a1 _ a3 a4 a5 a6 kk => ?_)
      have g' := g.put D b0 rfl a5 ex ey a3 a4 ⟨_, _, _, a1, a5, sz⟩ a6 kk
      have hS' := kk _ _ (nq (by omega)) (nq (by omega)) (nq (by omega)) (nq (by omega)) hS
      show wpAny _ A.in1 (updateSeq (N + 5) (·.push (.ref s.heap.objs.size)) >>= _) _ _ _
      exact wpAny_bind (wpAny_updateSeq hS' rfl (wpAny_pure ⟨plainId_quiet F.plain_extend_loop _, tail h' g'⟩) (by omega) (by rw [Array.size_push]; omega))
    · refine wpAny_bind (nextH D S1 S2 hz hT g.P g.j1 g.j2 d1 d2 ex ey fun h' a1 a3 a4 a5 a6 kk => ?_)
      have g' := g.put D b0 rfl a5 ex ey a3 a4 ⟨_, _, _, a1, kk _ _ (nq (by omega)) (nq (by omega)) (nq (by omega)) hT, lT⟩ a6 fun c o q1 _ q3 q4 e => kk c o q1 q3 q4 e
      have hS' := kk _ _ (nq (by omega)) (nq (by omega)) (nq (by omega)) hS
      show wpAny _ A.in1 (updateSeq (N + 5) (·.push (.ref s.heap.objs.size)) >>= _) _ _ _
      exact wpAny_bind (wpAny_updateSeq hS' rfl (wpAny_pure ⟨plainId_quiet F.plain_extend_loop _, tail h' g'⟩) (by omega) (by rw [Array.size_push]; omega))
end
section
variable {prog : Program} {w : World} {A : Around} {E : Value → Shared → Prop} {s : Shared} {t u : Bool} {l m : Addr} {xs ys : Array Value}
/-- what a fresh zip looks like, made at a heap of size N -/
structure Zz (h0 : Heap) (N : Nat) (t u : Bool) (l m : Addr) (h : Heap) : Prop where
  kp : ∀ c o, h0.get? c = some o → h.get? c = some o
  z : IsZip h (N + 4) (N + 2) (N + 3) .none
  P : IsPair h (N + 2) (.ref N) (.ref (N + 1))
  O : IsPair h (N + 3) .none .none
  j1 : jB t N l 0 h
  j2 : jB u (N + 1) m 0 h
  sz : h.objs.size = N + 5
theorem call_zipS {prog : Program} {w : World} {A : Around} {E : Value → Shared → Prop} {s : Shared} {t u : Bool} {l m : Addr} {xs ys : Array Value} {Q : Value → Shared → Prop} (ne : t ≠ u) (e1 : bB t l xs s.heap) (e2 : bB u m ys s.heap)
    (k : ∀ h', Zz s.heap s.heap.objs.size t u l m h' → Q (.ref (s.heap.objs.size + 4)) { s with heap := h' }) : wpAny (model prog w) A (call (.type "zip") [.ref l, .ref m]) Q E s := by
  refine callType_new F.called_zip (by decide) (F.typeCall_zip_2 _ _) (F.newCall_zip_2 _ _) (fun obj => F.args_object_init_3 obj _ _) F.entry_zip_new (made t u ne l m xs ys) ⟨e1, e2, ?_⟩
  have n1 : (hp1 t s.heap l).objs.size = s.heap.objs.size + 1 := Heap.size_push ..
  have n2 : (hp1 u (hp1 t s.heap l) m).objs.size = s.heap.objs.size + 2 := by rw [Heap.size_push, n1]
  have n3 : (hp3 t u s.heap l m).objs.size = s.heap.objs.size + 3 := by rw [Heap.size_push, n2]
  have n4 : (hp4 t u s.heap l m).objs.size = s.heap.objs.size + 4 := by rw [Heap.size_push, n3]
  have q5 : (hp5 t u s.heap l m).get? (hp4 t u s.heap l m).objs.size = some _ := Heap.get?_push_size _ rfl
  have q4 : (hp5 t u s.heap l m).get? (hp3 t u s.heap l m).objs.size = some _ := Heap.get?_push_of_some _ (Heap.get?_push_size _ rfl)
  have q3 : (hp5 t u s.heap l m).get? (hp1 u (hp1 t s.heap l) m).objs.size = some _ := Heap.get?_push_of_some _ (Heap.get?_push_of_some _ (Heap.get?_push_size _ rfl))
  have q2 : (hp5 t u s.heap l m).get? (hp1 t s.heap l).objs.size = some _ := Heap.get?_push_of_some _ (Heap.get?_push_of_some _ (Heap.get?_push_of_some _ (Heap.get?_push_size _ rfl)))
  have q1 : (hp5 t u s.heap l m).get? s.heap.objs.size = some _ := Heap.get?_push_of_some _ (Heap.get?_push_of_some _ (Heap.get?_push_of_some _ (Heap.get?_push_of_some _ (Heap.get?_push_size _ rfl))))
  show _ ∧ _
  rw [n2, n3, n4] at q5
  rw [n1, n2] at q3
  rw [n3] at q4
  rw [n1] at q2
  rw [n4]
  refine ⟨⟨_, q5, rfl⟩, k _ ⟨fun c o x => Heap.get?_push_of_some _ (Heap.get?_push_of_some _ (Heap.get?_push_of_some _ (Heap.get?_push_of_some _ (Heap.get?_push_of_some _ x)))), q5, q3, q4, ?_, ?_, by rw [Heap.size_push, n4]⟩⟩
  · cases t <;> exact ⟨_, q1, rfl, rfl⟩
  · cases u <;> exact ⟨_, q2, rfl, rfl⟩
theorem collect_zip {h0 : Heap} {N : Nat} {Q : List Value → Shared → Prop} (D : ZipApart (N + 4) (N + 2) (N + 3) N (N + 1) l m) (hh : A.handled = none) (b0 : ∀ (c : Nat) (o : Obj), h0.get? c = some o → c < N) (c1 : bB t l xs h0) (c2 : bB u m ys h0) (hn : min xs.size ys.size ≤ 1000) (hz : Zz h0 N t u l m s.heap)
    (hQ : ∀ h' acc, Gf h0 N xs ys acc h' → Q acc.toList { s with heap := h' }) : wpAny (model prog w) A (collect (.ref (N + 4))) Q E s := by
  have es := hz.sz
  unfold collect
  refine wpAny_bind (wpAny_runValue (codeAny_builtin F.entry_proto_collect ?_))
  rw [Around.under_plainId F.plain_proto_collect _]
  show wpAny _ A.in1 (newList [] >>= fun l' => again (.builtin "list.__iadd__" ⟨[l', .ref (N + 4)], []⟩)) _ _ s
  refine wpAny_bind (wpAny_newObj_type ?_)
  refine wpAny_pure ⟨plainId_quiet F.plain_list_iadd _, codeAny_builtin F.entry_list_iadd ?_⟩
  rw [Around.under_plainId F.plain_list_iadd _, es]
  have hS1 : (s.heap.push { cls := .type "list", data := .seq ([] : List Value).toArray }).get? (N + 5) = some { cls := .type "list", data := .seq ([] : List Value).toArray } := es ▸ Heap.get?_push_size _ rfl
  have old : ∀ c o, s.heap.get? c = some o → (s.heap.push { cls := .type "list", data := .seq ([] : List Value).toArray }).get? c = some o := fun c o e => Heap.get?_push_of_some _ e
  have ss : (s.heap.push { cls := .type "list", data := .seq ([] : List Value).toArray }).objs.size = N + 6 := by rw [Heap.size_push, es]
  generalize s.heap.push { cls := .type "list", data := .seq ([] : List Value).toArray } = p1 at hS1 old ss ⊢
  have ty : ∀ tk, ({ s with heap := p1, toks := tk } : Shared).TypeIs (.ref (N + 4)) "zip" := fun tk => ⟨_, old _ _ hz.z, rfl⟩
  have h1 : Builtin.List.listSameRef (.ref (N + 5)) (.ref (N + 4)) = false := by
    simp only [Builtin.List.listSameRef, beq_eq_false_iff_ne]
    exact nq (by omega)
  show wpAny _ A.in1 (Builtin.List.listExtendWith (.ref (N + 5)) (.ref (N + 4)) (.ref (N + 5))) _ _ _
  unfold Builtin.List.listExtendWith
  refine wpAny_bind (wpAny_typeOf (ty _) ?_)
  have h2 : (Value.type "zip" == Value.type "list") = false := by decide
  have h3 : (Value.type "zip" == Value.type "tuple") = false := by decide
  simp only [h1, h2, h3, Bool.or_false, Bool.false_eq_true, if_false]
  refine wpAny_bind (wpAny_pyIter_zip (old _ _ hz.z) ?_)
  refine wpAny_bind (wpAny_holding ?_)
  unfold Builtin.List.listLengthHint
  refine wpAny_bind (wpAny_specialOf (ty _) zip_no_len ?_)
  show wpAny _ A.in1 (specialOf (Value.ref (N + 4)) (Str.ofString "__length_hint__") >>= _) _ _ _
  refine wpAny_bind (wpAny_specialOf (ty _) zip_no_hint ?_)
  refine wpAny_pure ?_
  show wpAny _ A.in1 (rule "list.extend.makes-room" >>= fun _ => Builtin.List.listTouch (.ref (N + 5)) >>= fun _ =>
    again (.builtin "list.extend.loop" ⟨[.ref (N + 5), .ref (N + 4), .ref (N + 5)], []⟩)) _ _ _
  refine wpAny_bind (wpAny_rule ?_)
  refine wpAny_bind ?_
  show wpAny _ A.in1 (updateSeq (N + 5) (·.push .none) >>= fun _ => updateSeq (N + 5) (·.pop)) _ _ _
  refine wpAny_bind (wpAny_updateSeq hS1 rfl ?_)
  have hS2 := Heap.get?_update_self (Obj.mapSeq (·.push Value.none)) hS1 rfl
  refine wpAny_updateSeq hS2 rfl ?_
  have hS3 := Heap.get?_update_self (Obj.mapSeq (·.pop)) hS2 rfl
  have oth : ∀ c o, s.heap.get? c = some o → ((p1.update (N + 5) (Obj.mapSeq (·.push Value.none))).update (N + 5) (Obj.mapSeq (·.pop))).get? c = some o := fun c o e => by
    have lt : @LT.lt Nat _ c s.heap.objs.size := Heap.lt_size e
    have ne : @Ne Addr (N + 5) c := nq (by omega)
    exact (Heap.get?_update_other _ _ ne).trans ((Heap.get?_update_other _ _ ne).trans (old c o e))
  have g0 : Gz h0 N t u l m xs ys 0 #[] ((p1.update (N + 5) (Obj.mapSeq (·.push Value.none))).update (N + 5) (Obj.mapSeq (·.pop))) := by
    refine ⟨fun c o e => oth c o (hz.kp c o e), oth _ _ hz.P, jB_at hz.j1 fun o e => oth _ o e, jB_at hz.j2 fun o e => oth _ o e, .inl ⟨oth _ _ hz.z, _, _, oth _ _ hz.O⟩, rfl, fun k v e => by simp at e, fun k k' v e => by simp at e, ⟨_, hS3⟩, ?_⟩
    rw [Heap.size_update, Heap.size_update, ss]
    exact Nat.le_refl _
  refine wpAny_pure ⟨plainId_quiet F.plain_extend_loop _, zip_loop D hh b0 c1 c2 hn _ 0 _ #[] rfl (Nat.zero_le _) g0 fun h' acc gf => ?_⟩
  obtain ⟨c, hS⟩ := gf.S
  show wpAny _ A (load (N + 5) >>= _) _ _ _
  refine wpAny_bind (wpAny_load hS ?_)
  exact wpAny_pure (hQ h' acc gf)
theorem call_tuple_zip {h0 : Heap} {N : Nat} {Q : Value → Shared → Prop} (D : ZipApart (N + 4) (N + 2) (N + 3) N (N + 1) l m) (hh : A.handled = none) (b0 : ∀ (c : Nat) (o : Obj), h0.get? c = some o → c < N) (c1 : bB t l xs h0) (c2 : bB u m ys h0) (hn : min xs.size ys.size ≤ 1000) (hz : Zz h0 N t u l m s.heap)
    (hQ : ∀ h' acc, Gf h0 N xs ys acc h' → Q (.ref h'.objs.size) { s with heap := h'.push { cls := .type "tuple", data := .seq acc } }) : wpAny (model prog w) A (call (.type "tuple") [.ref (N + 4)]) Q E s := by
  refine callType_codes (Q₁ := fun obj s₁ => s₁.TypeIs obj "tuple" ∧ Q obj s₁) F.called_tuple (F.typeCall_tuple_1 _) F.entry_object_init ?_ fun obj s₁ h₁ => ?_
  · refine codeAny_of_tree ?_
    show wpAny _ A.in1.in1 (do checkBuiltinCall "tuple.__new__" ⟨[.type "tuple", .ref (N + 4)], []⟩; again (.builtin "tuple.__new__" ⟨[.type "tuple", .ref (N + 4)], []⟩)) _ _ s
    refine wpAny_bind (wpAny_of_eq (F.newCall_tuple_1 _) (wpAny_pure ⟨plainId_quiet F.plain_tuple_new _, codeAny_builtin F.entry_tuple_new ?_⟩))
    rw [Around.under_plainId F.plain_tuple_new _]
    have hsub := sub_tuple_self
    have hinit := init_tuple_lookup
    have hmh := madeHere_tuple
    have hTI : s.TypeIs (.ref (N + 4)) "zip" := ⟨_, hz.z, rfl⟩
    have hh1 : A.in1.in1.handled = none := hh
    wp_walk using wpAny_typeOf hTI, collect_zip (A := A.in1.in1) D hh1 b0 c1 c2 hn hz
    intro h' acc gf
    show wpAny _ _ (Builtin.Tuple.tupleExact acc.toList.toArray >>= fun v => ret v) _ _ _
    unfold Builtin.Tuple.tupleExact
    have sl : (1000 : Nat) ≤ sizeLine := by rw [sizeLine_eq]; decide
    have ac := gf.ac
    refine wpAny_bind (wpAny_newObj_type ?_ (by show acc.toList.toArray.size ≤ sizeLine; simp only [Array.toArray_toList]; omega))
    refine wpAny_pure ?_
    have e : acc.toList.toArray = acc := by simp
    rw [e]
    exact ⟨⟨_, Heap.get?_push_size _ rfl, rfl⟩, hQ h' acc gf⟩
  · exact ⟨h₁.1, F.args_object_init_2 obj _, object_init_meets F.called_tuple.init.lookup F.called_tuple.made (by decide) prog w A.in1 _ s₁ ⟨h₁.1, rfl, h₁.2⟩⟩
end
end CsZip
namespace L2
open PySem PySem.Spec PyProof.Rows
section
variable {X : Cx} {pins : List (Addr × Obj)} {σ : St} {H : Hp} {s : Shared}
/-- some new pairs tracked, the heap cut to them -/
theorem Inv.lays {h' : Heap} (I : Inv X pins σ H s) (k : ∀ b u, s.heap.get? b = some u → h'.get? b = some u) : ∀ (ps : List (Addr × V × V)), (∀ q ∈ ps, s.heap.get? q.1 = none ∧ H q.1 = none ∧ ∃ x y, CsZip.Prs h' q.1 x y ∧ RelV q.2.1 x ∧ RelV q.2.2 y) → (ps.map (·.1)).Nodup →
    ∃ (G : Heap) (H' : Hp), Inv X pins σ H' { s with heap := G } ∧ (∀ b u, G.get? b = some u → h'.get? b = some u) ∧ (∀ b, (∀ q ∈ ps, q.1 ≠ b) → s.heap.get? b = none → G.get? b = none) ∧ (∀ b, (∀ q ∈ ps, q.1 ≠ b) → H' b = H b) ∧ ∀ q ∈ ps, H' q.1 = some (.tup [q.2.1, q.2.2])
  | [], _, _ => ⟨s.heap, H, I, k, fun b _ e => e, fun b _ => rfl, fun q hq => nomatch hq⟩
  | q :: ps, hq, nd => by
    rw [List.map_cons, List.nodup_cons] at nd
    obtain ⟨G, H', I', g1, g2, g3, g4⟩ := Inv.lays I k ps (fun r hr => hq r (List.mem_cons_of_mem _ hr)) nd.2
    obtain ⟨q1, q2, x, y, q3, rx, ry⟩ := hq q List.mem_cons_self
    have nq : ∀ r ∈ ps, r.1 ≠ q.1 := fun r hr e => nd.1 (e ▸ List.mem_map_of_mem hr)
    obtain ⟨G2, m1, m2⟩ := restrict h' fun b => (G.get? b).isSome || decide (b = q.1)
    have kk : ∀ b u, G.get? b = some u → G2.get? b = some u := fun b u e => by
      rw [m1 b (by rw [e]; rfl)]
      exact g1 b u e
    have e0 : G2.get? q.1 = some { cls := .type "tuple", data := .seq #[x, y] } := by
      rw [m1 q.1 (by rw [decide_eq_true rfl, Bool.or_true])]
      exact q3
    have hn : H' q.1 = none := by rw [g3 q.1 nq]; exact q2
    have I2 : Inv X pins σ (upd H' q.1 (.tup [q.2.1, q.2.2])) { s with heap := G2 } := Inv.laidN (s := { s with heap := G }) (t' := s.toks) I' kk (g2 q.1 nq q1) hn ⟨Nat.le_of_ble_eq_true (by rw [sizeLine_eq]; rfl), [x, y], .cons rx (.cons ry .nil), ⟨_, e0, rfl, _, rfl⟩⟩
    refine ⟨G2, _, I2, fun b u e => ?_, fun b hb e => ?_, fun b hb => ?_, fun r hr => ?_⟩
    · by_cases z : ((G.get? b).isSome || decide (b = q.1)) = true
      · rw [← m1 b z]
        exact e
      · rw [m2 b (Bool.eq_false_iff.mpr z)] at e
        cases e
    · refine m2 b ?_
      rw [g2 b (fun r hr => hb r (List.mem_cons_of_mem _ hr)) e, decide_eq_false fun z => hb q List.mem_cons_self z.symm]
      rfl
    · rw [upd_ne fun z => hb q List.mem_cons_self z.symm]
      exact g3 b fun r hr => hb r (List.mem_cons_of_mem _ hr)
    · rcases List.mem_cons.mp hr with rfl | hr
      · exact upd_same
      · rw [upd_ne (nq r hr)]
        exact g4 r hr
end
end L2
namespace Cs
open PySem PySem.Spec L2 PyProof.Rows
theorem pairs_of {N : Nat} {h : Heap} : ∀ (zs : List Value) (xs ys : List V) (its its2 : List Value), Vals xs its → Vals ys its2 → zs.length = xs.length → xs.length = ys.length →
    (∀ (k : Nat) (v : Value), zs[k]? = some v → ∃ (p : Nat) (x y : Value), v = Value.ref p ∧ N + 6 ≤ p ∧ CsZip.Prs h p x y ∧ its[k]? = some x ∧ its2[k]? = some y) →
    ∃ ps : List (Addr × V × V), ps.length = xs.length ∧ Vals (ps.map fun q => V.ref q.1) zs ∧ ∀ (k : Nat) (q : Addr × V × V), ps[k]? = some q → @LE.le Nat _ (N + 6) q.1 ∧ (∃ x y, CsZip.Prs h q.1 x y ∧ RelV q.2.1 x ∧ RelV q.2.2 y) ∧ xs[k]? = some q.2.1 ∧ ys[k]? = some q.2.2 ∧ zs[k]? = some (Value.ref q.1)
  | [], [], [], _, _, _, _, _, _, _ => ⟨[], rfl, .nil, fun k q e => by simp at e⟩
  | z :: zs, x :: xs, y :: ys, _, _, .cons rx tx, .cons ry ty, l1, l2, hz => by
    obtain ⟨ps, p1, p2, p3⟩ := pairs_of zs xs ys _ _ tx ty (Nat.succ.inj l1) (Nat.succ.inj l2) fun k v e => hz (k + 1) v e
    obtain ⟨p, x', y', rfl, hp, pr, ex, ey⟩ := hz 0 z rfl
    cases ex
    cases ey
    refine ⟨(p, x, y) :: ps, by rw [List.length_cons, List.length_cons, p1], .cons rfl p2, fun k q e => ?_⟩
    cases k with
    | zero =>
      cases e
      exact ⟨hp, ⟨_, _, pr, rx, ry⟩, rfl, rfl, rfl⟩
    | succ k => exact p3 k q e
  | [], _ :: _, _, _, _, _, _, l1, _, _ => by cases l1
  | _ :: _, [], _, _, _, _, _, l1, _, _ => by cases l1
  | _, [], _ :: _, _, _, _, _, _, l2, _ => by cases l2
  | _, _ :: _, [], _, _, _, _, _, l2, _ => by cases l2
/-- tuple(zip(e, e2)) of a tuple and a list, or a list and a tuple -/
def tTz (K : PySem.W.Frag) (t u : Bool) (ta : TA) : TE := fun σ H Q => ta σ H fun vs H1 => ∃ (a b : Addr) (xs ys : List V), vs = [.ref a, .ref b] ∧ SqB K t H1 a xs ∧ SqB K u H1 b ys ∧ xs.length = ys.length ∧ xs.length ≤ 1000 ∧
  ∀ (H' : Hp) (p : Addr) (zs : List V), (∀ b o, H1 b = some o → H' b = some o) → H1 p = none → H' p = some (.tup zs) → zs.length = xs.length → (∀ (i : Nat) (z x y : V), zs[i]? = some z → xs[i]? = some x → ys[i]? = some y → ∃ q, z = .ref q ∧ H1 q = none ∧ H' q = some (.tup [x, y])) → Q (.ref p) H'
section
variable {X : Cx}
theorem pe_tz {e e2 : Expr} {ta : TA} {p p2 pos pos2 : Pos} (t u : Bool) (ne : t ≠ u) (hc : X.calm = true) (hg : Gl X "tuple") (hm : X.mg "tuple" = none) (hg2 : Gl X "zip") (hm2 : X.mg "zip" = none) (ha : PA X [e, e2] ta)
    (hs : starEach [e, e2] X.env = (false, eval e X.env) :: starEach [e2] X.env := by rfl) (hpl : (backTo pos2 (starEach [e2] X.env)).any (·.1) = false := by rfl)
    (hs1 : starEach [.Call (.Name "zip" p2) [e, e2] [] pos2] X.env = (false, eval (.Call (.Name "zip" p2) [e, e2] [] pos2) X.env) :: starEach [] X.env := by rfl) (hpl1 : (backTo pos (starEach [] X.env)).any (·.1) = false := by rfl) :
    PE X (.Call (.Name "tuple" p) [.Call (.Name "zip" p2) [e, e2] [] pos2] [] pos) (tTz X.K t u ta) := by
  refine ⟨fun pins s σ H Q I h => ?_⟩
  have hh := I.ok.hd hc
  refine wpAny_Call_Name_kw (ld_blt I hg hm (by decide +kernel : bootBuiltins "tuple" = some (.type "tuple")) ?_ (by decide) (by decide))
  refine PyProof.Rows.callWith_type1 ?_ hs1 hpl1
  rw [hs1]
  show wpAny _ _ (spliced ((false, eval (.Call (.Name "zip" p2) [e, e2] [] pos2) X.env) :: backTo pos (starEach [] X.env))) _ _ s
  refine Calls.spliced_cons ?_
  refine wpAny_Call_Name_kw (ld_blt I hg2 hm2 PyProof.Rows.boot_zip ?_ (by decide) (by decide))
  refine PyProof.Rows.callWith_type1 (thn (ha.run pos2 pins s σ H _ I h) fun us s1 ⟨vs, H1, I1, r1, a, b, xs, ys, ev, qx, qy, le, lx, q⟩ => ?_) hs hpl
  subst ev
  obtain ⟨u1, us2, rfl, r, rr⟩ : ∃ u1 us2, us = u1 :: us2 ∧ RelV (.ref a) u1 ∧ Vals [.ref b] us2 := by
    cases r1 with
    | cons r rr => exact ⟨_, _, rfl, r, rr⟩
  obtain ⟨u2, rfl, r'⟩ := rr.one
  cases r
  cases r'
  obtain ⟨its, rv, p1, la⟩ := seqB I1 qx
  obtain ⟨its2, rv2, p2, lb⟩ := seqB I1 qy
  have b0 : ∀ (c : Nat) (o : Obj), s1.heap.get? c = some o → c < s1.heap.objs.size := fun c o e => Heap.lt_size e
  have D := PySem.W.ktu_apart s1.heap.objs.size a b la lb
  have li : its.length = xs.length := rv.length.symm
  have li2 : its2.length = ys.length := rv2.length.symm
  refine CsZip.call_zipS ne p1 p2 fun h' hz => ?_
  refine Calls.spliced_nil ?_
  have mn : min its.toArray.size its2.toArray.size = xs.length := by
    rw [List.size_toArray, List.size_toArray, li, li2, ← le, Nat.min_self]
  refine CsZip.call_tuple_zip (s := { s1 with heap := h' }) D hh b0 p1 p2 (by rw [mn]; exact lx) hz fun h2 acc gf => ?_
  have ac := gf.ac
  rw [mn] at ac
  obtain ⟨ps, lps, vz, hps⟩ := pairs_of (N := s1.heap.objs.size) (h := h2) acc.toList xs ys its its2 rv rv2 (by rw [Array.length_toList]; exact ac) le fun k v e => by
    rw [Array.getElem?_toList] at e
    obtain ⟨p, x, y, e1, e2, e3, e4, e5⟩ := gf.ps k v e
    exact ⟨p, x, y, e1, e2, e3, by rw [← List.getElem?_toArray]; exact e4, by rw [← List.getElem?_toArray]; exact e5⟩
  have pu : ∀ c o, h2.get? c = some o → (h2.push { cls := .type "tuple", data := .seq acc }).get? c = some o := fun c o e => Heap.get?_push_of_some _ e
  have new : ∀ (c : Nat), s1.heap.objs.size ≤ c → s1.heap.get? c = none ∧ H1 c = none := fun c hc => by
    have e : s1.heap.get? c = none := by
      cases e : s1.heap.get? c with
      | none => rfl
      | some o => exact absurd (b0 c o e) (Nat.not_lt.mpr hc)
    exact ⟨e, I1.hok.fresh hc⟩
  have mem : ∀ q ∈ ps, s1.heap.objs.size + 6 ≤ q.1 ∧ ∃ x y, CsZip.Prs h2 q.1 x y ∧ RelV q.2.1 x ∧ RelV q.2.2 y := fun q hq => by
    obtain ⟨k, hk, e⟩ := List.getElem_of_mem hq
    obtain ⟨a1, a2, _⟩ := hps k q (by rw [← e]; exact List.getElem?_eq_getElem hk)
    exact ⟨a1, a2⟩
  have nd : (ps.map (·.1)).Nodup := by
    refine List.pairwise_iff_getElem.mpr fun i j hi hj lt e => ?_
    rw [List.length_map] at hi hj
    rw [List.getElem_map, List.getElem_map] at e
    obtain ⟨_, _, _, _, z1⟩ := hps i _ (List.getElem?_eq_getElem hi)
    obtain ⟨_, _, _, _, z2⟩ := hps j _ (List.getElem?_eq_getElem hj)
    rw [Array.getElem?_toList] at z1 z2
    rw [← e] at z2
    have := gf.nd i j _ z1 z2
    omega
  have tn := new h2.objs.size (by
    have z := gf.S
    obtain ⟨c, z⟩ := z
    have q : @LT.lt Nat _ (s1.heap.objs.size + 5) h2.objs.size := Heap.lt_size z
    omega)
  obtain ⟨G, H', I', g1, g2, g3, g4⟩ := L2.Inv.lays (h' := h2.push { cls := .type "tuple", data := .seq acc }) I1 (fun b o e => pu b o (gf.kp b o e)) ps (fun q hq => by
    obtain ⟨a1, x, y, a2, a3⟩ := mem q hq
    have := new q.1 (by omega)
    exact ⟨this.1, this.2, x, y, pu _ _ a2, a3⟩) nd
  have nt : ∀ q ∈ ps, q.1 ≠ h2.objs.size := fun q hq => by
    obtain ⟨_, x, y, a2, _⟩ := mem q hq
    have z : @LT.lt Nat _ q.1 h2.objs.size := Heap.lt_size a2
    exact CsZip.nq (.inl z)
  have ht : (h2.push { cls := .type "tuple", data := .seq acc }).get? h2.objs.size = some { cls := .type "tuple", data := .seq acc } := Heap.get?_push_size _ rfl
  have ea : acc.toList.toArray = acc := by simp
  have I2 : L2.Inv X pins σ (upd H' h2.objs.size (.tup (ps.map fun q => V.ref q.1))) { s1 with heap := h2.push { cls := .type "tuple", data := .seq acc } } := L2.Inv.laidN (s := { s1 with heap := G }) (t' := s1.toks) I' g1 (g2 _ nt tn.1) (by rw [g3 _ nt]; exact tn.2) ⟨by
    rw [List.length_map, lps, sizeLine_eq]; omega, acc.toList, vz, ⟨_, ht, rfl, _, by rw [ea]⟩⟩
  refine ⟨.ref h2.objs.size, _, I2, rfl, q _ _ _ (fun b o e => ?_) tn.2 upd_same (by rw [List.length_map, lps]) fun i z x y e1 e2 e3 => ?_⟩
  · have nb : ∀ q ∈ ps, q.1 ≠ b := fun q hq z => by
      obtain ⟨a1, _⟩ := mem q hq
      have := (new q.1 (by omega)).2
      rw [z, e] at this
      cases this
    rw [upd_ne (fun z => by rw [z, tn.2] at e; cases e), g3 b nb]
    exact e
  · rw [List.getElem?_map] at e1
    obtain ⟨r, er, rfl⟩ := Option.map_eq_some_iff.mp e1
    obtain ⟨a1, _, a3, a4, _⟩ := hps i r er
    rw [e2] at a3
    rw [e3] at a4
    cases a3
    cases a4
    have hr := List.mem_of_getElem? er
    refine ⟨r.1, rfl, (new r.1 (by omega)).2, ?_⟩
    rw [upd_ne (nt r hr)]
    exact g4 r hr
end
end Cs
set_option maxHeartbeats 4000000
/-! Over data: while, tuple * n, tuple(zip(..)), is not of bools, two clauses of a comprehension. -/
namespace Cs
open PySem PySem.Spec L2 PyProof.Rows
/-! ### while -/
def xWhile (c : XT) (b : XS) : XS := ⟨fun D ε => ∃ W : Nat → List AV → Prop, (∃ m, W m ε) ∧ ∀ m e, W m e → c.run e fun t e1 => if t = true then b.run { D with nx := fun e2 => ∃ m2, m2 < m ∧ W m2 e2, ct := fun e2 => ∃ m2, m2 < m ∧ W m2 e2, bk := D.nx } e1 else D.nx e1,
  fun {D D' ε} h1 h2 h3 h4 ⟨W, w0, ws⟩ => ⟨W, w0, fun m e w => c.mono (fun t e1 q => by
    split at q
    · rw [if_pos (by assumption)]
      exact b.mono (D := { D with nx := fun e2 => ∃ m2, m2 < m ∧ W m2 e2, ct := fun e2 => ∃ m2, m2 < m ∧ W m2 e2, bk := D.nx }) (D' := { D' with nx := fun e2 => ∃ m2, m2 < m ∧ W m2 e2, ct := fun e2 => ∃ m2, m2 < m ∧ W m2 e2, bk := D'.nx }) (fun _ h => h) h2 h1 (fun _ h => h) q
    · rw [if_neg (by assumption)]
      exact h1 _ q) (ws m e w)⟩⟩
theorem xs_while {X : Cx} {c : Expr} {body : List Stmt} {pos : Pos} {t : XT} {b : XS} (hp : PassesOwn (model X.prog X.w) X.A X.env X.xe) (hc : PT X c (upT t)) (hb : PSs X body (upS b)) : PS X (.While c body [] pos) (upS (xWhile t b)) := ps_wk (ps_while hp hc hb) fun D σ H ⟨Γ, ε, R, W, ⟨m0, w0⟩, ws⟩ => by
  refine ⟨fun m σ H => ∃ e, Rep Γ e TN σ H ∧ W m e, ⟨m0, ε, R, w0⟩, ?_⟩
  rintro m σ1 H1 ⟨e, R1, w⟩
  refine upT1 R1 (ws m e w) fun b1 e1 T1 H2 g R2 s2 => ?_
  split at g
  · rw [if_pos (by assumption)]
    refine ⟨fun σ' H' => ∃ e2 m2, Rep Γ e2 TN σ' H' ∧ m2 < m ∧ W m2 e2, fun σ' H' ⟨e2, m2, R', l, w'⟩ => ⟨m2, l, e2, R', w'⟩, Γ, e1, R2.nil, ?_⟩
    exact b.mono (D := { upD Γ D with nx := fun e2 => ∃ m2, m2 < m ∧ W m2 e2, ct := fun e2 => ∃ m2, m2 < m ∧ W m2 e2, bk := (upD Γ D).nx }) (fun e2 ⟨m2, l, w'⟩ σ' H' R' => ⟨e2, m2, R', l, w'⟩) (fun _ _ q => q) (fun _ q => q) (fun e2 ⟨m2, l, w'⟩ σ' H' R' => ⟨e2, m2, R', l, w'⟩) g
  · rw [if_neg (by assumption)]
    exact g σ1 H2 R2.nil
/-! ### is not of bools -/
def fIsNB : F2
  | .bool a, .bool b => some (True, .d (.bool (!decide (a = b))))
  | _, _ => none
theorem ol_isnb : OpL (fun x y H Q => ∃ a b, x = .bl a ∧ y = .bl b ∧ Q (.bl (!decide (a = b))) H) fIsNB := by
  intro N H x y d e c Q hx hy e1 e2 o
  unfold fIsNB at e1
  split at e1
  · cases e1
    rw [hx.bl, hy.bl]
    exact ⟨_, _, rfl, rfl, o.old _ _ rfl (.bl _)⟩
  · cases e1
/-! ### tuple * n -/
theorem tuple_mul1 (l : Addr) (items : Array Value) (n : Nat) (dd : Option Addr) (sl : Array (Option Value)) (u : Tok) (ne : items.isEmpty = false) :
    Meets (Builtin.«tuple.__mul__» ⟨[.ref l, .int 1 u], []⟩) (fun _ R s => s.heap.get? l = some { cls := .type "tuple", dict := dd, data := .seq items n, slots := sl } ∧ R (.ok (.ret (Value.ref l))) s) :=
  .of_wp fun prog w A R s h => by
    obtain ⟨hp, g, d, tk, os⟩ := s
    obtain ⟨hl, h⟩ := h
    have f1 := AutoSeq1.idx_int
    have c1 : (items.isEmpty || (1 : Int) == 1) = true := by rw [ne]; rfl
    have c0 : (decide ((1 : Int) < -(2 ^ 63)) || decide ((1 : Int) ≥ 2 ^ 63)) = false := by decide
    wp_walk using wpAny_loadPart' hl
    exact ⟨_, rfl, h⟩
def rRepT1 (K : PySem.W.Frag) : R2 := fun x y H Q => ∃ l xs, x = .ref l ∧ y = .int 1 ∧ SqT K H l xs ∧ xs ≠ [] ∧ xs.length ≤ 1000 ∧ Q (.ref l) H
theorem op_repT1 {X : Cx} : OpR X (binaryOp .Mult) (rRepT1 X.K) := by
  intro pins s σ H x y v u Q I rx ry h
  obtain ⟨l, xs, rfl, rfl, hT, hne, hz, q⟩ := h
  cases rx
  obtain ⟨t, rfl⟩ := ry
  obtain ⟨its, r, ⟨⟨cls, dd, data, sl⟩, ho, hc, n, hd⟩, hs⟩ := I.tuple hT
  simp only at hc hd
  subst hc hd
  have hle : its.length = xs.length := r.length.symm
  have hi : its.toArray.isEmpty = false := by
    cases its with
    | nil => exact absurd (List.eq_nil_of_length_eq_zero hle.symm) hne
    | cons a b => rfl
  exact wpAny_binaryOp_repeat_ref (T := "tuple") (U := "int") (by decide) ⟨_, ho, rfl⟩ (fun s' => typeIs_int s' 1 t) noFill_tuple_mul F.fills_int_mul F.slot_int_rmul repeat_tuple F.slot_int_index.lookup
    (call_meets F.slot_int_rmul (typeIs_int s 1 t) F.entry_int_rmul (F.args_int_rmul_2 _ _) (int_rmul_tuple 1 t l its.toArray n dd sl)
      ⟨ho, rfl, ⟨_, ho, rfl⟩, call_meets F.slot_tuple_mul ⟨_, ho, rfl⟩ F.entry_tuple_mul (F.args_tuple_mul_2 _ _) (tuple_mul1 l its.toArray n dd sl t hi) ⟨ho, ⟨.ref l, H, I, rfl, q⟩⟩⟩)
def fMulT : F2
  | .tuple xs, .int k => some (1 ≤ k ∧ xs ≠ [] ∧ xs.length * k.toNat ≤ 1000, .d (.tuple (List.replicate k.toNat xs).flatten))
  | _, _ => none
def gMulT (K : PySem.W.Frag) : R2 := fun x y H Q => rRepT K x y H Q ∨ rRepT1 K x y H Q
def opMulT {X : Cx} : OpR X (binaryOp .Mult) (gMulT X.K) := op_repT.or op_repT1
theorem ol_mulT {K : PySem.W.Frag} : OpL (gMulT K) fMulT := by
  intro N H x y d e c Q hx hy e1 e2 o
  unfold fMulT at e1
  split at e1
  · rename_i xs k
    cases e1
    obtain ⟨k1, ne, hz⟩ := e2
    obtain ⟨a, vs, rfl, h1, h2, h3, h4⟩ := hx.tup
    rw [hy.int]
    have ln := h3.length
    have nv : vs ≠ [] := fun z => ne (List.eq_nil_of_length_eq_zero (by rw [← ln, z]; rfl))
    have l1 : 1 ≤ xs.length := by
      cases xs with
      | nil => exact absurd rfl ne
      | cons _ _ => exact Nat.succ_le_succ (Nat.zero_le _)
    have kb : k.toNat ≤ 1000 := Nat.le_trans (Nat.le_mul_of_pos_left _ l1) hz
    by_cases e : k = 1
    · subst e
      refine .inr ⟨a, vs, rfl, rfl, SqT.rd h1, nv, h2, o.old _ _ rfl ?_⟩
      rw [show (1 : Int).toNat = 1 from rfl, List.replicate_one, List.flatten_cons, List.flatten_nil, List.append_nil]
      exact h4
    · refine .inl ⟨a, k, vs, rfl, rfl, SqT.rd h1, nv, by omega, by omega, h2, fun p hp => o.tup p _ _ rfl hp ?_ (h3.rep k.toNat)⟩
      rw [flat_len, ln]
      exact hz
  · cases e1
/-! ### tuple(zip(..)) -/
def xTz (a : XA) : XE := ⟨fun ε K => a.run ε fun rs ε1 => ∃ xs ys, sees rs = some [.tuple xs, .list ys] ∧ xs.length = ys.length ∧ xs.length ≤ 1000 ∧ K (.d (.tuple (zipD xs ys))) ε1, fun h q => a.mono (fun _ _ ⟨xs, ys, e, l1, l2, k⟩ => ⟨xs, ys, e, l1, l2, h _ _ k⟩) q⟩
theorem zip_dn {N : Addr → Prop} {H1 H' : Hp} (n0 : ∀ b, H1 b = none → ¬ N b) (kp : ∀ b o, H1 b = some o → H' b = some o) : ∀ {zs vs ws : List V} {xs ys : List PyData}, DnA N H1 vs xs → DnA N H1 ws ys → zs.length = vs.length → vs.length = ws.length →
    (∀ (i : Nat) (z x y : V), zs[i]? = some z → vs[i]? = some x → ws[i]? = some y → ∃ q, z = .ref q ∧ H1 q = none ∧ H' q = some (.tup [x, y])) → DnA N H' zs (zipD xs ys)
  | [], [], [], _, _, .nil, .nil, _, _, _ => .nil
  | z :: zs, v :: vs, w :: ws, _, _, .cons h t, .cons h' t', l1, l2, k => by
    obtain ⟨q, rfl, e1, e2⟩ := k 0 _ _ _ rfl rfl rfl
    have f : Fit2 N N H1 H' := ⟨fun _ h => .inl h, fun b o _ h => kp b o h⟩
    exact .cons (.tup (n0 q e1) (.inl e2) (by exact Nat.le_of_ble_eq_true rfl) (.cons (h.go f) (.cons (h'.go f) .nil))) (zip_dn n0 kp t t' (Nat.succ.inj l1) (Nat.succ.inj l2) fun i z x y e1 e2 e3 => k (i + 1) z x y e1 e2 e3)
  | [], _ :: _, _, _, _, _, _, l1, _, _ => by cases l1
  | _ :: _, [], _, _, _, _, _, l1, _, _ => by cases l1
  | _, [], _ :: _, _, _, _, _, _, l2, _ => by cases l2
  | _, _ :: _, [], _, _, _, _, _, l2, _ => by cases l2
theorem x_tz {X : Cx} {Ex : Expr} {a : XA} (h : PE X Ex (tTz X.K true false (upA a))) : PE X Ex (up (xTz a)) :=
  pe_wk h fun σ H Q ⟨Γ, ε, T, R, k⟩ => upA1 R k fun rs vs ε1 T1 H1 ⟨xs, ys, e, l1, l2, g⟩ R1 s1 d1 => by
    obtain ⟨v, w, rfl, h1, h2⟩ := see2 (d1.see e)
    obtain ⟨a, vs, rfl, r1, z1, t1, _⟩ := h1.tup
    obtain ⟨b, ws, rfl, r2, z2, t2⟩ := h2.list
    have lv := t1.length
    have lw := t2.length
    refine ⟨a, b, vs, ws, rfl, SqT.rd r1, SqL.of r2, by omega, by omega, fun H' p zs kp hp hz lz hzs => ?_⟩
    have sm : Same H1 H' := fun b o h => kp b o h
    refine g (.ref p) _ H' (R1.same sm) (s1.same sm) ?_
    exact .tup (R1.not_x hp) (.inl hz) (by omega) (zip_dn (fun b hb => R1.not_x hb) kp t1 t2 (by omega) (by omega) hzs)
/-! ### [p for ns in t for p in ns] -/
def xFl (i0 i1 : Nat) (t : XE) : XE := ⟨fun ε K => t.run ε fun r ε1 => ∃ dss : List (List PyData), r.see = some (.tuple (dss.map PyData.tuple)) ∧ dss.flatten.length ≤ 1000 ∧ (i0 < ε1.length ∧ i1 < ε1.length) ∧ K (.f dss.flatten) ε1, fun h q => t.mono (fun _ _ ⟨d, e, l, z, k⟩ => ⟨d, e, l, z, h _ _ k⟩) q⟩
theorem fl_data {N : Addr → Prop} {H : Hp} : ∀ {xs : List V} {dss : List (List PyData)}, DnA N H xs (dss.map PyData.tuple) → ∃ yss : List (List V), yss.length = xs.length ∧ (∀ (k : Nat) (x : V), xs[k]? = some x → ∃ a ys, x = .ref a ∧ Rd H a (.tup ys) ∧ yss[k]? = some ys) ∧ DnA N H yss.flatten dss.flatten
  | _, [], .nil => ⟨[], rfl, fun k x e => by simp at e, .nil⟩
  | x :: xs, ds :: dss, .cons h t => by
    obtain ⟨yss, l, p, q⟩ := fl_data t
    cases h with
    | @tup a ys _ n r z s =>
      refine ⟨ys :: yss, by rw [List.length_cons, List.length_cons, l], fun k x e => ?_, s.append q⟩
      cases k with
      | zero =>
        cases e
        exact ⟨a, ys, rfl, r, rfl⟩
      | succ k => exact p k x e
theorem take_flat {α : Type} {yss : List (List α)} {i : Nat} {ys : List α} (h : yss[i]? = some ys) : (yss.take (i + 1)).flatten = (yss.take i).flatten ++ ys := by
  rw [List.take_succ, h, List.flatten_append]
  simp
theorem fl_core {K : PySem.W.Frag} {i0 i1 : Nat} {t : XE} {vs : List Nat} {σ : L2.St} {H : Hp} {Q : VK} (h0 : i0 ∈ vs) (h1 : i1 ∈ vs) (h : up (xFl i0 i1 t) σ H Q) : tLc2 (iTup K (up t)) (gName i0) tYes (iTup K (tVar i0)) (gName i1) tYes (tVar i1) vs [i1] σ H Q := by
  obtain ⟨Γ, ε, T, R, k⟩ := h
  refine up1 R k fun r x ε1 T1 H1 ⟨dss, e1, hl, ⟨z0, z1⟩, g⟩ R1 s1 d1 => ?_
  obtain ⟨a, xs, rfl, hr, zx, dx, _⟩ := (d1.see e1).tup
  obtain ⟨yss, ly, hy, dy⟩ := fl_data dx
  have lf : yss.flatten.length ≤ 1000 := by rw [dy.length]; exact hl
  refine ⟨a, rfl, ⟨xs, SqT.rd hr⟩, fun D hD => ?_⟩
  have ln := R1.ln
  have keep : ∀ {H2 : Hp} {b : Addr} {o : HO}, (∀ b o, b ≠ D → H1 b = some o → H2 b = some o) → Rd H1 b o → Rd H2 b o := fun {H2 b o} kk hb => rd_keep (fun u q => kk _ u (fun z => by rw [z, hD] at q; cases q) q) hb
  refine ⟨fun i m H2 => m = xs.length - i ∧ i ≤ xs.length ∧ H2 D = some (.lst (yss.take i).flatten) ∧ ∀ b o, b ≠ D → H1 b = some o → H2 b = some o, ⟨xs.length, by simp, Nat.zero_le _, upd_same, fun b o nb e => by rw [upd_ne nb]; exact e⟩, ?_⟩
  rintro i m H2 ⟨rfl, hi, hd, kk⟩
  by_cases lt : i < xs.length
  · have ex := List.getElem?_eq_getElem lt
    obtain ⟨b, ys, eb, hb, ey⟩ := hy i _ ex
    refine .inr ⟨⟨xs, _, SqT.rd (keep kk hr), ex⟩, fun H' => H' D = some (.lst (yss.take (i + 1)).flatten) ∧ ∀ b o, b ≠ D → H1 b = some o → H' b = some o, fun H' q => ⟨_, by omega, rfl, lt, q.1, q.2⟩, ?_⟩
    rintro x H3 ⟨rfl, hx⟩
    have e2 := hx xs (SqT.rd (keep kk hr))
    rw [ex] at e2
    cases e2
    rw [eb]
    refine ⟨by rw [wipe_set_mem h0, wipe_back], ?_⟩
    show (∃ v, ((wipe σ vs).set i0 (some (V.ref b)))[i0]? = some (some v) ∧ ∃ a, v = .ref a ∧ (∃ xs, SqT K H3 a xs) ∧ _)
    refine ⟨.ref b, List.getElem?_set_self (by rw [wipe_length]; omega), b, rfl, ⟨ys, SqT.rd (keep kk hb)⟩, ?_⟩
    refine ⟨fun j n H4 => n = ys.length - j ∧ j ≤ ys.length ∧ H4 D = some (.lst ((yss.take i).flatten ++ ys.take j)) ∧ ∀ b o, b ≠ D → H1 b = some o → H4 b = some o, ⟨ys.length, by simp, Nat.zero_le _, by rw [List.take_zero, List.append_nil]; exact hd, kk⟩, ?_⟩
    rintro j n H4 ⟨rfl, hj, hd4, kk4⟩
    have lt2 : ((yss.take i).flatten ++ ys).length ≤ 1000 := by
      rw [← take_flat ey]
      refine Nat.le_trans ?_ lf
      have := (List.take_append_drop (i + 1) yss).symm
      rw [this, List.flatten_append, List.length_append]
      rw [List.take_append_drop]
      exact Nat.le_add_right _ _
    by_cases ltj : j < ys.length
    · have ej := List.getElem?_eq_getElem ltj
      refine .inr ⟨⟨ys, _, SqT.rd (keep kk4 hb), ej⟩, fun H' => H' D = some (.lst ((yss.take i).flatten ++ ys.take (j + 1))) ∧ ∀ b o, b ≠ D → H1 b = some o → H' b = some o, fun H' q => ⟨_, by omega, rfl, ltj, q.1, q.2⟩, ?_⟩
      rintro y H5 ⟨rfl, hyy⟩
      have e3 := hyy ys (SqT.rd (keep kk4 hb))
      rw [ej] at e3
      cases e3
      refine ⟨by rw [wipe_set_mem (List.mem_singleton.mpr rfl), wipe_back], ?_⟩
      refine ⟨_, List.getElem?_set_self (by rw [wipe_length, List.length_set, wipe_length]; omega), _, hd4, ?_, ?_, fun b o nb e => by rw [upd_ne nb]; exact kk4 b o nb e⟩
      · rw [List.length_append, List.length_take]
        have : (1000 : Nat) ≤ sizeLine := by rw [sizeLine_eq]; decide
        rw [List.length_append] at lt2
        omega
      · rw [upd_same, List.append_assoc, List.take_succ, ej]
        rfl
    · have ej : j = ys.length := by omega
      subst ej
      refine .inl ⟨⟨ys, SqT.rd (keep kk4 hb), Nat.le_refl _⟩, ?_, kk4⟩
      rw [hd4, take_flat ey, List.take_length]
  · have ei : i = xs.length := by omega
    subst ei
    refine .inl ⟨⟨xs, SqT.rd (keep kk hr), Nat.le_refl _⟩, ?_⟩
    rw [List.take_of_length_le (by omega)] at hd
    have RT : Rep Γ ε1 (fun b => T1 b ∨ b = D) σ (upd H1 D (.lst yss.flatten)) := R1.temp hD
    have sm : Same (upd H1 D (.lst yss.flatten)) H2 := fun b o e => by
      by_cases nb : b = D
      · subst nb
        rw [upd_same] at e
        cases e
        exact hd
      · rw [upd_ne nb] at e
        exact kk b o nb e
    have sn : Same H1 H2 := fun b o e => sm _ _ (same_new (o := .lst yss.flatten) hD _ _ e)
    have RT2 := RT.same sm
    have f : Fit2 (Mx Γ ε1 T1 σ) (Mx Γ ε1 (fun b => T1 b ∨ b = D) σ) H1 H2 := ⟨fun b z => by
      rcases z with z | z | z | rfl
      · exact .inl (.inl z)
      · exact .inl (.inr (.inl z))
      · exact .inl (.inr (.inr z))
      · exact .inr hD, fun b o _ e => sn b o e⟩
    refine g _ _ H2 RT2 ⟨fun b o n e => sn _ _ (s1.k b o n e), RT2.hp, RT2.tz, fun b z => .inl (s1.t b z), fun b z => ?_⟩ ⟨D, yss.flatten, rfl, s1.none R.hp hD, .inr rfl, hd, lf, dy.go f⟩
    rcases f.m b z with q | q
    · exact s1.m b q
    · exact .inr (s1.none R.hp q)
theorem xe_fl {X : Cx} {iter : Expr} {x0 x1 : Str} {p0 p1 q0 q1 : Pos} {scope : Scope} {own : List (Str × Nat)} {pos : Pos} {t : XE} (i0 i1 : Nat) (hc : X.calm = true) (hN : X.N.Nodup) (hi : PE X iter (up t)) (ok : BlkOk X.N X.env.scope scope own) (h0 : i0 ∈ own.map (·.2)) (h1 : i1 ∈ own.map (·.2))
    (hg : ∀ (s : Shared) (H : Hp) (C : Addr) (cl : List (Str × Addr)) (fp : List Addr), PG (X.blk s H scope (compEnvC scope cl C X.env) fp) (.Name x0 p0) (gName i0))
    (hv : ∀ (s : Shared) (H : Hp) (C : Addr) (cl : List (Str × Addr)) (fp : List Addr), PE (X.blk s H scope (compEnvC scope cl C X.env) fp) (.Name x0 q0) (tVar i0))
    (hg1 : ∀ (s : Shared) (H : Hp) (C : Addr) (cl : List (Str × Addr)) (fp : List Addr), PG (X.blk s H scope (compEnvC scope cl C X.env) fp) (.Name x1 p1) (gName i1))
    (hv1 : ∀ (s : Shared) (H : Hp) (C : Addr) (cl : List (Str × Addr)) (fp : List Addr), PE (X.blk s H scope (compEnvC scope cl C X.env) fp) (.Name x1 q1) (tVar i1)) (hs : ∀ x, foldedSetIterable iter X.env x = pure x := by intro _; rfl) :
    PE X (.ListComp (.Name x1 q1) [⟨.Name x0 p0, iter, [], 0⟩, ⟨.Name x1 p1, .Name x0 q0, [], 0⟩] scope pos) (up (xFl i0 i1 t)) :=
  pe_wk (pe_lc2 hc hN (pi_tup hi) ok (fun i hi => by rw [List.mem_singleton.mp hi]; exact h1) hg (fun _ _ _ _ _ => pts_nil) (fun s H C cl fp => pi_tup (hv s H C cl fp)) hg1 (fun _ _ _ _ _ => pts_nil) hv1 hs) fun _ _ _ h => fl_core h0 h1 h
end Cs
set_option maxHeartbeats 4000000
/-! sorted(d.items()) of a dict with text keys whose values are objects: pairs sorted by their texts. -/
namespace Cs
open PySem PySem.Spec PySem.Calls L2 L2.DX PyProof.Rows
theorem swo_str (k : Value → Str) : SrtO.Swo fun v u => decide ((k v).cps.toList < (k u).cps.toList) := by
  refine ⟨fun x y h => ?_, fun x y z h1 h2 => ?_⟩
  · have h := of_decide_eq_true h
    exact decide_eq_false (List.lt_asymm h)
  · have h1 := of_decide_eq_false h1
    have h2 := of_decide_eq_false h2
    refine decide_eq_false ?_
    rw [List.not_lt] at h1 h2 ⊢
    exact List.le_trans h1 h2
theorem eqBool_ref {prog : Program} {w : World} {A : Around} {E : Value → Shared → Prop} {s : Shared} {b : Addr} {Q : Bool → Shared → Prop} (h : Q true s) : wpAny (model prog w) A (eqBool (.ref b) (.ref b)) Q E s := by
  unfold eqBool
  refine wpAny_holding ?_
  have e : (Value.ref b == Value.ref b) = true := by first | rfl | simp
  rw [if_pos e]
  exact wpAny_bind (wpAny_rule (wpAny_pure h))
/-- v is a pair of the text y and the object at b -/
def PairS (h : Heap) (v : Value) (y : Str) (b : Addr) : Prop := ∃ (a : Addr) (o : Obj) (t : Tok) (n : Nat), v = .ref a ∧ h.get? a = some o ∧ o.cls = .type "tuple" ∧ o.data = .seq #[.str y t, .ref b] n
theorem PairS.keeps {h h' : Heap} {v : Value} {y : Str} {b : Addr} (x : PairS h v y b) (k : ∀ b o, h.get? b = some o → o.cls = .type "tuple" → h'.get? b = some o) : PairS h' v y b := by
  obtain ⟨a, o, t, n, e, ho, hc, hd⟩ := x
  exact ⟨a, o, t, n, e, k _ _ ho hc, hc, hd⟩
/-- the text of a pair, read off the heap -/
def keyS (h : Heap) (v : Value) : Str := DT.txOf (DT.seqAt0 h (DT.refOf (some v)))
theorem PairS.tx {h : Heap} {v : Value} {y : Str} {b : Addr} (x : PairS h v y b) : keyS h v = y := by
  obtain ⟨a, o, t, n, rfl, ho, hc, hd⟩ := x
  show DT.txOf (DT.seqAt0 h a) = y
  simp only [DT.seqAt0, ho, hd]
  rfl
/-- .. and the object beside it -/
def valS (h : Heap) (v : Value) : Addr := match h.get? (DT.refOf (some v)) with
  | some o => (match o.data with
    | .seq xs _ => DT.refOf xs.toList[1]?
    | _ => 0)
  | none => 0
theorem PairS.vl {h : Heap} {v : Value} {y : Str} {b : Addr} (x : PairS h v y b) : valS h v = b := by
  obtain ⟨a, o, t, n, rfl, ho, hc, hd⟩ := x
  show (match h.get? a with
  | some o => (match o.data with
    | .seq xs _ => DT.refOf xs.toList[1]?
    | _ => 0)
  | none => 0) = b
  simp only [ho, hd]
  rfl
section
variable {prog : Program} {w : World} {A : Around} {E : Value → Shared → Prop} {s : Shared}
theorem firstsS {h : Heap} : ∀ vs : List Value, (∀ v ∈ vs, ∃ y b, PairS h v y b) → ∃ fs : List Value, PySem.W.KatTups h vs fs ∧ fs.length = vs.length ∧ ∀ f ∈ fs, ∃ y t, f = Value.str y t
  | [], _ => ⟨[], PySem.W.KatTups.nil, rfl, fun f hf => by simp at hf⟩
  | v :: vs, x => by
    obtain ⟨fs, k, hl, hi⟩ := firstsS vs fun u hu => x u (List.mem_cons_of_mem _ hu)
    obtain ⟨y, b, a, o, t, n, rfl, ho, hc, hd⟩ := x v (List.mem_cons_self ..)
    refine ⟨.str y t :: fs, PySem.W.KatTups.cons ho hc hd rfl k, by rw [List.length_cons, List.length_cons, hl], fun f hf => ?_⟩
    rcases List.mem_cons.mp hf with rfl | hf
    · exact ⟨y, t, rfl⟩
    · exact hi f hf
theorem pair_cmpS {vs : List Value} {k : Value → Str} {g : Value → Addr} (hp : ∀ v ∈ vs, PairS s.heap v (k v) (g v)) (hg : ∀ v ∈ vs, ∀ u ∈ vs, k v = k u → g v = g u) :
    SrtO.Cmp prog w A s (tuples' true) (fun p => p.1 ∈ vs) (SrtO.lt2 fun v u => decide ((k v).cps.toList < (k u).cps.toList)) := by
  intro p q hm hm'
  have h1 := hp _ hm
  have h2 := hp _ hm'
  have h3 := hg _ hm _ hm'
  show wpAny (model prog w) A (keyLt' (tuples' true) p.1 q.1) (fun r s' => s' = s ∧ r = decide ((k p.1).cps.toList < (k q.1).cps.toList)) (fun _ _ => False) s
  generalize k p.1 = x at h1 h3 ⊢
  generalize k q.1 = y at h2 h3 ⊢
  generalize g p.1 = b at h1 h3
  generalize g q.1 = c at h2 h3
  obtain ⟨a, o, t, n, e, ho, hc, hd⟩ := h1
  obtain ⟨a', o', t', n', e', ho', hc', hd'⟩ := h2
  rw [e, e']
  refine PySem.W.kat_lt ho hd ho' hd' ?_
  show PySem.W.KatLex prog w A true (decide (2 < 2)) _ [(.str x t, .str y t'), (.ref b, .ref c)] 0 s
  refine PySem.W.kat_cons (wpAny_eqBool_str ?_)
  refine PySem.W.kat_go (fun e1 => ?_) (fun e1 => ?_)
  · have ex : x = y := of_decide_eq_true e1
    have eb := h3 ex
    subst eb ex
    refine PySem.W.kat_yes (PySem.W.kat_cons (eqBool_ref ?_))
    exact PySem.W.kat_yes (PySem.W.kat_nil ⟨rfl, (decide_eq_false (List.lt_irrefl _)).symm⟩)
  · exact PySem.W.kat_no (oneLt_str ⟨rfl, rfl⟩)
theorem sortableS {a : Addr} {vs : List Value} {k : Value → Str} {g : Value → Addr} (h0 : 0 < vs.length) (hp : ∀ v ∈ vs, PairS s.heap v (k v) (g v)) (hg : ∀ v ∈ vs, ∀ u ∈ vs, k v = k u → g v = g u) (ha : ∀ o, s.heap.get? a = some o → o.cls ≠ .type "tuple") :
    SrtO.SortableO prog w A s a vs fun v u => decide ((k v).cps.toList < (k u).cps.toList) := by
  intro h' keep
  have hp' : ∀ v ∈ vs, PairS h' v (k v) (g v) := fun v hm => (hp v hm).keeps fun b o e c => keep b o (fun z => by subst z; exact ha o e c) e
  obtain ⟨fs, h1, h2, h3⟩ := firstsS vs fun v hm => ⟨_, _, hp' v hm⟩
  refine ⟨tuples' true, fun Q E hq => ?_, pair_cmpS hp' hg⟩
  refine PySem.W.kat_kind (T := .type "str") h1 (by omega) (fun f hm => ?_) (by rfl) ?_
  · obtain ⟨x, t, rfl⟩ := h3 f hm
    exact PySem.W.Looks.now
  · have e : (Value.type "str" != Value.type "tuple") = true := by first | decide +kernel | rfl | decide
    rw [e]
    exact hq
end

abbrev entS (e : Str × Addr) : L2.Key × V := (Sum.inr e.1, V.ref e.2)
/-- d.items() -/
def rItemsK : V → List V → Hp → VK → Prop := fun x xs H Q => ∃ (a : Addr) (kvs : List (L2.Key × V)), x = .ref a ∧ xs = [] ∧ H a = some (.dK kvs) ∧ ∀ p, H p = none → Q (.ref p) (upd H p (itemsO p a))
section
variable {X : Cx}
theorem mt_itemsK : MtR X "dict.items" rItemsK := by
  intro pins s σ H x xs v us Q I rx rxs h
  obtain ⟨a, kvs, rfl, rfl, ha, q⟩ := h
  cases rx
  cases rxs
  obtain ⟨z, hd, vs, rel, dd⟩ := dk_of I.hok ha
  obtain ⟨es, ep, ⟨o, ho, hx, hdat⟩, _, _⟩ := dd.raw
  refine DT.callItems (es := es) (ep := ep) hd ⟨o, ho, hx, hdat⟩ ?_
  have hf : H s.heap.objs.size = none := I.hok.fresh (Nat.le_refl _)
  exact ⟨.ref s.heap.objs.size, upd H s.heap.objs.size (itemsO s.heap.objs.size a), I.laid (t' := s.toks) (fun b u e => Heap.get?_push_of_some _ e) (Nat.le_refl _) (itemsO_ok (Heap.get?_push_size _ rfl)), rfl, q _ hf⟩
/-- sorted(d.items()) -/
def rSortK : List V → Hp → VK → Prop := fun vs H Q => ∃ (p a : Addr) (ks : List (Str × Addr)), vs = [.ref p] ∧ H p = some (itemsO p a) ∧ H a = some (.dK (ks.map entS)) ∧ (ks.map (·.1)).Nodup ∧
  ∀ (H' : Hp) (l : Addr) (ps : List (Addr × Str × Addr)), (∀ b o, H b = some o → H' b = some o) → (ps.map (·.2)).Perm ks → (ps.map (·.2)).Pairwise (fun e f => ¬ f.1.cps.toList < e.1.cps.toList) → H l = none → H' l = some (.lst (ps.map fun z => V.ref z.1)) →
    (∀ z ∈ ps, H z.1 = none ∧ H' z.1 = some (.tup [.str z.2.1, .ref z.2.2])) → Q (.ref l) H'
theorem cr_sortedK (hc : X.calm = true) : CallR X (.builtin "sorted") rSortK := by
  intro pins s σ H xs us Q I r h
  obtain ⟨p, a, ks, rfl, hp, ha, hnd, q⟩ := h
  obtain rfl := Vals.ref1 r
  have view : s.heap.IsItemsView p a := (show ObjOk X.prog X.w H s.heap p (itemsO p a) from I.hok p _ hp).1
  obtain ⟨z, hd, vs, rel, dd⟩ := dk_of I.hok ha
  obtain ⟨es, ep, ⟨o, ho, hx, hdat⟩, l2, at1⟩ := dd.raw
  have l1 : (ks.map entS).length = vs.length := rel.length
  rw [List.length_map] at l1 z
  have hh : X.A.handled = none := I.ok.hd hc
  refine DT.sortedI (es := es) (ep := ep) hh view ⟨o, ho, hx, hdat⟩ (by omega) fun h' tk as hk hlt hl hG => ?_
  have lak : as.length = ks.length := by omega
  have nd : as.Nodup := List.Pairwise.imp (fun h => Nat.ne_of_lt h) hG.rise
  -- the pairs that were made
  have pr : ∀ (j : Nat) (b : Addr), as[j]? = some b → ∃ (e : Str × Addr) (t : Tok), ks[j]? = some e ∧ h'.get? b = some { cls := .type "tuple", data := .seq #[Value.str e.1 t, Value.ref e.2] } := by
    intro j b hj
    obtain ⟨en, he, hg⟩ := hG.pairs j b hj
    have hje : j < es.size := by
      have := (Array.getElem?_eq_some_iff.mp he).1
      exact this
    have hjk : j < ks.length := by omega
    have hjv : j < vs.length := by omega
    have hkj : ks[j]? = some ks[j] := List.getElem?_eq_getElem hjk
    obtain ⟨e0, he0, r1, r2⟩ := pget rel (List.getElem?_eq_getElem hjv)
    rw [List.getElem?_map, hkj] at he0
    cases he0
    have r1 : Sum.inr ks[j].1 = vs[j].1 := r1
    have r2 : RelV (V.ref ks[j].2) vs[j].2 := r2
    have r2' : vs[j].2 = Value.ref ks[j].2 := r2
    obtain ⟨q1, q2⟩ := at1 j hje vs[j].1 vs[j].2 (List.getElem?_eq_getElem hjv)
    have een : es[j] = en := by
      rw [Array.getElem?_eq_getElem hje] at he
      exact Option.some.inj he
    rw [een] at q1 q2
    rw [← r1] at q1
    have q1 : keyIs (Sum.inr ks[j].1) en.key = true := q1
    rcases keyIs_shape q1 with ⟨i, t, z1, z2⟩ | ⟨x, t, z1, z2⟩
    · cases z1
    · have z1 : ks[j].1 = x := Sum.inr.inj z1
      refine ⟨ks[j], t, hkj, ?_⟩
      rw [hg, z2, q2, r2', z1]
  have hob : (h'.push { cls := .type "list", data := .seq (as.map Value.ref).toArray }).get? h'.objs.size = some (seqObj "list" (as.map Value.ref).toArray 0) := Heap.get?_push_size _ rfl
  have kb : ∀ b o, s.heap.get? b = some o → (h'.push { cls := .type "list", data := .seq (as.map Value.ref).toArray }).get? b = some o := fun b o e => Heap.get?_push_of_some _ (hk b o e)
  have ne0 : ∀ b o, h'.get? b = some o → b ≠ h'.objs.size := fun b o e => Nat.ne_of_lt (Heap.lt_size e)
  generalize hh2 : h'.push { cls := .type "list", data := .seq (as.map Value.ref).toArray } = h2 at hob kb ⊢
  have ka : ∀ b o, h'.get? b = some o → h2.get? b = some o := fun b o e => by rw [← hh2]; exact Heap.get?_push_of_some _ e
  have pin : ∀ (j : Nat) (b : Addr), as[j]? = some b → ∃ e : Str × Addr, ks[j]? = some e ∧ PairS h2 (.ref b) e.1 e.2 := by
    intro j b hj
    obtain ⟨e, t, he, hg⟩ := pr j b hj
    exact ⟨e, he, b, _, t, 0, rfl, ka _ _ hg, rfl, rfl⟩
  have at_ : ∀ v ∈ as.map Value.ref, ∃ (j : Nat) (b : Addr) (e : Str × Addr), v = .ref b ∧ as[j]? = some b ∧ ks[j]? = some e ∧ PairS h2 v e.1 e.2 := by
    intro v hv'
    obtain ⟨b, hb, rfl⟩ := List.mem_map.mp hv'
    obtain ⟨j, hj⟩ := List.mem_iff_getElem?.mp hb
    obtain ⟨e, he, hp⟩ := pin j b hj
    exact ⟨j, b, e, rfl, hj, he, hp⟩
  have hps : ∀ v ∈ as.map Value.ref, PairS h2 v (keyS h2 v) (valS h2 v) := by
    intro v hv'
    obtain ⟨j, b, e, rfl, hj, he, hp⟩ := at_ v hv'
    rw [hp.tx, hp.vl]
    exact hp
  have hgs : ∀ v ∈ as.map Value.ref, ∀ u ∈ as.map Value.ref, keyS h2 v = keyS h2 u → valS h2 v = valS h2 u := by
    intro v hv' u hu' hkk
    obtain ⟨j, b, e, rfl, hj, he, hp⟩ := at_ v hv'
    obtain ⟨i, c, f, rfl, hi, hf, hq⟩ := at_ u hu'
    rw [hp.tx, hq.tx] at hkk
    rw [hp.vl, hq.vl]
    have h1 : (ks.map (·.1))[j]? = some e.1 := by rw [List.getElem?_map, he]; rfl
    have h2 : (ks.map (·.1))[i]? = some e.1 := by rw [List.getElem?_map, hf, hkk]; rfl
    have ji : j = i := (List.getElem?_inj (List.getElem?_eq_some_iff.mp h1).1 hnd).mp (h1.trans h2.symm)
    subst ji
    rw [he] at hf
    cases hf
    rfl
  refine wpAny_call_entry PyProof.Rows.slot_list_sort ⟨_, hob, rfl⟩ PyProof.Rows.entry_list_sort
    (SrtO.list_sort_ord (s := { s with heap := h2, toks := tk }) (ltv := fun v u => decide ((keyS h2 v).cps.toList < (keyS h2 u).cps.toList)) (swo_str _) hob (by rw [List.length_map]; omega) (fun h2' => sortableS (s := { s with heap := h2, toks := tk }) (by omega) hps hgs (fun o e => by
      have e' : some o = some (seqObj "list" (as.map Value.ref).toArray 0) := e.symm.trans hob
      cases e'
      intro c
      exact absurd (Value.type.inj c) (by decide))) fun out o1 o2 => ⟨.none, rfl, ?_⟩) (PyProof.Rows.args_list_sort _)
  show EP X pins σ Q (.ref h'.objs.size) { s with heap := sortedHeap h2 h'.objs.size (as.map Value.ref) out.toArray, toks := tk }
  have z2 : (as.zip ks).map (fun z => Value.ref z.1) = as.map Value.ref := by
    have : (as.zip ks).map (fun z => Value.ref z.1) = ((as.zip ks).map (·.1)).map Value.ref := by rw [List.map_map]; rfl
    rw [this, List.map_fst_zip (by omega)]
  obtain ⟨zs, pz, ez⟩ := perm_lift (fun z : Addr × Str × Addr => Value.ref z.1) o2.perm (as.zip ks) z2
  have idx : ∀ z ∈ zs, ∃ j : Nat, as[j]? = some z.1 ∧ ks[j]? = some z.2 := by
    intro z' hz'
    obtain ⟨j, hj⟩ := List.mem_iff_getElem?.mp (pz.mem_iff.mp hz')
    exact ⟨j, List.getElem?_zip_eq_some.mp hj⟩
  have hperm : (zs.map (·.2)).Perm ks := by
    have e := pz.map (·.2)
    have m2 : (as.zip ks).map (·.2) = ks := List.map_snd_zip (by omega)
    rw [m2] at e
    exact e
  have tx : ∀ z ∈ zs, keyS h2 (.ref z.1) = z.2.1 := by
    intro z hz
    obtain ⟨j, j1, j2⟩ := idx z hz
    obtain ⟨e, he, hp⟩ := pin j _ j1
    rw [j2] at he
    cases he
    exact hp.tx
  have hsort : (zs.map (·.2)).Pairwise (fun e f => ¬ f.1.cps.toList < e.1.cps.toList) := by
    have o3 : out.Pairwise (fun x y => decide ((keyS h2 y).cps.toList < (keyS h2 x).cps.toList) = false) := o1
    rw [← ez, List.pairwise_map] at o3
    rw [List.pairwise_map]
    refine List.Pairwise.imp_of_mem (fun {x y} hx hy h => ?_) o3
    have h := of_decide_eq_false h
    rw [tx x hx, tx y hy] at h
    exact h
  -- behind the sort
  have kF : ∀ b o, b ≠ h'.objs.size → h2.get? b = some o → (sortedHeap h2 h'.objs.size (as.map Value.ref) out.toArray).get? b = some o := fun b o hb e => (PyProof.Rows.sortedHeap_old hb (Heap.lt_size e)).trans e
  have kS : ∀ b o, s.heap.get? b = some o → (sortedHeap h2 h'.objs.size (as.map Value.ref) out.toArray).get? b = some o := fun b o e => kF b o (ne0 _ _ (hk b o e)) (kb b o e)
  obtain ⟨eF, heF⟩ := PyProof.Rows.sortedHeap_at (vs := as.map Value.ref) (out := out.toArray) hob
  have I1 : Inv X pins σ H { s with heap := sortedHeap h2 h'.objs.size (as.map Value.ref) out.toArray, toks := tk } := I.kept (t' := tk) kS
  have hn0 : H h'.objs.size = none := I.hok.fresh (Nat.le_of_lt hlt)
  have hlen : (zs.map fun z => V.ref z.1).length ≤ sizeLine := by
    have e := hperm.length_eq
    rw [List.length_map] at e
    rw [List.length_map]
    omega
  have rv : Vals (zs.map fun z => V.ref z.1) out := by
    rw [← ez]
    exact vals_maps (fun z : Addr × Str × Addr => V.ref z.1) (fun z => Value.ref z.1) zs fun _ _ => rfl
  have I2 : Inv X pins σ (upd H h'.objs.size (.lst (zs.map fun z => V.ref z.1))) { s with heap := sortedHeap h2 h'.objs.size (as.map Value.ref) out.toArray, toks := tk } :=
    I1.take (h' := sortedHeap h2 h'.objs.size (as.map Value.ref) out.toArray) (t' := tk) (fun b ob _ e => e) (I.fpOk (Nat.le_of_lt hlt) hn0) ⟨hlen, out, eF, rv, heF⟩
  have above : ∀ b ∈ as, s.heap.objs.size ≤ b := fun b hb => Nat.le_of_lt (hG.above b hb)
  obtain ⟨H2, I3, g, qt⟩ := takeT (P := fun b vs => ∃ (j : Nat) (e : Str × Addr), as[j]? = some b ∧ ks[j]? = some e ∧ vs = [.str e.1, .ref e.2]) I as _ I2 nd fun b hb => by
    obtain ⟨j, hj⟩ := List.mem_iff_getElem?.mp hb
    obtain ⟨e, t, he, hg⟩ := pr j b hj
    have nb : b ≠ h'.objs.size := ne0 _ _ hg
    have hH : H b = none := I.hok.fresh (above b hb)
    refine ⟨above b hb, by rw [upd_ne nb]; exact hH, [.str e.1, .ref e.2], ⟨j, e, hj, he, rfl⟩, fun H2 => ⟨(by rw [sizeLine_eq]; show 2 ≤ 16777216; omega), [Value.str e.1 t, Value.ref e.2], .cons ⟨t, rfl⟩ (.cons rfl .nil), ⟨_, kF _ _ nb (ka _ _ hg), rfl, 0, rfl⟩⟩⟩
  refine ⟨.ref h'.objs.size, H2, I3, rfl, q H2 h'.objs.size zs (fun b o e => g b o (by rw [upd_ne (ne_of_none e hn0)]; exact e)) hperm hsort hn0 (g _ _ upd_same) fun z hz => ?_⟩
  obtain ⟨j, j1, j2⟩ := idx z hz
  have hb := List.mem_of_getElem? j1
  refine ⟨I.hok.fresh (above _ hb), ?_⟩
  obtain ⟨vs', ⟨i, e, i1, i2, rfl⟩, hz2⟩ := qt z.1 hb
  have ij : i = j := (List.getElem?_inj (List.getElem?_eq_some_iff.mp i1).1 nd).mp (i1.trans j1.symm)
  subst ij
  rw [j2] at i2
  cases i2
  exact hz2
end
end Cs
set_option maxHeartbeats 4000000
/-! zip of two texts. -/
namespace Cs
open PySem PySem.Spec L2 PyProof.Rows
/-- the signs at each turn, in new pairs -/
def ItzS (x y : Str) : It :=
  ⟨fun i H => i < x.length ∧ i < y.length,
    fun i H v H' => ∃ (T : Addr) (c d : Nat), x.cps[i]? = some c ∧ y.cps[i]? = some d ∧ v = .ref T ∧ H T = none ∧ H' = upd H T (.tup [.str ⟨#[c]⟩, .str ⟨#[d]⟩]),
    fun i H => i ≤ x.length ∧ i ≤ y.length ∧ (i = x.length ∨ i = y.length)⟩
theorem strIt_obj {h : Heap} {it : Addr} {T : String} {x : Str} {t : Tok} {i : Nat} (g : h.IsStrIter it T x t i) : ∃ o, h.get? it = some o ∧ ∀ v, o.data ≠ .cell v := by
  obtain ⟨o, ho, hc, hd⟩ := g
  exact ⟨o, ho, fun v q => by rw [hd] at q; cases q⟩
theorem turn_zipS {P : Program} {w : World} {K : PySem.W.Frag} {elts : List Expr} {kk : Nat} {tpos : Pos} {x y : Str} {t u : Tok} {z TI TO i1 i2 : Addr} (D : ZipSep2 z TI TO i1 i2 [i1] [i2]) :
    Turn P w K (.Tuple elts kk tpos) (ItzS x y) [z, TI, TO, i1, i2] z (fun i h => IsZip h z TI TO .none ∧ IsTupOf2 h TI (.ref i1) (.ref i2) ∧ (∃ a b, IsTupOf2 h TO a b) ∧ h.IsStrIter i1 (strIterType x) x t i ∧ h.IsStrIter i2 (strIterType y) y u i) where
  mem := List.mem_cons_self
  obj := fun i h st c hc => by
    obtain ⟨g1, g2, ⟨a, b, g3⟩, g4, g5⟩ := st
    simp only [List.mem_cons, List.not_mem_nil, or_false] at hc
    rcases hc with rfl | rfl | rfl | rfl | rfl
    · exact ⟨_, g1, fun v q => nomatch q⟩
    · exact ⟨_, g2, fun v q => nomatch q⟩
    · exact ⟨_, g3, fun v q => nomatch q⟩
    · exact strIt_obj g4
    · exact strIt_obj g5
  keep := fun i h h' st k => by
    obtain ⟨g1, g2, ⟨a, b, g3⟩, ⟨o4, g4, r4⟩, ⟨o5, g5, r5⟩⟩ := st
    exact ⟨k z (by simp) _ g1, k TI (by simp) _ g2, ⟨a, b, k TO (by simp) _ g3⟩, ⟨o4, k i1 (by simp) o4 g4, r4⟩, ⟨o5, k i2 (by simp) o5 g5, r5⟩⟩
  item := by
    rintro X rfl rfl rfl hc i pins s σ H E I hf ⟨g1, g2, ⟨x0, y0, g3⟩, g4, g5⟩ ⟨l1, l2⟩
    have zl : z < s.heap.objs.size := Heap.lt_size g1
    refine wpAny_pyNext_zipD2_item (n1 := x.cps.size) (n2 := y.cps.size) (P1 := fun i v => ∃ c u, x.cps[i]? = some c ∧ v = .str ⟨#[c]⟩ u) (P2 := fun i v => ∃ c u, y.cps[i]? = some c ∧ v = .str ⟨#[c]⟩ u) (St1 := fun i h => h.IsStrIter i1 (strIterType x) x t i) (St2 := fun i h => h.IsStrIter i2 (strIterType y) y u i) D (Draws.text (A := X.A.in1) (I.ok.hd hc) i1 x t) (Draws.text (A := X.A.in1) (I.ok.hd hc) i2 y u) g1 g2 g3 g4 g5 l1 l2 fun x1 x2 h' tk p1 p2 k1 k2 k3 k4 k5 hsz kp => ?_
    obtain ⟨c, t1, e1, rfl⟩ := p1
    obtain ⟨d, t2, e2, rfl⟩ := p2
    refine ⟨_, rfl, wpAny_letOwnedTupleGo_zip (s := { s with heap := h', toks := tk }) k1 fun h2 z2 sb => ?_⟩
    have T2 : h2.get? s.heap.objs.size = some { cls := .type "tuple", data := .seq #[.str ⟨#[c]⟩ t1, .str ⟨#[d]⟩ t2] } := (sb.2 _ (Nat.ne_of_gt zl)).trans k5
    have ok : ObjOk X.prog X.w (upd H s.heap.objs.size (.tup [.str ⟨#[c]⟩, .str ⟨#[d]⟩])) h2 s.heap.objs.size (.tup [.str ⟨#[c]⟩, .str ⟨#[d]⟩]) := ⟨by show 2 ≤ sizeLine; decide, [.str ⟨#[c]⟩ t1, .str ⟨#[d]⟩ t2], .cons ⟨t1, rfl⟩ (.cons ⟨t2, rfl⟩ .nil), ⟨_, T2, rfl, _, rfl⟩⟩
    have J : L2.Inv X pins σ (upd H s.heap.objs.size (.tup [.str ⟨#[c]⟩, .str ⟨#[d]⟩])) { s with heap := h2, toks := tk } := I.turnedNew (t' := tk) (ch := [z, TI, TO, i1, i2]) (fun c o hb q => by
      simp only [List.mem_cons, List.not_mem_nil, or_false, not_or] at hb
      exact (sb.2 c hb.1).trans (kp c o hb.1 hb.2.2.1 hb.2.2.2.1 hb.2.2.2.2 q)) hf (Nat.le_refl _) ok
    have ap : ∀ b ∈ [TI, TO, i1, i2], b ≠ z := fun b hb => by
      simp only [List.mem_cons, List.not_mem_nil, or_false] at hb
      rcases hb with rfl | rfl | rfl | rfl
      · exact D.TIz
      · exact D.TOz
      · exact D.zi1.symm
      · exact D.zi2.symm
    obtain ⟨o4, q4, r4⟩ := k3
    obtain ⟨o5, q5, r5⟩ := k4
    refine ⟨.ref s.heap.objs.size, _, J, rfl, ⟨_, c, d, e1, e2, rfl, I.hok.fresh (Nat.le_refl _), rfl⟩, ⟨z2, (sb.2 _ D.TIz).trans (kp _ _ D.TIz D.TITO D.TIi1 D.TIi2 g2), ⟨_, _, (sb.2 _ D.TOz).trans k2⟩, ⟨o4, (sb.2 _ D.zi1.symm).trans q4, r4⟩, ⟨o5, (sb.2 _ D.zi2.symm).trans q5, r5⟩⟩, fun c hm => ?_⟩
    have lt : c < s.heap.objs.size := by
      simp only [List.mem_cons, List.not_mem_nil, or_false] at hm
      rcases hm with rfl | rfl | rfl | rfl | rfl
      · exact zl
      · exact Heap.lt_size g2
      · exact Heap.lt_size g3
      · obtain ⟨_, q, _⟩ := g4
        exact Heap.lt_size q
      · obtain ⟨_, q, _⟩ := g5
        exact Heap.lt_size q
    rw [upd_ne (Nat.ne_of_lt lt)]
    exact (hf c hm).1
  done := by
    rintro X rfl rfl rfl hc i pins s σ H E I hf ⟨g1, g2, ⟨x0, y0, g3⟩, g4, g5⟩ ⟨l1, l2, en⟩
    exact wpAny_pyNext_zipD2_end (n1 := x.cps.size) (n2 := y.cps.size) (P1 := fun i v => ∃ c u, x.cps[i]? = some c ∧ v = .str ⟨#[c]⟩ u) (P2 := fun i v => ∃ c u, y.cps[i]? = some c ∧ v = .str ⟨#[c]⟩ u) (St1 := fun i h => h.IsStrIter i1 (strIterType x) x t i) (St2 := fun i h => h.IsStrIter i2 (strIterType y) y u i) D (Draws.text (A := X.A.in1) (I.ok.hd hc) i1 x t) (Draws.text (A := X.A.in1) (I.ok.hd hc) i2 y u) g1 g2 g3 g4 g5 l1 l2 en fun h' tk hk => ⟨rfl, I.turnedL (t' := tk) (ch := [z, TI, TO, i1, i2]) (fun c o hb q => by
      simp only [List.mem_cons, List.not_mem_nil, or_false, not_or] at hb
      exact hk c o hb.1 hb.2.2.1 hb.2.2.2.1 hb.2.2.2.2 q) hf⟩
  self := fun A i s Q E st h => wpAny_pyIter_zip st.1 h
def iZipS (ta : TA) : TI := fun σ H R => ta σ H fun vs H1 => ∃ x y : Str, vs = [.str x, .str y] ∧ R (ItzS x y) H1
theorem pi_zipS {X : Cx} {e e2 : Expr} {ta : TA} {p pos tpos : Pos} {elts : List Expr} {kk : Nat} (hg : Gl X "zip") (hm : X.mg "zip" = none) (ha : PA X [e, e2] ta)
    (hs : starEach [e, e2] X.env = (false, eval e X.env) :: starEach [e2] X.env := by rfl) (hpl : (backTo pos (starEach [e2] X.env)).any (·.1) = false := by rfl) :
    PI X (.Tuple elts kk tpos) (.Call (.Name "zip" p) [e, e2] [] pos) (iZipS ta) := by
  refine ⟨fun pins s σ H R I h => Call_ (ld_blt I hg hm PyProof.Rows.boot_zip (PyProof.Rows.callWith_type1 (thn (ha.run pos pins s σ H _ I h) fun us s1 ⟨vs, H1, I1, r1, x, y, ev, q⟩ => ?_) hs hpl))⟩
  subst ev
  obtain ⟨u1, us2, rfl, r, rr⟩ : ∃ u1 us2, us = u1 :: us2 ∧ RelV (.str x) u1 ∧ Vals [.str y] us2 := by
    cases r1 with
    | cons r rr => exact ⟨_, _, rfl, r, rr⟩
  obtain ⟨u2, rfl, r'⟩ := rr.one
  obtain ⟨t, rfl⟩ := r
  obtain ⟨u, rfl⟩ := r'
  refine zip_begins2 (begins_text x t) (begins_text y u) trivial trivial fun h' k1 k2 k3 k4 k5 hsz hk => wpAny_pyIter_zip k1 ?_
  refine ⟨_, [s1.heap.objs.size + 4, s1.heap.objs.size + 2, s1.heap.objs.size + 3, s1.heap.objs.size, s1.heap.objs.size + 1], _, _, H1, rfl, I1.kept (t' := s1.toks) hk, turn_zipS (x := x) (y := y) (t := t) (u := u) ?_, ⟨k1, k2, ⟨_, _, k3⟩, ⟨_, k4, rfl, rfl⟩, ⟨_, k5, rfl, rfl⟩⟩, fun c hm => ?_, q⟩
  · refine ⟨?_, ?_, ?_, ?_, ?_, ?_, ?_, ?_, ?_, ?_, ?_, ?_, ?_⟩ <;> first | (simp only [List.mem_cons, List.not_mem_nil, or_false]; omega) | (simp; done) | omega
  have le : s1.heap.objs.size ≤ c := by
    simp only [List.mem_cons, List.not_mem_nil, or_false] at hm
    rcases hm with rfl | rfl | rfl | rfl | rfl <;> first | exact Nat.le_add_right _ _ | exact Nat.le_refl _
  exact I1.fpOk le (I1.hok.fresh le)
end Cs
set_option maxHeartbeats 4000000
/-! «a or b» of tuples -/
namespace Cs
open PySem L2 L2H PyProof.Rows
def tOrT (K : PySem.W.Frag) (ta tb : TE) : TE := fun σ H Q => ta σ H fun x H1 => ∃ k, TruV K x H1 k ∧ if k = true then Q x H1 else tb σ H1 Q
section
variable {X : Cx} {a b : Expr} {rest : List Expr} {pos : Pos} {ta tb : TE}
theorem pe_orT (ha : PE X a ta) (hb : PE X (.BoolOp .Or (b :: rest) pos) tb) : PE X (.BoolOp .Or (a :: b :: rest) pos) (tOrT X.K ta tb) := by
  refine ⟨fun pins s σ H Q I h => ?_⟩
  refine BoolOp_or (thn (ha.run pins s σ H _ I h) fun v s1 ⟨x, H1, I1, r1, k, e, q1⟩ => ?_)
  refine thn (tru_ok pins s1 σ H1 x v (fun c H2 => c = k ∧ H2 = H1) I1 r1 ⟨k, e, rfl, rfl⟩) fun c s2 ⟨H2, I2, ec, eH⟩ => ?_
  subst ec eH
  cases c with
  | true =>
    rw [if_pos rfl] at q1
    exact ⟨x, _, I2, r1, q1⟩
  | false =>
    rw [if_neg (by decide)] at q1
    exact hb.run pins s2 σ _ Q I2 q1
end
@[irreducible] def xOrT2 (a b : XE) : XE := ⟨fun ε K => a.run ε fun r ε1 => ∃ ds, r.see = some (.tuple ds) ∧ if ds.isEmpty = false then K r ε1 else b.run ε1 K, fun h q => a.mono (fun r _ ⟨c, e, k⟩ => ⟨c, e, by
  split at k
  · rw [if_pos (by assumption)]
    exact h _ _ k
  · rw [if_neg (by assumption)]
    exact b.mono h k⟩) q⟩
theorem xOrT2_run {a b : XE} {ε : List AV} {K : RV → List AV → Prop} : (xOrT2 a b).run ε K = a.run ε fun r ε1 => ∃ ds, r.see = some (.tuple ds) ∧ if ds.isEmpty = false then K r ε1 else b.run ε1 K := by
  unfold xOrT2
  rfl
theorem xe_orT {X : Cx} {a b : Expr} {rest : List Expr} {pos : Pos} {ta tb : XE} (h : PE X a (up ta)) (k : PE X (.BoolOp .Or (b :: rest) pos) (up tb)) : PE X (.BoolOp .Or (a :: b :: rest) pos) (up (xOrT2 ta tb)) :=
  pe_wk (pe_orT h k) fun σ H Q ⟨Γ, ε, T, R, q⟩ => up1 R (xOrT2_run ▸ q) fun r x ε1 T1 H1 ⟨ds, e, g⟩ R1 s1 d1 => by
    obtain ⟨p, vs, e1, e2, e3, e4, e5⟩ := (d1.see e).tup
    have lv := e4.length
    refine ⟨!vs.isEmpty, ?_, ?_⟩
    · rw [e1]
      exact .inr (.inl ⟨vs, SqT.rd e2, rfl⟩)
    · have em : vs.isEmpty = ds.isEmpty := by
        cases vs <;> cases ds <;> first | rfl | (simp at lv)
      rw [em]
      split at g
      · rename_i z
        rw [z]
        exact g _ T1 H1 R1 s1 d1
      · rename_i z
        rw [Bool.not_eq_false] at z
        rw [z]
        exact up_contE R R1 s1 g
/-- (a, b, ..) = a list of that length -/
def xgU (gs : XGs) : XG := ⟨gs.is, fun d ε K => ∃ ds, d = .list ds ∧ gs.run ds ε K, fun h ⟨ds, e, k⟩ => ⟨ds, e, gs.mono h k⟩, fun ⟨ds, e, k⟩ => gs.prog k⟩
theorem xg_u {X : Cx} {K : PySem.W.Frag} {tg : Expr} {gs : XGs} (h : PG X tg (gUnl K gs.len (upGs gs))) : PG X tg (upG (xgU gs)) := pg_wk h fun v σ H Q ⟨Γ, ε, T, d, R, dn, ds, e, k⟩ => by
  subst e
  cases dn with
  | @lst a xs _ n h z r => exact ⟨a, xs, rfl, SqL.of h, by rw [r.length]; exact gs.lenOk k, Γ, ε, T, ds, R, r, k⟩
end Cs
set_option maxHeartbeats 4000000
/-! Filters by what stands behind data. -/
namespace Cs
open PySem L2 PyProof.Rows
open Classical in
noncomputable def pkF {α : Type} (e : α → PyData) (c : α → Bool) (d : PyData) : Option PyData := if ∃ x, d = e x ∧ c x = true then some d else none
theorem pkF_at {α : Type} {e : α → PyData} {c : α → Bool} (inj : ∀ x y, e x = e y → x = y) (x : α) : pkF e c (e x) = if c x = true then some (e x) else none := by
  unfold pkF
  by_cases h : c x = true
  · rw [if_pos ⟨x, rfl, h⟩, if_pos h]
  · rw [if_neg h, if_neg]
    rintro ⟨y, hy, k⟩
    rw [inj _ _ hy] at h
    exact h k
theorem pkF_map {α : Type} {e : α → PyData} {c : α → Bool} (inj : ∀ x y, e x = e y → x = y) : ∀ {xs : List α}, (xs.map e).filterMap (pkF e c) = (xs.filter c).map e
  | [] => rfl
  | x :: xs => by
    rw [List.map_cons, List.filterMap_cons, pkF_at inj, pkF_map inj, List.filter_cons]
    cases c x <;> rfl
theorem str_inj : ∀ x y : Str, PyData.str x = .str y → x = y := fun _ _ h => by cases h; rfl
/-- whether nothing is left -/
theorem fil_emp {α : Type} {e : α → PyData} {c : α → Bool} : ∀ {xs : List α}, ((xs.filter c).map e).isEmpty = xs.all fun x => !c x
  | [] => rfl
  | x :: xs => by
    rw [List.filter_cons, List.all_cons]
    cases h : c x
    · exact fil_emp
    · rfl
theorem ShD.str {b : Nat} {x : Str} (h : isName (.str x) = true) : ShD b (.str x) := ⟨strOk_name h, Nat.zero_le _⟩
/-- a name that holds a tuple known whole, looked at as data -/
def xW (i : Nat) : XE := ⟨fun ε K => ∃ ds, ε[i]? = some (.o (WhP ds)) ∧ imms ds = true ∧ K (.d (.tuple ds)) ε, fun h ⟨ds, e, m, k⟩ => ⟨ds, e, m, h _ _ k⟩⟩
theorem xe_w {X : Cx} {e : Expr} {i : Nat} (h : PE X e (tVar i)) : PE X e (up (xW i)) := pe_wk h fun σ H Q ⟨Γ, ε, T, R, ds, hx, m, k⟩ => by
  obtain ⟨v, hv, d⟩ := slot_at R hx
  obtain ⟨l, vs, rfl, fz, hl, da⟩ := Stb.now d
  have nt := no_tup R.lists (not_tup R.hp)
  exact ⟨_, hv, k _ T H R (.refl R) (Dn.tup (nt l vs fz.rd) fz.rd hl (DnA.imm nt da m))⟩
end Cs
set_option maxHeartbeats 4000000
/-! Rules of my own: t[::-1] of a tuple, known whole. -/
namespace HT
open PySem PySem.Spec PyProof.Rows
section
variable {prog : Program} {w : World} {A : Around} {E : Value → Shared → Prop} {s : Shared}
theorem csr_places (n : Nat) : Builtin.Slice.slicePlaces ((n : Int) - 1) (-1) (-1) = n := by
  unfold Builtin.Slice.slicePlaces
  rw [if_neg (show ¬ ((-1 : Int) > 0) by decide)]
  by_cases h : n = 0
  · subst h
    rfl
  · rw [if_pos (show (n : Int) - 1 > -1 by omega), show (- -1 : Int) = 1 by decide, Int.ediv_one]
    omega
theorem csr_pick (xs : Array Value) : ((List.range xs.size).filterMap fun (m : Nat) => xs[(((xs.size : Int) - 1) + (m : Int) * -1).toNat]?).toArray = xs.toList.reverse.toArray := by
  have e : (List.range xs.size).filterMap (fun (m : Nat) => xs[(((xs.size : Int) - 1) + (m : Int) * -1).toNat]?) = ((List.range xs.size).map fun k => xs.size - 1 - k).filterMap (xs[·]?) := by
    rw [List.filterMap_map]
    congr 1
    funext m
    have : (((xs.size : Int) - 1) + (m : Int) * -1).toNat = xs.size - 1 - m := by omega
    rw [this]
    rfl
  rw [e, PySem.W.krv_range, List.filterMap_reverse, PySem.W.krv_all]
theorem csr_applied {sl : Addr} {n : Nat} {t : Tok} {Q : Int × Int × Nat → Shared → Prop} (hs : s.heap.IsSliceOf sl .none .none (.int (-1) t))
    (h : Q ((n : Int) - 1, -1, n) s) : wpAny (model prog w) A (Builtin.Slice.sliceApplied (.ref sl) (pure (n : Int))) Q E s := by
  obtain ⟨os, hos, hcs, hds⟩ := id hs
  unfold Builtin.Slice.sliceApplied Builtin.Slice.sliceFields
  refine wpAny_bind (wpAny_bind (wpAny_field hos hds (x := .none) rfl (wpAny_bind (wpAny_field hos hds (x := .none) rfl (wpAny_bind (wpAny_field hos hds (x := .int (-1) t) rfl (wpAny_pure ?_)))))))
  refine wpAny_bind (slicePart_int ?_)
  show wpAny _ _ (if ((-1 : Int) == 0) = true then _ else _) _ _ s
  rw [if_neg (by decide)]
  refine wpAny_bind (slicePart_none (wpAny_bind (slicePart_none (wpAny_bind (wpAny_pure ?_)))))
  show wpAny _ _ (pure ((n : Int) - 1, (-1 : Int), Builtin.Slice.slicePlaces ((n : Int) - 1) (-1) (-1))) _ _ s
  rw [csr_places]
  exact wpAny_pure h
theorem getItem_tuple_rev {t sl : Addr} {items : Array Value} {tk : Tok} {Q : Value → Shared → Prop} (ht : IsTup s.heap t items) (hs : s.heap.IsSliceOf sl .none .none (.int (-1) tk))
    (h : Q (.ref s.heap.objs.size) { s with heap := s.heap.push { cls := .type "tuple", data := .seq items.toList.reverse.toArray } })
    (hsz : items.size ≤ sizeLine) : wpAny (model prog w) A (getItem (.ref t) (.ref sl)) Q E s := by
  have htake : sizeOk (.seq items.toList.reverse.toArray) := by
    show items.toList.reverse.toArray.size ≤ sizeLine
    rw [List.size_toArray, List.length_reverse, Array.length_toList]
    exact hsz
  obtain ⟨os, hos, hcs, hds⟩ := id hs
  have hTs : s.TypeIs (.ref sl) "slice" := ⟨os, hos, hcs⟩
  unfold getItem
  try with_reducible refine wpAny_holding ?_
  first | refine wpAny_bind (wpAny_pure ?_) | skip
  refine wpAny_bind (wpAny_sequenceKey ht.typeIs (by decide) ?_)
  refine wpAny_bind (wpAny_callSpecial?_slot (name := Str.ofString "__getitem__") ht.typeIs PyProof.Rows.slot_tuple_getitem
    (wpAny_call_entry PyProof.Rows.slot_tuple_getitem ht.typeIs entry_tuple_getitem ?_ (args_tuple_getitem _ _)))
  show wpAny _ _ (Builtin.Tuple.tupleItemsOf (.ref t) >>= _) _ _ s
  refine wpAny_bind (tupleItemsOf_ ht ?_)
  refine wpAny_bind (wpAny_typeOf hTs ?_)
  rw [if_pos (by decide)]
  refine wpAny_bind (csr_applied hs ?_)
  have hno : ¬ ((((items.size : Int) - 1) == 0 && (-1 : Int) == 1 && items.size == items.size) = true) := by
    rw [show ((-1 : Int) == 1) = false by decide, Bool.and_false, Bool.false_and]
    exact Bool.false_ne_true
  show wpAny _ _ (if (((items.size : Int) - 1) == 0 && (-1 : Int) == 1 && items.size == items.size) = true then _ else _) _ _ s
  rw [if_neg hno, csr_pick]
  first
    | exact wpAny_bind (m := Builtin.Tuple.tupleExact _) (wpAny_newObj_type (wpAny_pure ⟨_, rfl, wpAny_pure h⟩) htake)
    | exact wpAny_bind (m := Builtin.Tuple.tupleExact _) (wpAny_newObj_type (wpAny_bind (wpAny_pure (wpAny_pure ⟨_, rfl, wpAny_pure h⟩))) htake)
    | exact wpAny_bind (wpAny_bind (m := Builtin.Tuple.tupleExact _) (wpAny_newObj_type (wpAny_pure (wpAny_pure ⟨_, rfl, wpAny_pure h⟩)) htake))
    | exact wpAny_bind (wpAny_bind (m := Builtin.Tuple.tupleExact _) (wpAny_newObj_type (wpAny_pure ⟨_, rfl, wpAny_pure h⟩) htake))
end
end HT
namespace Cs
open PySem L2 PyProof.Rows
theorem vals_rev : ∀ {vs : List V} {us : List Value}, Vals vs us → Vals vs.reverse us.reverse
  | _, _, .nil => .nil
  | _, _, .cons r t => by
    rw [List.reverse_cons, List.reverse_cons]
    exact (vals_rev t).append (.cons r .nil)
/-- t[::-1] of a tuple: a new one, known whole -/
def tRv (K : PySem.W.Frag) (te : TE) (tst : TO) : TE := fun σ H Q => te σ H fun x H1 => tst σ H1 fun o H2 => o = some (-1) ∧ ∃ a xs, x = .ref a ∧ SqT K H2 a xs ∧ ∀ l H', H2 l = none → Same H2 H' → Fz H' l xs.reverse → Q (.ref l) H'
section
variable {X : Cx} {e : Expr} {te : TE} {st : Option Expr} {tst : TO} {pos p2 : Pos}
theorem pe_rev (he : PE X e te) (hs : PO X st tst) (hsub : ∀ a b : Addr, ∃ ops : List Value, subscripted (.Slice none none st p2) false (.ref a) (.ref b) = operate ops (getItem (.ref a) (.ref b))) : PE X (.Subscript e (.Slice none none st p2) pos) (tRv X.K te tst) := by
  refine ⟨fun pins s σ H Q I h => ?_⟩
  refine Subscript_ (thn (he.run pins s σ H _ I h) fun v s1 ⟨x, H1, I1, r1, q1⟩ => ?_)
  refine wpAny_Slice ?_
  rw [evalPart_none]
  refine wpAny_pure ?_
  refine wpAny_pure ?_
  refine thn (hs.run pins s1 σ H1 _ I1 q1) fun vu s3 ⟨u, H3, I3, pu, q3⟩ => ?_
  obtain ⟨rfl, a, xs, rfl, hx, q⟩ := q3
  cases r1
  cases pu with
  | int i t =>
  have I4 : Inv X pins σ H3 { s3 with heap := s3.heap.push { cls := .type "slice", data := .fields #[.none, .none, .int (-1) t] } } := I3.kept (t' := s3.toks) fun b ob q => Heap.get?_push_of_some _ q
  obtain ⟨its, r, ht, hz⟩ := I4.tuple hx
  have hlen := r.length
  have hsl : ({ s3 with heap := s3.heap.push { cls := .type "slice", data := .fields #[.none, .none, .int (-1) t] } } : Shared).heap.IsSliceOf s3.heap.objs.size .none .none (.int (-1) t) := Heap.IsSliceOf.new ..
  show wpAny (model X.prog X.w) X.A (subscriptTail e (.Slice none none st p2) (.ref a) (.ref s3.heap.objs.size)) (EP X pins σ Q) X.xe { s3 with heap := s3.heap.push { cls := .type "slice", data := .fields #[.none, .none, .int (-1) t] } }
  obtain ⟨ops, hops⟩ := hsub a s3.heap.objs.size
  refine tail_any (ops := ops) ht.typeIs PyProof.Rows.slot_tuple_getitem.lookup (HT.getItem_tuple_rev ht hsl ?_ (by rw [List.size_toArray]; omega)) hops
  generalize ({ s3 with heap := s3.heap.push { cls := .type "slice", data := .fields #[.none, .none, .int (-1) t] } } : Shared) = s4 at *
  have hn : H3 s4.heap.objs.size = none := I4.hok.fresh (Nat.le_refl _)
  have I5 : L2.Inv X pins σ (upd H3 s4.heap.objs.size (.frz { cls := .type "tuple", data := .seq its.reverse.toArray } (.tup xs.reverse))) { s4 with heap := s4.heap.push { cls := .type "tuple", data := .seq its.reverse.toArray } } :=
    I4.laid (t' := s4.toks) (fun b o e => Heap.get?_push_of_some _ e) (Nat.le_refl _) (show ObjOk X.prog X.w _ _ _ (.frz { cls := .type "tuple", data := .seq its.reverse.toArray } (.tup xs.reverse)) from ⟨Heap.get?_push_size s4.heap rfl, by rw [List.length_reverse]; exact hz, its.reverse, vals_rev r, IsTup.new _ _⟩)
  exact ⟨.ref s4.heap.objs.size, _, I5, rfl, q _ _ hn (same_new hn) ⟨_, upd_same, rfl, rfl⟩⟩
end
end Cs
set_option maxHeartbeats 4000000
/-! Texts over data: split, join, removeprefix, one sign in a text, int(text), str(number); range with a step; a try that runs through. -/
namespace Cs
open PySem L2 PyProof.Rows
/-- a method of a text with one argument -/
def xM1 (f : F2) (a b : XE) : XE := ⟨fun ε K => a.run ε fun r ε1 => (∃ z, r.see = some (.str z)) ∧ b.run ε1 fun s ε2 => ∃ d e c, r.see = some d ∧ s.see = some e ∧ f d e = some c ∧ c.1 ∧ K c.2 ε2,
  fun h q => a.mono (fun _ _ ⟨z, q⟩ => ⟨z, b.mono (fun _ _ ⟨d, e, c, a1, a2, a3, a4, k⟩ => ⟨d, e, c, a1, a2, a3, a4, h _ _ k⟩) q⟩) q⟩
def MtL (r : V → List V → Hp → VK → Prop) (f : F2) : Prop := ∀ {N : Addr → Prop} {H : Hp} {x y : V} {d e : PyData} {c : Prop × RV} {Q : VK}, See N H x d → See N H y e → f d e = some c → c.1 → Outs N H (fun r => r = c.2) Q → r x [y] H Q
theorem x_m1 {X : Cx} {E : Expr} {g : V → List V → Hp → VK → Prop} {f : F2} {ta tb : XE} (h : PE X E (tM1 g (up ta) (up tb))) (hl : MtL g f) : PE X E (up (xM1 f ta tb)) :=
  pe_wk h fun σ H Q ⟨Γ, ε, T, R, k⟩ => up1 R k fun r x ε1 T1 H1 ⟨⟨z, ez⟩, g⟩ R1 s1 d1 => ⟨⟨z, (d1.see ez).str.1⟩, up1 R1 g fun s y ε2 T2 H2 ⟨d, e, c, e1, e2, e3, e4, g⟩ R2 s2 d2 =>
    hl ((d1.step R1 s2).see e1) ((d2.early fun a => s1.none R.hp).see e2) e3 e4 (outs R R2 (s1.trans R.hp s2) fun r er v T' H' R' s' d' => by subst er; exact g v T' H' R' s' d')⟩
theorem strs_dn {N : Addr → Prop} {H : Hp} : ∀ {ys : List Str}, (∀ y ∈ ys, y.length ≤ 1000) → DnA N H (ys.map V.str) (ys.map PyData.str)
  | [], _ => .nil
  | y :: ys, h => .cons (.str y (h y List.mem_cons_self)) (strs_dn fun z hz => h z (List.mem_cons_of_mem _ hz))
def fSplit : F2
  | .str a, .str b => some ((b.length == 0) = false ∧ a.length ≤ 900, .f ((Txt.split a b).map PyData.str))
  | _, _ => none
theorem ml_split : MtL (fun x xs H Q => ∃ a b, x = .str a ∧ xs = [.str b] ∧ (b.length == 0) = false ∧ a.length + 2 ≤ sizeLine ∧ rNewStrs (Txt.split a b) H Q) fSplit := by
  intro N H x y d e c Q hx hy e1 e2 o
  unfold fSplit at e1
  split at e1
  · rename_i a b
    cases e1
    obtain ⟨h1, h2⟩ := e2
    have h2 : a.length ≤ 900 := h2
    refine ⟨a, b, hx.str.1, by rw [hy.str.1], h1, sz1000 (by omega), fun p hp => ?_⟩
    have l1 := PyProof.Rows.split_le a b
    refine o.lst p _ _ rfl hp (by rw [List.length_map]; omega) (strs_dn fun y hy => ?_)
    exact Nat.le_trans (PyProof.Rows.part_short hy) (by omega)
  · cases e1
def strsO : List PyData → Option (List Str)
  | [] => some []
  | .str x :: ds => (strsO ds).map (x :: ·)
  | _ => none
theorem strsO_map : ∀ xs : List Str, strsO (xs.map PyData.str) = some xs
  | [] => rfl
  | x :: xs => by
    show (strsO (xs.map PyData.str)).map (x :: ·) = _
    rw [strsO_map xs]
    rfl
theorem dn_strsO {N : Addr → Prop} {H : Hp} : ∀ {vs : List V} {ds : List PyData} {ys : List Str}, DnA N H vs ds → strsO ds = some ys → vs = ys.map V.str ∧ ∀ y ∈ ys, y.length ≤ 1000
  | _, _, _, .nil, e => by cases e; exact ⟨rfl, fun y hy => by cases hy⟩
  | _, _, _, .cons h t, e => by
    cases h <;> first | cases e | skip
    rename_i x hx
    obtain ⟨r, e1, rfl⟩ := Option.map_eq_some_iff.mp e
    obtain ⟨e2, e3⟩ := dn_strsO t e1
    rw [e2]
    exact ⟨rfl, fun y hy => by
      rcases List.mem_cons.mp hy with rfl | hy
      · exact hx
      · exact e3 y hy⟩
def fJoin : F2
  | .str a, .list ds => (strsO ds).map fun ys => (a.length ≤ 10 ∧ (Txt.join a ys).length ≤ 1000, .d (.str (Txt.join a ys)))
  | .str a, .tuple ds => (strsO ds).map fun ys => (a.length ≤ 10 ∧ (Txt.join a ys).length ≤ 1000, .d (.str (Txt.join a ys)))
  | _, _ => none
theorem sum1000 {ys : List Str} {n : Nat} (h : ∀ y ∈ ys, y.length ≤ n) : (ys.map (·.length)).sum ≤ ys.length * n := by
  induction ys with
  | nil => simp
  | cons y ys ih =>
    rw [List.map_cons, List.sum_cons, List.length_cons, Nat.succ_mul]
    have h1 := h y List.mem_cons_self
    have h2 := ih fun z hz => h z (List.mem_cons_of_mem _ hz)
    omega
theorem join_fit {ys : List Str} {a : Str} (h : ∀ y ∈ ys, y.length ≤ 1000) (l : ys.length ≤ 1000) (ha : a.length ≤ 10) : (ys.map (·.length)).sum + ys.length * a.length ≤ 16777216 := by
  have h1 := sum1000 h
  have h2 : ys.length * a.length ≤ 1000 * 10 := Nat.mul_le_mul l ha
  have h3 : ys.length * 1000 ≤ 1000 * 1000 := Nat.mul_le_mul_right _ l
  omega
theorem ml_join {K : PySem.W.Frag} : MtL (fun x xs H Q => ∃ a p, ∃ ys : List Str, x = .str a ∧ xs = [.ref p] ∧ (SqL K H p (ys.map V.str) ∨ SqT K H p (ys.map V.str)) ∧ (ys.map (·.length)).sum + ys.length * a.length ≤ 16777216 ∧ Q (.str (Txt.join a ys)) H) fJoin := by
  intro N H x y d e c Q hx hy e1 e2 o
  unfold fJoin at e1
  split at e1
  · rename_i a ds
    obtain ⟨ys, e3, rfl⟩ := Option.map_eq_some_iff.mp e1
    obtain ⟨h1, h2⟩ := e2
    obtain ⟨b, ws, rfl, h3, h4, h5⟩ := hy.list
    obtain ⟨rfl, h6⟩ := dn_strsO h5 e3
    rw [List.length_map] at h4
    exact ⟨a, b, ys, hx.str.1, rfl, .inl (SqL.of h3), join_fit h6 h4 h1, o.old _ _ rfl (.str _ h2)⟩
  · rename_i a ds
    obtain ⟨ys, e3, rfl⟩ := Option.map_eq_some_iff.mp e1
    obtain ⟨h1, h2⟩ := e2
    obtain ⟨b, ws, rfl, h3, h4, h5, _⟩ := hy.tup
    obtain ⟨rfl, h6⟩ := dn_strsO h5 e3
    rw [List.length_map] at h4
    exact ⟨a, b, ys, hx.str.1, rfl, .inr (SqT.rd h3), join_fit h6 h4 h1, o.old _ _ rfl (.str _ h2)⟩
  · cases e1
def fRmp : F2
  | .str a, .str b => some (a.length ≤ 1000 ∧ (Txt.removeprefix a b).length ≤ 1000, .d (.str (Txt.removeprefix a b)))
  | _, _ => none
theorem ml_rmp : MtL (fun x xs H Q => ∃ a b, x = .str a ∧ xs = [.str b] ∧ a.length ≤ sizeLine ∧ Q (.str (Txt.removeprefix a b)) H) fRmp := by
  intro N H x y d e c Q hx hy e1 e2 o
  unfold fRmp at e1
  split at e1
  · rename_i a b
    cases e1
    exact ⟨a, b, hx.str.1, by rw [hy.str.1], sz1000 e2.1, o.old _ _ rfl (.str _ e2.2)⟩
  · cases e1
/-! one sign in a text -/
def fSign (neg : Bool) : F2
  | .str x, .str z => match x.cps.toList with
    | [c] => some (True, .d (.bool (if neg then !decide (c ∈ z.cps.toList) else decide (c ∈ z.cps.toList))))
    | _ => none
  | _, _ => none
theorem ol_sign : OpL (fun x y H Q => ∃ (c : Nat) (z : Str), x = .str ⟨#[c]⟩ ∧ y = .str z ∧ Q (.bl (decide (c ∈ z.cps.toList))) H) (fSign false) := by
  intro N H x y d e c Q hx hy e1 e2 o
  unfold fSign at e1
  split at e1
  · split at e1
    · rename_i x z l c' hc
      cases e1
      refine ⟨c', z, ?_, hy.str.1, o.old _ _ rfl (.bl _)⟩
      rw [hx.str.1]
      congr 1
      exact Str.ext' (Array.toList_inj.mp hc)
    · cases e1
  · cases e1
theorem ol_nsign : OpL (fun x y H Q => ∃ (c : Nat) (z : Str), x = .str ⟨#[c]⟩ ∧ y = .str z ∧ Q (.bl (!decide (c ∈ z.cps.toList))) H) (fSign true) := by
  intro N H x y d e c Q hx hy e1 e2 o
  unfold fSign at e1
  split at e1
  · split at e1
    · rename_i x z l c' hc
      cases e1
      refine ⟨c', z, ?_, hy.str.1, o.old _ _ rfl (.bl _)⟩
      rw [hx.str.1]
      congr 1
      exact Str.ext' (Array.toList_inj.mp hc)
    · cases e1
  · cases e1
/-! int(text), str(number) -/
def fIntS : FN
  | [.str a] => (PySem.intText? a).map fun n => (a.length ≤ 640, .d (.int n))
  | _ => none
theorem bl_intS : BiL (fun xs H Q => ∃ a n, xs = [.str a] ∧ PySem.intText? a = some n ∧ a.length ≤ 640 ∧ Q (.int n) H) fIntS := by
  intro N H vs ds c Q hs e1 e2 o
  unfold fIntS at e1
  split at e1
  · obtain ⟨n, e3, rfl⟩ := Option.map_eq_some_iff.mp e1
    obtain ⟨v, rfl, h⟩ := see1 hs
    exact ⟨_, n, by rw [h.str.1], e3, e2, o.old _ _ rfl (.int _)⟩
  · cases e1
def fStrI : FN
  | [.int i] => some (i.natAbs.log2 < 1920 ∧ (Str.ofString (toString i)).length ≤ 1000, .d (.str (Str.ofString (toString i))))
  | _ => none
theorem bl_strI : BiL (fun xs H Q => ∃ i : Int, xs = [.int i] ∧ i.natAbs.log2 < 1920 ∧ Q (.str (toString i)) H) fStrI := by
  intro N H vs ds c Q hs e1 e2 o
  unfold fStrI at e1
  split at e1
  · cases e1
    obtain ⟨v, rfl, h⟩ := see1 hs
    exact ⟨_, by rw [h.int], e2.1, o.old _ _ rfl (.str _ e2.2)⟩
  · cases e1
/-! range with a step -/
def rgC (lo c : Int) (n : Nat) : List PyData := (List.range n).map fun (i : Nat) => PyData.int (lo + (i : Int) * c)
theorem it_rngC {p : Addr} {lo c : Int} {n : Nat} : ItOk p (Itc lo c n) (fun _ _ => True) (rgC lo c n) true where
  st := fun _ _ _ _ _ _ _ => trivial
  stop := fun N H _ => by
    show n ≤ (rgC lo c n).length
    unfold rgC
    rw [List.length_map, List.length_range]
    exact Nat.le_refl _
  go := fun N H i d _ _ hd => by
    unfold rgC at hd
    obtain ⟨j, hj, rfl⟩ := mapget hd
    obtain ⟨h1, h2⟩ := List.getElem?_eq_some_iff.mp hj
    rw [List.length_range] at h1
    rw [List.getElem_range] at h2
    subst h2
    refine ⟨h1, fun x H' ⟨e, y⟩ => ?_⟩
    subst e y
    exact ⟨Same.refl _, .int _⟩
def xiR3 (a : XA) : XI := ⟨fun ε K => a.run ε fun rs ε1 => ∃ (i j c : Int) (n : Nat), sees rs = some [.int i, .int j, .int c] ∧ RgC i j c n ∧ K (rgC i c n) true ε1, fun h q => a.mono (fun _ _ ⟨i, j, c, n, e, b, k⟩ => ⟨i, j, c, n, e, b, h _ _ _ k⟩) q⟩
theorem see3 {N : Addr → Prop} {H : Hp} {vs : List V} {d e g : PyData} (h : SeeA N H vs [d, e, g]) : ∃ v w u, vs = [v, w, u] ∧ See N H v d ∧ See N H w e ∧ See N H u g := by
  cases h with
  | cons h t =>
    obtain ⟨w, u, rfl, h1, h2⟩ := see2 t
    exact ⟨_, _, _, rfl, h, h1, h2⟩
theorem xi_rng3 {X : Cx} {tg e e2 e3 : Expr} {p pos : Pos} {b : XA} (hg : Gl X "range") (hm : X.mg "range" = none) (h : PA X [e, e2, e3] (upA b)) (hs : starEach [e, e2, e3] X.env = (false, eval e X.env) :: starEach [e2, e3] X.env := by rfl)
    (hpl : (backTo pos (starEach [e2, e3] X.env)).any (·.1) = false := by rfl) : PI X tg (.Call (.Name "range" p) [e, e2, e3] [] pos) (upI (xiR3 b)) := pi_wk (pi_range3 hg hm h hs hpl) fun σ H R ⟨Γ, ε, T, R0, k⟩ => upA1 R0 k fun r x ε1 T1 H1 ⟨i, j, c, n, e1, b1, g⟩ R1 s1 d1 => by
  obtain ⟨v, w, u, rfl, h1, h2, h3⟩ := see3 (d1.see e1)
  exact ⟨i, j, c, n, by rw [h1.int, h2.int, h3.int], b1, g _ _ T1 H1 R1 s1 it_rngC trivial⟩
/-! a try that runs through -/
theorem xs_thru {X : Cx} {body : List Stmt} {hd : List ExceptHandler} {h0 : ExceptHandler} {pos : Pos} {t : XS} (hb : PSs X.nox body (upS t)) : PS X (.Try body (h0 :: hd) [] [] pos) (upS t) := ps_try_thru0 hb
/-! t[::-1] -/
theorem DnA.rev {N : Addr → Prop} {H : Hp} : ∀ {vs : List V} {ds : List PyData}, DnA N H vs ds → DnA N H vs.reverse ds.reverse
  | _, _, .nil => .nil
  | _, _, .cons h t => by
    rw [List.reverse_cons, List.reverse_cons]
    exact (DnA.rev t).append (.cons h .nil)
def xRv (a : XE) (st : XO) : XE := ⟨fun ε K => a.run ε fun r ε1 => st.run ε1 fun o ε2 => ∃ ds, o = some (-1) ∧ r.see = some (.tuple ds) ∧ K (.d (.tuple ds.reverse)) ε2,
  fun h q => a.mono (fun _ _ q => st.mono (fun _ _ ⟨ds, e1, e2, k⟩ => ⟨ds, e1, e2, h _ _ k⟩) q) q⟩
theorem xe_rv {X : Cx} {K : PySem.W.Frag} {E : Expr} {a : XE} {st : XO} (h : PE X E (tRv K (up a) (upO st))) : PE X E (up (xRv a st)) :=
  pe_wk h fun σ H Q ⟨Γ, ε, T, R, k⟩ => up1 R k fun r x ε1 T1 H1 g R1 s1 d1 => upO1 R1 g fun o ε2 T2 H2 ⟨ds, e1, e2, k⟩ R2 s2 => by
    obtain ⟨b, vs, rfl, h1, h2, h3, _⟩ := ((d1.step R1 s2).see e2).tup
    refine ⟨e1, b, vs, rfl, SqT.rd h1, fun l H3 hl s3 fz => ?_⟩
    have sA := s1.trans R.hp s2
    exact k _ T2 H3 (R2.same s3) (sA.same s3) (.tup (R2.not_x hl) fz.rd (by rw [List.length_reverse]; exact h2) (h3.rev.go (Fit2.same s3)))
end Cs
set_option maxHeartbeats 4000000
/-! Texts of numbers, and what is told of them. -/
namespace Cs
open PySem L2 PyProof.Rows TL
/-- the text of a number -/
def it (i : Int) : Str := Str.ofString (toString i)
def sgnL (i : Int) : List Nat := if i < 0 then 45 :: numL (-i).toNat else numL i.toNat
theorem tl_it (i : Int) : tl (it i) = sgnL i := by
  unfold sgnL it
  by_cases h : i < 0
  · rw [if_pos h, toString_neg h]
    show (Str.ofString _).cps.toList = _
    rw [signs_ofString, String.toList_append, List.map_append]
    have e : (0 - i) = (((-i).toNat : Nat) : Int) := by omega
    rw [e]
    have := tl_num (-i).toNat
    rw [← this]
    show _ = 45 :: (Str.ofString _).cps.toList
    rw [signs_ofString]
    rfl
  · rw [if_neg h]
    have e : i = ((i.toNat : Nat) : Int) := by omega
    conv => lhs; rw [e]
    exact tl_num i.toNat
theorem it_int {i : Int} (h1 : -100000 < i) (h2 : i < 100000) : intText? (it i) = some i ∧ (it i).length ≤ 6 := by
  have hl : (it i).length ≤ 6 := by
    rw [len_tl, tl_it]
    unfold sgnL
    split
    · have := numL_len (n := (-i).toNat) (k := 5) (by decide) (by omega)
      rw [List.length_cons]
      omega
    · have := numL_len (n := i.toNat) (k := 5) (by decide) (by omega)
      omega
  refine ⟨?_, hl⟩
  have ht := tl_it i
  unfold sgnL at ht
  split at ht
  · rename_i h
    have e := PySem.intText_neg (x := it i) (cs := numL (-i).toNat) ht (numL_digits _) (numL_ne _) (by omega)
    rw [numL_val] at e
    rw [e]
    congr 1
    omega
  · rename_i h
    have e := PySem.intText_digits (x := it i) (by rw [show (it i).cps.toList = _ from ht]; exact numL_digits _) (by rw [show (it i).cps.toList = _ from ht]; exact numL_ne _) (by omega)
    rw [show (it i).cps.toList = _ from ht, numL_val] at e
    rw [e]
    congr 1
    omega
theorem rmp_hit {x : Str} {cs : List Nat} (h : tl x = 45 :: cs) : tl (Txt.removeprefix x "-") = cs := by
  have hl : x.length = cs.length + 1 := by rw [len_tl, h]; rfl
  have hs : Builtin.Str.subAt x "-" 0 = true := by
    rw [StrLaws.subAt_eq, show x.cps.toList = _ from h]
    rfl
  unfold Txt.removeprefix
  rw [if_pos hs]
  show tl (if x.length - 1 == x.length then x else _) = cs
  rw [if_neg (by rw [hl]; simp), ]
  show (Builtin.Str.strSub x _ x.length).cps.toList = cs
  rw [StrLaws.strSub_toList, show x.cps.toList = _ from h, hl]
  show List.take (cs.length + 1 - 1) cs = cs
  rw [List.take_of_length_le (by omega)]
theorem rmp_no {x : Str} {c : Nat} {cs : List Nat} (h : tl x = c :: cs) (n : c ≠ 45) : Txt.removeprefix x "-" = x := by
  have hs : Builtin.Str.subAt x "-" 0 = false := by
    rw [StrLaws.subAt_eq, show x.cps.toList = _ from h]
    show ((List.take 1 (c :: cs)) == [45]) = false
    rw [List.take_succ_cons, List.take_zero]
    simpa using n
  unfold Txt.removeprefix
  rw [if_neg (by rw [hs]; exact Bool.false_ne_true)]
  rfl
/-- the digits of a number's text -/
theorem it_digits {i : Int} (h1 : -100000 < i) (h2 : i < 100000) : 1 ≤ (Txt.removeprefix (it i) "-").length ∧ (Txt.removeprefix (it i) "-").length ≤ 5 ∧ ∀ c ∈ tl (Txt.removeprefix (it i) "-"), 48 ≤ c ∧ c ≤ 57 := by
  have ht := tl_it i
  unfold sgnL at ht
  have key : ∃ n : Nat, n < 100000 ∧ tl (Txt.removeprefix (it i) "-") = numL n := by
    split at ht
    · exact ⟨_, by omega, rmp_hit ht⟩
    · refine ⟨i.toNat, by omega, ?_⟩
      cases q : numL i.toNat with
      | nil => exact absurd q (numL_ne _)
      | cons c cs =>
        rw [rmp_no (ht.trans q) (fun z => numL_free (n := i.toNat) (s := 45) (.inl (by decide)) (by rw [q, ← z]; exact List.mem_cons_self)), ht, q]
  obtain ⟨n, hn, e⟩ := key
  rw [len_tl, e]
  have := numL_len (n := n) (k := 5) (by decide) (by omega)
  have ne := numL_ne n
  refine ⟨List.length_pos_iff.mpr ne, this, numL_digits n⟩
theorem sign_digit : ∀ c : Nat, 48 ≤ c → c ≤ 57 → decide (c ∈ tl ("0123456789" : Str)) = true := by
  intro c h1 h2
  have : ∀ k : Fin 58, 48 ≤ k.val → decide (k.val ∈ tl ("0123456789" : Str)) = true := by decide +kernel
  exact this ⟨c, by omega⟩ h1
end Cs
set_option maxHeartbeats 4000000
/-! Over data: slices of texts, zip of texts, a list grown by another, stars in displays, promises of kinds. -/
namespace Cs
open PySem PySem.Spec L2 L2H PyProof.Rows
/-! ### slices of texts -/
def xSlS (a : XE) (l h : XO) : XE := ⟨fun ε K => a.run ε fun r ε1 => l.run ε1 fun lo ε2 => h.run ε2 fun hi ε3 => ∃ x : Str, r.see = some (.str x) ∧ (cutS x lo hi).length ≤ 1000 ∧ K (.d (.str (cutS x lo hi))) ε3,
  fun w q => a.mono (fun _ _ q => l.mono (fun _ _ q => h.mono (fun _ _ ⟨d, a1, a2, k⟩ => ⟨d, a1, a2, w _ _ k⟩) q) q) q⟩
theorem xe_sliceS {X : Cx} {e : Expr} {lo hi : Option Expr} {p2 pos : Pos} {a : XE} {l h : XO} (he : PE X e (up a)) (hl : PO X lo (upO l)) (hu : PO X hi (upO h)) : PE X (.Subscript e (.Slice lo hi none p2) pos) (up (xSlS a l h)) :=
  pe_wk (pe_slice sl_str he hl hu) fun σ H Q ⟨Γ, ε, T, R, k⟩ => up1 R k fun r x ε1 T1 H1 g R1 s1 d1 => upO1 R1 g fun lo ε2 T2 H2 g R2 s2 => upO1 R2 g fun hi ε3 T3 H3 ⟨y, e1, e2, g⟩ R3 s3 => by
    have sA := (s1.trans R.hp s2).trans R.hp s3
    have sd := ((d1.step R1 s2).step R2 s3).see e1
    obtain ⟨e, hz⟩ := sd.str
    exact ⟨y, e, hz, g _ T3 H3 R3 sA (.str _ e2)⟩
/-! ### zip of two texts -/
def zsD (x y : Str) : List PyData := (x.cps.toList.zip y.cps.toList).map fun c => PyData.tuple [.str ⟨#[c.1]⟩, .str ⟨#[c.2]⟩]
theorem zsD_len {x y : Str} : (zsD x y).length = min x.length y.length := by
  unfold zsD
  rw [List.length_map, List.length_zip, Array.length_toList, Array.length_toList]
  rfl
theorem it_zs {p : Addr} {x y : Str} : ItOk p (ItzS x y) (fun _ _ => True) (zsD x y) true where
  st := fun _ _ _ _ _ _ _ => trivial
  stop := fun N H _ => by
    rw [zsD_len]
    show min x.length y.length ≤ x.length ∧ min x.length y.length ≤ y.length ∧ _
    omega
  go := fun N H i d na _ hd => by
    unfold zsD at hd
    obtain ⟨⟨c, e⟩, hc, rfl⟩ := mapget hd
    obtain ⟨h1, h2⟩ := List.getElem?_zip_eq_some.mp hc
    rw [Array.getElem?_toList] at h1 h2
    refine ⟨⟨(Array.getElem?_eq_some_iff.mp h1).1, (Array.getElem?_eq_some_iff.mp h2).1⟩, ?_⟩
    rintro v H' ⟨T, c', e', q1, q2, rfl, hT, rfl⟩
    rw [h1] at q1
    rw [h2] at q2
    cases q1
    cases q2
    refine ⟨same_new hT, .tup (fun z => ?_) (.inl upd_same) (by exact Nat.le_of_ble_eq_true rfl) (.cons (.str _ (show 1 ≤ 1000 by decide)) (.cons (.str _ (show 1 ≤ 1000 by decide)) .nil))⟩
    obtain ⟨o, ho⟩ := na T z
    rw [hT] at ho
    cases ho
def xiZs (a : XA) : XI := ⟨fun ε K => a.run ε fun rs ε1 => ∃ x y : Str, sees rs = some [.str x, .str y] ∧ K (zsD x y) true ε1, fun h q => a.mono (fun _ _ ⟨x, y, e, k⟩ => ⟨x, y, e, h _ _ _ k⟩) q⟩
theorem xi_zs {X : Cx} {e e2 : Expr} {a : XA} {p pos tpos : Pos} {elts : List Expr} {kk : Nat} (hg : Gl X "zip") (hm : X.mg "zip" = none) (h : PA X [e, e2] (upA a))
    (hs : starEach [e, e2] X.env = (false, eval e X.env) :: starEach [e2] X.env := by rfl) (hpl : (backTo pos (starEach [e2] X.env)).any (·.1) = false := by rfl) :
    PI X (.Tuple elts kk tpos) (.Call (.Name "zip" p) [e, e2] [] pos) (upI (xiZs a)) := pi_wk (pi_zipS hg hm h hs hpl) fun σ H R ⟨Γ, ε, T, R0, k⟩ =>
  upA1 R0 k fun rs vs ε1 T1 H1 ⟨x, y, e1, g⟩ R1 s1 d1 => by
    obtain ⟨v, w, rfl, h1, h2⟩ := see2 (d1.see e1)
    exact ⟨x, y, by rw [h1.str.1, h2.str.1], g _ (fun _ _ => True) T H1 (R1.less s1.t) s1.drop it_zs trivial⟩
/-! ### a list of one's own grown by another list -/
def xExt (i : Nat) (t : XE) : XS := ⟨fun D ε => (∃ xs, ε[i]? = some (.l xs)) ∧ t.run ε fun r ε1 => ∃ ys xs, r.see = some (.list ys) ∧ ε1[i]? = some (.l xs) ∧ xs.length + ys.length ≤ 1000 ∧ D.nx (ε1.set i (.l (xs ++ ys))),
  fun h _ _ _ q => ⟨q.1, t.mono (fun _ _ ⟨x, xs, a, b, c, w⟩ => ⟨x, xs, a, b, c, h _ w⟩) q.2⟩⟩
theorem xs_ext {X : Cx} {st : Stmt} {i : Nat} {t : XE} (h : PS X st (tAug i (up t) rExt2)) : PS X st (upS (xExt i t)) := ps_wk h fun D σ H ⟨Γ, ε, R, ⟨xs0, h0⟩, k⟩ => by
  obtain ⟨a, vs, e, h1, _, _⟩ := R.ownAt h0
  refine ⟨_, e, up1 R k fun r x ε1 T1 H1 ⟨ys, xs, ek, ex, hl, g⟩ R1 s1 d1 => ?_⟩
  obtain ⟨b, ws, rfl, b1, b2, b3⟩ := (d1.see ek).list
  obtain ⟨a', vs', e', h1', h2', h3'⟩ := R1.ownAt ex
  rw [e] at e'
  cases e'
  have ll := h3'.length
  have lb := b3.length
  obtain ⟨a3, e3, R3⟩ := R1.mutL ex (ws := vs' ++ ws) (by rw [List.length_append]; omega) (h3'.append b3)
  rw [e] at e3
  cases e3
  refine ⟨a, b, vs', ws, rfl, rfl, h1', b1, Nat.le_trans (by omega : vs'.length + ws.length ≤ 1000) (by decide), ?_⟩
  have es : σ.set i (some (.ref a)) = σ := by
    refine List.ext_getElem? fun j => ?_
    by_cases z : i = j
    · subst z
      rw [List.getElem?_set, if_pos rfl]
      split
      · exact e.symm
      · rename_i nl
        exact absurd (List.getElem?_eq_some_iff.mp e).1 nl
    · rw [List.getElem?_set_ne z]
  show D.nx (σ.set i (some (.ref a))) _
  rw [es]
  exact g _ _ R3.nil
/-! ### promises of kinds -/
/-- whether a thing is such -/
def RB (f : PyData → Bool) : DR := ⟨fun _ as K => ∃ d, as = [.d d] ∧ K (.d (.bool (f d))) 0, fun h ⟨d, e, k⟩ => ⟨d, e, h _ _ k⟩⟩
def RTN : DR := ⟨fun _ as K => ∃ (d : PyData) (n : Nat), as = [.d d, .d (.int (n : Nat))] ∧ K (.d (.bool (isTupN n d))) 0, fun h ⟨d, n, e, k⟩ => ⟨d, n, e, h _ _ k⟩⟩
def RSpan : DR := ⟨fun _ as K => ∃ (d : PyData) (lo hi : Int), as = [.d d, .d (.int lo), .d (.int hi)] ∧ K (.d (.bool (isSpan lo hi d))) 0, fun h ⟨d, lo, hi, e, k⟩ => ⟨d, lo, hi, e, h _ _ k⟩⟩
theorem argA1 {p : Addr} {M : Addr → Prop} {H : Hp} {r : RV} {vs : List V} (h : ArgA p M H [r] vs) : ∃ v, vs = [v] ∧ ArgR p M H r v := by
  cases h with
  | cons h t => cases t; exact ⟨_, rfl, h⟩
theorem argA2 {p : Addr} {M : Addr → Prop} {H : Hp} {r s : RV} {vs : List V} (h : ArgA p M H [r, s] vs) : ∃ v w, vs = [v, w] ∧ ArgR p M H r v ∧ ArgR p M H s w := by
  cases h with
  | cons h t =>
    obtain ⟨w, rfl, h2⟩ := argA1 t
    exact ⟨_, _, rfl, h, h2⟩
theorem argA3 {p : Addr} {M : Addr → Prop} {H : Hp} {r s q : RV} {vs : List V} (h : ArgA p M H [r, s, q] vs) : ∃ v w u, vs = [v, w, u] ∧ ArgR p M H r v ∧ ArgR p M H s w ∧ ArgR p M H q u := by
  cases h with
  | cons h t =>
    obtain ⟨v, w, rfl, h1, h2⟩ := argA2 t
    exact ⟨_, _, _, rfl, h, h1, h2⟩
theorem ad_b {f : PyData → Bool} {vs : List V} {H : Hp} {Q : VK} {E : XK} (h : SpD false (RB f) vs H Q E) : SpB f vs H Q E := by
  obtain ⟨p, M, n, as, pm, ph, ml, _, ag, d, rfl, k⟩ := h
  obtain ⟨v, rfl, h1⟩ := argA1 ag
  have h1 : Dn M H v d := h1
  exact ⟨p, v, d, rfl, h1.rp pm, fun H' s => k _ H' s (.bl _)⟩
theorem ad_tn {vs : List V} {H : Hp} {Q : VK} {E : XK} (h : SpD false RTN vs H Q E) : SpTN vs H Q E := by
  obtain ⟨p, M, n, as, pm, ph, ml, _, ag, d, m, rfl, k⟩ := h
  obtain ⟨v, w, rfl, h1, h2⟩ := argA2 ag
  have h1 : Dn M H v d := h1
  cases h2
  exact ⟨p, v, d, m, rfl, h1.rp pm, fun H' s => k _ H' s (.bl _)⟩
theorem ad_span {vs : List V} {H : Hp} {Q : VK} {E : XK} (h : SpD false RSpan vs H Q E) : SpSpan vs H Q E := by
  obtain ⟨p, M, n, as, pm, ph, ml, _, ag, d, lo, hi, rfl, k⟩ := h
  obtain ⟨v, w, u, rfl, h1, h2, h3⟩ := argA3 ag
  have h1 : Dn M H v d := h1
  cases h2
  cases h3
  exact ⟨p, v, d, lo, hi, rfl, h1.rp pm, fun H' s => k _ H' s (.bl _)⟩
/-! ### a def that is lent what it looks at, and hands back what is flat -/
def kasB : List RV → Option (List RV)
  | [] => some []
  | .d x :: rs => (kasB rs).map (RV.d x :: ·)
  | .f xs :: rs => (kasB rs).map (RV.d (.list xs) :: ·)
  | .b x :: rs => (kasB rs).map (RV.d x :: ·)
  | .o P :: rs => (kasB rs).map (RV.o P :: ·)
  | _ => none
def okB : RV → Bool
  | .b (.str _) => false
  | _ => true
theorem dn_fl {N N' : Addr → Prop} {H H' : Hp} {v : V} {d : PyData} (h : Dn N H v d) (f : flatD d = true) : Dn N' H' v d := by
  cases h with
  | non => exact .non
  | bl b => exact .bl b
  | int i => exact .int i
  | str x h => exact .str x h
  | lst _ _ _ _ => cases f
  | tup _ _ _ _ => cases f
  | dct _ _ => cases f
section
variable {Γ : Ga} {ε ε2 : List AV} {T T2 : Addr → Prop} {σ : L2.St} {H H2 : Hp}
theorem kasB_arg (R2 : Rep Γ ε2 T2 σ H2) : ∀ {rs rs' : List RV} {vs : List V}, rs.all okB = true → DenA Γ ε2 T2 σ H rs vs H2 → kasB rs = some rs' → ArgA Γ.p (fun a => a = Γ.p) H2 rs' vs := by
  have f : Fit2 (Mx Γ ε2 T2 σ) (fun a => a = Γ.p) H2 H2 := Fit2.less fun a z => z ▸ .inl R2.pm
  intro rs
  induction rs with
  | nil => intro rs' vs _ d e; cases d; cases e; exact .nil
  | cons r rs ih =>
    intro rs' vs ok d e
    rw [List.all_cons, Bool.and_eq_true] at ok
    cases d with
    | cons d t n =>
      cases r with
      | d x =>
        obtain ⟨q, e1, rfl⟩ := Option.map_eq_some_iff.mp e
        exact .cons (Dn.go f d) (ih ok.2 t e1)
      | f xs =>
        obtain ⟨q, e1, rfl⟩ := Option.map_eq_some_iff.mp e
        obtain ⟨a, vs, rfl, h0, h1, h2, h3, h4⟩ := d
        refine .cons (.lst (fun z => ?_) h2 h3 (h4.go f)) (ih ok.2 t e1)
        obtain ⟨o, ho⟩ := R2.hp0
        have t0 := (R2.tmp a h1).1
        rw [z, ho] at t0
        cases t0
      | b x =>
        obtain ⟨q, e1, rfl⟩ := Option.map_eq_some_iff.mp e
        rcases d with d | ⟨y, rfl, rfl, hl⟩ | ⟨a, vs, xs, rfl, rfl, h0, h2, h3, h4⟩
        · exact .cons (Dn.go f d) (ih ok.2 t e1)
        · cases ok.1
        · exact .cons (.lst h0 h2 h3 (h4.go f)) (ih ok.2 t e1)
      | p => cases e
      | o P =>
        obtain ⟨q, e1, rfl⟩ := Option.map_eq_some_iff.mp e
        exact .cons (Stb.go f d) (ih ok.2 t e1)
end
def xCallB (R : DR) (a : XA) : XE := ⟨fun ε K => a.run ε fun rs ε1 => ∃ rs', kasB rs = some rs' ∧ rs.all okB = true ∧ R.run 0 rs' fun r _ => ∃ x, r = .d x ∧ flatD x = true ∧ K (.d x) ε1,
  fun h q => a.mono (fun _ _ ⟨rs, e1, e2, w⟩ => ⟨rs, e1, e2, R.mono (fun _ _ ⟨x, a, b, k⟩ => ⟨x, a, b, h _ _ k⟩) w⟩) q⟩
theorem x_callB {X : Cx} {Ex : Expr} {R : DR} {a : XA} {E : XK} {sp : Sp} (h : PE X Ex (tCall sp [] E (upA a))) (ad : ∀ vs H Q, SpD false R vs H Q E → sp vs H Q E) : PE X Ex (up (xCallB R a)) :=
  pe_wk h fun σ H Q ⟨Γ, ε, T, R0, k⟩ => upA1 R0 k fun rs vs ε1 T1 H1 ⟨rs', e1, e2, w⟩ R1 s1 d1 => by
    rw [List.append_nil]
    refine ad vs H1 Q ⟨Γ.p, fun a => a = Γ.p, 0, rs', rfl, R1.hp, fun a z => .inl z, nofun, kasB_arg R1 e2 d1 e1, R.mono (fun r n' ⟨x, er, fx, g⟩ v H' af rr => ?_) w⟩
    subst er
    have af : Same H1 H' := af
    have rr : Dn _ H' v x := rr
    exact g v T1 H' (R1.same af) (s1.same af) (dn_fl rr fx)
end Cs
set_option maxHeartbeats 4000000
local macro_rules | `(tactic| walk_at "xg") => `(tactic| try dsimp only [Cs.xRet, Cs.xRetN, Cs.xOp, Cs.xUn, Cs.xV, Cs.xB, Cs.xC, Cs.xCall, Cs.xCons, Cs.xNil, Cs.xBi, Cs.xSeq, Cs.xSet, Cs.xSets, Cs.xIfS, Cs.xTest, Cs.xTup, Cs.xLst, Cs.xAndV, Cs.xOrV, Cs.xNotV, Cs.xNot, Cs.xAndT, Cs.xOrT, Cs.xIf, Cs.xSl, Cs.xNoPart, Cs.xPart, Cs.xiL, Cs.xiB, Cs.xiT, Cs.xiR1, Cs.xiR2, Cs.xiS, Cs.xiZ, Cs.xiE, Cs.xgN, Cs.xgT, Cs.xgNil, Cs.xgCons, Cs.xYes, Cs.xDrop, Cs.xApp, Cs.xPopS, Cs.xPopA, Cs.xAsg, Cs.xNext, Cs.xNev, Cs.xChain, Cs.xIsi, Cs.xRaw, Cs.okEnd, Cs.toAV, Cs.setP, Cs.aftP, Cs.xCallK, Cs.xMeth, Cs.xProp, Cs.xW, Cs.xM1, Cs.xRv, Cs.xiR3, Cs.xFl, Cs.xTz, Cs.xWhile, Cs.xgU, Cs.xSlS, Cs.xiZs, Cs.xExt, Cs.xCallB, List.map, List.replicate, List.length_cons, List.length_nil, List.cons_append, List.nil_append, List.set_cons_succ, List.set_cons_zero, Nat.add_sub_cancel, Nat.sub_self, Nat.reduceSub, Nat.reduceAdd, eq_self, ↓reduceIte])
local macro_rules | `(tactic| walk_at "xw") => `(tactic| try dsimp only [Cs.lcTurn, Cs.wipeA, List.set_cons_succ, List.set_cons_zero])
local macro_rules | `(tactic| walk_at "x") => `(tactic| first
  | (with_reducible refine Eq.mpr (if_pos ?_) ?_; exact rfl)
  | (with_reducible refine Eq.mpr (if_neg ?_) ?_; exact Bool.false_ne_true)
  | refine ⟨_, rfl, ?_⟩
  | refine ⟨rfl, ?_⟩
  | refine ⟨_, _, rfl, rfl, True.intro, ?_⟩
  | refine ⟨_, _, _, rfl, rfl, rfl, True.intro, ?_⟩
  | refine ⟨_, rfl, by exact Nat.le_of_ble_eq_true rfl, ?_⟩
  | refine ⟨by exact Nat.le_of_ble_eq_true rfl, ?_⟩
  | refine ⟨_, _, _, _, rfl, rfl, rfl, rfl, ?_⟩
  | refine ⟨_, _, rfl, ?_⟩
  | refine ⟨⟨_, rfl⟩, ?_⟩
  | refine ⟨_, _, rfl, fun _ => rfl, ?_⟩
  | refine ⟨_, 0, rfl, (fun z => (nomatch z)), ?_⟩
  | refine ⟨_, fun _ => rfl, ?_⟩
  | refine ⟨0, (fun z => (nomatch z)), ?_⟩
  | fail "x")
local macro_rules | `(tactic| walk_at "xs") => `(tactic| repeat' (walk_at "xg"; walk_at "x"))
local macro_rules | `(tactic| walk_at "sets") => `(tactic| (intro vs σ H Q hl hq; first
  | exact (match vs, hl, hq with | [_], _, q => ⟨_, _, rfl, rfl, q⟩)
  | exact (match vs, hl, hq with | [_, _], _, q => ⟨_, _, rfl, _, _, rfl, rfl, q⟩)
  | exact (match vs, hl, hq with | [_, _, _], _, q => ⟨_, _, rfl, _, _, rfl, _, _, rfl, rfl, q⟩)
  | fail "sets"))
/-! webs: letters, lengths -/
namespace Cs
open PySem PySem.Spec L2 L2H PyProof.Rows
structure TxtWeb (mg : Str → Option Value) : Prop where
  zip_ : mg "zip" = none
  any_ : mg "any" = none
  sorted_ : mg "sorted" = none
  c_MOST_PLACES : ∃ u, mg "MOST_PLACES" = some u ∧ RelV (.int 6) u
  c_MOST_TIES : ∃ u, mg "MOST_TIES" = some u ∧ RelV (.int 10) u
  c_MOST_LENGTH : ∃ u, mg "MOST_LENGTH" = some u ∧ RelV (.int 1000) u
  c__LEAST_PLACES : ∃ u, mg "_LEAST_PLACES" = some u ∧ RelV (.int 2) u
/-- ascending signs -/
def ascL (xs : List Nat) : Bool := (xs.zip (xs.drop 1)).all fun p => decide (p.1 < p.2)
def isLet (lo hi : Int) : PyData → Bool
  | .str x => (decide (lo ≤ (x.length : Nat)) && decide (((x.length : Nat) : Int) ≤ hi)) && (x.cps.toList.all letterC && ascL x.cps.toList)
  | _ => false
def isLen : PyData → Bool := isSpan 0 1000
theorem slice_tail {x : Str} (h : 1 ≤ x.length) : (cutS x (some 1) none).cps.toList = x.cps.toList.drop 1 := by
  have ll : x.cps.toList.length = x.length := Array.length_toList
  unfold cutS
  show ((x.cps.toList.drop _).take _) = _
  rw [HT.sIx_none, show (1 : Int) = ((1 : Nat) : Int) from rfl, HT.sIx_nat, Nat.min_eq_left h, List.take_of_length_le (by rw [List.length_drop, ll]; exact Nat.le_refl _)]
theorem slice_len {x : Str} {lo hi : Option Int} : (cutS x lo hi).length ≤ x.length := by
  have ll : x.cps.toList.length = x.length := Array.length_toList
  have e : (cutS x lo hi).length = ((x.cps.toList.drop (HT.sIx x.length 0 lo)).take (HT.sIx x.length x.length hi - HT.sIx x.length 0 lo)).length := by
    unfold cutS
    show (List.toArray _).size = _
    rw [List.size_toArray]
  rw [e, List.length_take, List.length_drop]
  omega
theorem lt_one {c d : Nat} : decide ((⟨#[c]⟩ : Str).cps.toList < (⟨#[d]⟩ : Str).cps.toList) = decide (c < d) := by
  refine decide_eq_decide.mpr ?_
  show [c] < [d] ↔ c < d
  rw [List.cons_lt_cons_iff]
  simp
def RLet : DR := ⟨fun _ as K => ∃ (d : PyData) (lo hi : Int), as = [.d d, .d (.int lo), .d (.int hi)] ∧ 1 ≤ lo ∧ hi ≤ 1000 ∧ K (.d (.bool (isLet lo hi d))) 0, fun h ⟨d, lo, hi, e, a, b, k⟩ => ⟨d, lo, hi, e, a, b, h _ _ k⟩⟩
def RAsc : DR := ⟨fun _ as K => ∃ x : Str, as = [.d (.str x)] ∧ 1 ≤ x.length ∧ x.length ≤ 1000 ∧ K (.d (.bool (ascL x.cps.toList))) 0, fun h ⟨x, e, a, b, k⟩ => ⟨x, e, a, b, h _ _ k⟩⟩
section
variable {P : Program} {w : World} {K : PySem.W.Frag} {mg : Str → Option Value} {base : Heap}
theorem DefAt.dl {x : Str} {st : Stmt} {N ps : List Str} {k : Nat} {B : Bool} {R : DR} (D : DefAt K mg x st ps) (S : FnScope N ps (defScope st)) (hN : ps.length ≤ N.length) (hR : ∀ n rs K, R.run n rs K → rs.length = ps.length ∧ (B || noP rs) = true)
    (hbody : ∀ (f : Addr) (cdv : Value) (A : Around) (outer : List Env) (s : Shared) (H : Hp) (E : XK), Room k (A.deeper (envOfC x (defScope st) s.heap.objs.size f cdv)) →
      ∃ t, PSs (cxOf CX0 P w K mg base N x (defScope st) f cdv A outer s H E).nox (defBody st) (upS t) ∧ ∀ n rs K, R.run n rs K → t.run (okEnd B K) (rs.map (toAV n) ++ List.replicate (N.length - rs.length) .u)) : C8.Cal P w K mg base (k + 1) x (SpD B R) [] := by
  refine D.cal S (fun vs H Q E h => ?_) fun f cdv A outer s H vs Q E hr h => ?_
  · obtain ⟨p, M, n, rs, _, _, _, _, ag, q⟩ := h
    rw [arg_len ag, (hR _ _ _ q).1]
  obtain ⟨t, h1, h2⟩ := hbody f cdv A outer s H E hr
  refine ⟨_, h1, enter h ?_ (fun n rs K q => (hR n rs K q).2) h2⟩
  obtain ⟨p, M, n, rs, _, _, _, _, ag, q⟩ := h
  rw [arg_len ag, (hR _ _ _ q).1]
  exact hN
theorem sc_ascends : FnScope ["values", "one", "other"] ["values"] (defScope (topS 15)) := ⟨rfl, rfl, rfl, by decide +kernel, rfl, by decide +kernel, by decide +kernel⟩
theorem ok_ascends (D : DefAt K mg "ascends" (topS 15) ["values"]) (T : Txt mg) (TW : TxtWeb mg) : C8.Cal P w K mg base 1 "ascends" (SpD false RAsc) [] := by
  have nd := sc_ascends.nd
  refine D.dl sc_ascends (by decide) (by rintro n rs K ⟨_, rfl, _⟩; exact ⟨rfl, rfl⟩) fun f cdv A outer s H E hr => ?_
  have hu64 := hr.units
  refine ⟨_, (xss_one (xs_ret (x_bi (pe_callB (cr_all rfl) (by rfl) T.all_ (by decide +kernel) (xa_cons (xe_lc (own := [("one", 1), ("other", 2)]) rfl nd (xi_zs rfl TW.zip_ (xa_cons (xe_v (pv 0)) (xa_cons (xe_sliceS (xe_v (pv 0)) (xo_some (xe_c pe_int (fun _ _ => .int _))) xo_none) xa_nil))) (blkOk_by (N := ["values", "one", "other"]) (sc := defScope (topS 15)) (by decide +kernel)) (fun _ _ _ _ _ => (xg_t (pg_tup (by rfl) (xgs_cons (xg_n (pg_name (i := 1) nd rfl (.inl rfl))) (xgs_cons (xg_n (pg_name (i := 2) nd rfl (.inl rfl))) xgs_nil))))) (fun _ _ _ _ _ => xts_nil) (fun _ _ _ _ _ => (x_op (pe_cmpR opLt (xe_v (pv 1)) (xe_v (pv 2)) (nomark _)) ol_lt)) (by decide)) xa_nil)) bl_all))), ?_⟩
  rintro n as K ⟨x, rfl, h1, h2, k⟩
  walk_at "xs"
  refine lc_es ((x.cps.toList.zip (x.cps.toList.drop 1)).map fun p => PyData.bool (decide (p.1 < p.2))) ?_
  walk_at "xs"
  refine ⟨Nat.le_trans slice_len h2, ?_⟩
  walk_at "xs"
  have lx : x.cps.toList.length = x.length := Array.length_toList
  have ez : zsD x (cutS x (some 1) none) = (x.cps.toList.zip (x.cps.toList.drop 1)).map fun c => PyData.tuple [.str ⟨#[c.1]⟩, .str ⟨#[c.2]⟩] := by
    unfold zsD
    rw [slice_tail h1]
  have lz : (x.cps.toList.zip (x.cps.toList.drop 1)).length ≤ 1000 := by
    rw [List.length_zip]
    omega
  rw [ez]
  refine ⟨by rw [List.length_map, List.length_map], by rw [List.length_map]; exact lz, fun j d y hd hy => ?_, ?_⟩
  · obtain ⟨c, hc, rfl⟩ := mapget hd
    obtain ⟨c', hc', rfl⟩ := mapget hy
    rw [hc] at hc'
    cases hc'
    walk_at "xw"
    walk_at "xs"
    rw [lt_one]
    exact ⟨rfl, rfl⟩
  walk_at "xw"
  walk_at "xs"
  have hA : fAll [.list ((x.cps.toList.zip (x.cps.toList.drop 1)).map fun p => PyData.bool (decide (p.1 < p.2)))] = some (True, .d (.bool (ascL x.cps.toList))) := by
    have e : ((x.cps.toList.zip (x.cps.toList.drop 1)).map fun p => PyData.bool (decide (p.1 < p.2))) = ((x.cps.toList.zip (x.cps.toList.drop 1)).map fun p => decide (p.1 < p.2)).map PyData.bool := by rw [List.map_map]; rfl
    show (boolsD _).map _ = _
    rw [e, boolsD_map]
    show some (True, RV.d (.bool (List.all _ id))) = _
    rw [List.all_map]
    rfl
  exact ⟨_, _, rfl, hA, True.intro, rfl, _, (fun z => nomatch z), k⟩
theorem sc_are_letters : FnScope ["value", "least", "most", "letter"] ["value", "least", "most"] (defScope (topS 14)) := ⟨rfl, rfl, rfl, by decide +kernel, rfl, by decide +kernel, by decide +kernel⟩
theorem ok_are_letters (D : DefAt K mg "are_letters" (topS 14) ["value", "least", "most"]) (T : Txt mg) (TW : TxtWeb mg) (cascends : C8.Cal P w K mg base 1 "ascends" (SpD false RAsc) []) : C8.Cal P w K mg base 2 "are_letters" (SpD false RLet) [] := by
  have nd := sc_are_letters.nd
  refine D.dl sc_are_letters (by decide) (by rintro n rs K ⟨_, _, _, rfl, _⟩; exact ⟨rfl, rfl⟩) fun f cdv A outer s H E hr => ?_
  have hu64 := hr.units
  refine ⟨_, (xss_cons (xs_if (PW.pt (xw_or (xt_not (xt_val (xe_isi (T := "str") (pe_callB call_isi (by rfl) T.isinstance_ (by decide +kernel) (pa_cons (xe_v (pv 0)) (pa_cons (pe_bltn (v := .ty "str") (u := .type "str") (by rfl) T.str_ (by decide +kernel) rfl) pa_nil)))))) (xw_or1 (xt_not (xt_chain (pt_chain opLe opLe (xe_v (pv 1)) (x_bi (pe_callB call_lenA (by rfl) T.len_ (by decide +kernel) (xa_cons (xe_v (pv 0)) xa_nil)) bl_len) (xe_v (pv 2))) ol_le ol_le))))) (xss_one (xs_ret (xe_c pe_bl (fun _ _ => .bl _)))) xss_nil)
      (xss_one (xs_ret (xe_and (x_bi (pe_callB (cr_all rfl) (by rfl) T.all_ (by decide +kernel) (xa_cons (xe_lc (own := [("letter", 3)]) rfl nd (xi_str (xe_v (pv 0))) (blkOk_by (N := ["value", "least", "most", "letter"]) (sc := defScope (topS 14)) (by decide +kernel)) (fun _ _ _ _ _ => (xg_n (pg_name (i := 3) nd rfl (.inl rfl)))) (fun _ _ _ _ _ => xts_nil) (fun _ _ _ _ _ => (x_chain (pe_chain opLe opLe (xe_c pe_str (fun _ _ => .str _ (by decide))) (xe_v (pv 3)) (xe_c pe_str (fun _ _ => .str _ (by decide)))) ol_le ol_le)) (by decide)) xa_nil)) bl_all) (xe_one (x_call (C8.pe_c cascends hr (by decide) rfl (xa_cons (xe_v (pv 0)) xa_nil)) (fun _ _ _ h => h))))))), ?_⟩
  rintro n as K ⟨d, lo, hi, rfl, b1, b2, k⟩
  have no : ∀ {b}, b = isLet lo hi d → K (.d (.bool b)) 0 := fun e => e ▸ k
  walk_at "xs"
  cases d with
  | str x =>
    refine ⟨_, _, rfl, rfl, _, rfl, L2.iteF ?_⟩
    walk_at "xs"
    have lx : x.cps.toList.length = x.length := Array.length_toList
    refine L2.ite2 (fun e1 => ?_) (fun e1 => ?_)
    · have e1 := of_decide_eq_true e1
      walk_at "xs"
      refine L2.ite2 (fun e2 => ?_) (fun e2 => ?_)
      · refine ⟨rfl, _, (fun z => nomatch z), no ?_⟩
        rw [Bool.not_eq_true'] at e2
        show _ = ((_ && decide (((x.length : Nat) : Int) ≤ hi)) && _)
        rw [e2, Bool.and_false, Bool.false_and]
      rw [Bool.not_eq_true', Bool.not_eq_false] at e2
      have e3 := of_decide_eq_true e2
      walk_at "xs"
      refine lc_es (x.cps.toList.map fun c => PyData.bool (letterC c)) ?_
      walk_at "xs"
      refine ⟨by unfold chD; rw [List.length_map, List.length_map], by unfold chD; rw [List.length_map, lx]; omega, fun j d y hd hy => ?_, ?_⟩
      · unfold chD at hd
        obtain ⟨c, hc, rfl⟩ := mapget hd
        obtain ⟨c', hc', rfl⟩ := mapget hy
        rw [hc] at hc'
        cases hc'
        walk_at "xw"
        walk_at "xs"
        have hz : fLe (.str ⟨#[c]⟩) (.str (Str.ofString "z")) = some (True, .d (.bool (decide (c ≤ 122)))) := by
          show some (True, RV.d (.bool (!decide ([122] < [c])))) = _
          rw [letter_hi]
        have ha : (!decide ([c] < (Str.ofString "a").cps.toList)) = decide (97 ≤ c) := letter_lo c
        rw [ha]
        refine L2.ite2 (fun e4 => ?_) (fun e4 => ?_)
        · refine ⟨_, _, rfl, hz, True.intro, _, rfl, ?_, rfl⟩
          show _ = PyData.bool (decide (97 ≤ c) && decide (c ≤ 122))
          rw [e4, Bool.true_and]
        · refine ⟨_, rfl, ?_, rfl⟩
          show _ = PyData.bool (decide (97 ≤ c) && decide (c ≤ 122))
          rw [eq_false_of_ne_true e4, Bool.false_and]
      walk_at "xw"
      walk_at "xs"
      have hA : fAll [.list (x.cps.toList.map fun c => PyData.bool (letterC c))] = some (True, .d (.bool (x.cps.toList.all letterC))) := by
        have e : (x.cps.toList.map fun c => PyData.bool (letterC c)) = (x.cps.toList.map letterC).map PyData.bool := by rw [List.map_map]; rfl
        show (boolsD _).map _ = _
        rw [e, boolsD_map]
        show some (True, RV.d (.bool (List.all _ id))) = _
        rw [List.all_map]
        rfl
      have e12 : (decide (lo ≤ ((x.length : Nat) : Int)) && decide (((x.length : Nat) : Int) ≤ hi)) = true := by rw [decide_eq_true e1, decide_eq_true e3]; rfl
      refine ⟨_, _, rfl, hA, True.intro, _, rfl, L2.ite2 (fun e5 => ?_) (fun e5 => ?_)⟩
      · refine ⟨_, rfl, _, 0, rfl, (fun z => nomatch z), x, rfl, by omega, by omega, rfl, rfl, _, (fun z => nomatch z), no ?_⟩
        show _ = (_ && (_ && _))
        rw [e12, e5, Bool.true_and, Bool.true_and]
      · refine ⟨rfl, _, (fun z => nomatch z), no ?_⟩
        show _ = (_ && (_ && _))
        rw [eq_false_of_ne_true e5, Bool.false_and, Bool.and_false]
    · refine ⟨_, rfl, L2.iteT ⟨rfl, _, (fun z => nomatch z), no ?_⟩⟩
      show _ = ((_ && _) && _)
      rw [eq_false_of_ne_true e1, Bool.false_and, Bool.false_and]
  | _ => exact ⟨_, _, rfl, rfl, _, rfl, L2.iteT (L2.iteT ⟨rfl, _, (fun z => nomatch z), no rfl⟩)⟩
end
end Cs
set_option maxHeartbeats 4000000
local macro_rules | `(tactic| walk_at "xg") => `(tactic| try dsimp only [Cs.xRet, Cs.xRetN, Cs.xOp, Cs.xUn, Cs.xV, Cs.xB, Cs.xC, Cs.xCall, Cs.xCons, Cs.xNil, Cs.xBi, Cs.xSeq, Cs.xSet, Cs.xSets, Cs.xIfS, Cs.xTest, Cs.xTup, Cs.xLst, Cs.xAndV, Cs.xOrV, Cs.xNotV, Cs.xNot, Cs.xAndT, Cs.xOrT, Cs.xIf, Cs.xSl, Cs.xNoPart, Cs.xPart, Cs.xiL, Cs.xiB, Cs.xiT, Cs.xiR1, Cs.xiR2, Cs.xiS, Cs.xiZ, Cs.xiE, Cs.xgN, Cs.xgT, Cs.xgNil, Cs.xgCons, Cs.xYes, Cs.xDrop, Cs.xApp, Cs.xPopS, Cs.xPopA, Cs.xAsg, Cs.xNext, Cs.xNev, Cs.xChain, Cs.xIsi, Cs.xRaw, Cs.okEnd, Cs.toAV, Cs.setP, Cs.aftP, Cs.xCallK, Cs.xMeth, Cs.xProp, Cs.xW, Cs.xM1, Cs.xRv, Cs.xiR3, Cs.xFl, Cs.xTz, Cs.xWhile, Cs.xgU, Cs.xSlS, Cs.xiZs, Cs.xExt, Cs.xCallB, List.map, List.replicate, List.length_cons, List.length_nil, List.cons_append, List.nil_append, List.set_cons_succ, List.set_cons_zero, Nat.add_sub_cancel, Nat.sub_self, Nat.reduceSub, Nat.reduceAdd, eq_self, ↓reduceIte])
local macro_rules | `(tactic| walk_at "xw") => `(tactic| try dsimp only [Cs.lcTurn, Cs.wipeA, List.set_cons_succ, List.set_cons_zero])
local macro_rules | `(tactic| walk_at "x") => `(tactic| first
  | (with_reducible refine Eq.mpr (if_pos ?_) ?_; exact rfl)
  | (with_reducible refine Eq.mpr (if_neg ?_) ?_; exact Bool.false_ne_true)
  | refine ⟨_, rfl, ?_⟩
  | refine ⟨rfl, ?_⟩
  | refine ⟨_, _, rfl, rfl, True.intro, ?_⟩
  | refine ⟨_, _, _, rfl, rfl, rfl, True.intro, ?_⟩
  | refine ⟨_, rfl, by exact Nat.le_of_ble_eq_true rfl, ?_⟩
  | refine ⟨by exact Nat.le_of_ble_eq_true rfl, ?_⟩
  | refine ⟨_, _, _, _, rfl, rfl, rfl, rfl, ?_⟩
  | refine ⟨_, _, rfl, ?_⟩
  | refine ⟨⟨_, rfl⟩, ?_⟩
  | refine ⟨_, _, rfl, fun _ => rfl, ?_⟩
  | refine ⟨_, 0, rfl, (fun z => (nomatch z)), ?_⟩
  | refine ⟨_, fun _ => rfl, ?_⟩
  | refine ⟨0, (fun z => (nomatch z)), ?_⟩
  | fail "x")
local macro_rules | `(tactic| walk_at "xs") => `(tactic| repeat' (walk_at "xg"; walk_at "x"))
local macro_rules | `(tactic| walk_at "sets") => `(tactic| (intro vs σ H Q hl hq; first
  | exact (match vs, hl, hq with | [_], _, q => ⟨_, _, rfl, rfl, q⟩)
  | exact (match vs, hl, hq with | [_, _], _, q => ⟨_, _, rfl, _, _, rfl, rfl, q⟩)
  | exact (match vs, hl, hq with | [_, _, _], _, q => ⟨_, _, rfl, _, _, rfl, _, _, rfl, rfl, q⟩)
  | fail "sets"))
/-! webs: ties, what is reached (TxtWeb) -/
namespace Cs
open PySem PySem.Spec L2 L2H PyProof.Rows
/-- a sign as a text -/
def chS (c : Nat) : Str := ⟨#[c]⟩
def prC (c o : Nat) : Str := if c < o then ⟨#[c, o]⟩ else ⟨#[o, c]⟩
def chL (r : List Nat) : List PyData := r.map fun c => PyData.str (chS c)
def besC (ps : List Str) (r : List Nat) (c : Nat) : Bool := r.any fun o => ps.contains (prC c o)
def stpR (xs : List Nat) (ps : List Str) (r : List Nat) : List Nat := r ++ xs.filter fun c => !r.contains c && besC ps r c
def rchN (xs : List Nat) (ps : List Str) : Nat → List Nat → List Nat
  | 0, r => r
  | n + 1, r => rchN xs ps n (stpR xs ps r)
theorem rchN_succ {xs : List Nat} {ps : List Str} : ∀ {n : Nat} {r : List Nat}, rchN xs ps (n + 1) r = stpR xs ps (rchN xs ps n r)
  | 0, _ => rfl
  | n + 1, r => by
    show rchN xs ps (n + 1) (stpR xs ps r) = _
    rw [rchN_succ]
    rfl
theorem stp_nd {xs : List Nat} {ps : List Str} {r : List Nat} (hx : xs.Nodup) (hr : r.Nodup) : (stpR xs ps r).Nodup := by
  unfold stpR
  refine List.nodup_append.mpr ⟨hr, hx.filter _, fun a ha b hb e => ?_⟩
  subst e
  have := (List.mem_filter.mp hb).2
  rw [Bool.and_eq_true, Bool.not_eq_true', List.contains_eq_mem, decide_eq_false_iff_not] at this
  exact this.1 ha
theorem stp_sub {xs : List Nat} {ps : List Str} {r : List Nat} (h : ∀ c ∈ r, c ∈ xs) : ∀ c ∈ stpR xs ps r, c ∈ xs := fun c hc => by
  rcases List.mem_append.mp hc with hc | hc
  · exact h c hc
  · exact (List.mem_filter.mp hc).1
theorem nd_le : ∀ {r xs : List Nat}, r.Nodup → (∀ c ∈ r, c ∈ xs) → r.length ≤ xs.length
  | [], _, _, _ => Nat.zero_le _
  | c :: r, xs, hr, h => by
    rw [List.nodup_cons] at hr
    have hc := h c List.mem_cons_self
    have e := List.length_erase_of_mem hc
    have l := List.length_pos_of_mem hc
    have ih := nd_le (r := r) (xs := xs.erase c) hr.2 fun a ha => (List.mem_erase_of_ne (fun z => hr.1 (by rw [← z]; exact ha))).mpr (h a (List.mem_cons_of_mem _ ha))
    rw [List.length_cons]
    omega
theorem rch_ok {xs : List Nat} {ps : List Str} (hx : xs.Nodup) : ∀ (n : Nat) (r : List Nat), r.Nodup → (∀ c ∈ r, c ∈ xs) → (rchN xs ps n r).Nodup ∧ ∀ c ∈ rchN xs ps n r, c ∈ xs
  | 0, r, hr, h => ⟨hr, h⟩
  | n + 1, r, hr, h => rch_ok hx n _ (stp_nd hx hr) (stp_sub h)
/-- a tie as it should be -/
def isTie (x : Str) : PyData → Bool
  | .tuple [.str y, s] => isLet 2 2 (.str y) && (y.cps.toList.all fun c => x.cps.toList.contains c) && isLen s
  | _ => false
theorem finl_y {xs : List Str} {x : Str} (hx : x.length ≤ 1000) : ∃ P : Prop, fIn false (.str x) (.list (strD xs)) = some (P, .d (.bool (xs.contains x))) ∧ P := by
  rw [← strD_any]
  exact ⟨_, rfl, rfl, (fun y e => by cases e; exact hx), strD_flat⟩
theorem finl_n {xs : List Str} {x : Str} (hx : x.length ≤ 1000) : ∃ P : Prop, fIn true (.str x) (.list (strD xs)) = some (P, .d (.bool (!xs.contains x))) ∧ P := by
  rw [← strD_any]
  exact ⟨_, rfl, rfl, (fun y e => by cases e; exact hx), strD_flat⟩
theorem chS_inj {c d : Nat} (h : chS c = chS d) : c = d := by
  have h : (⟨#[c]⟩ : Str) = ⟨#[d]⟩ := h
  injection h with h
  have := congrArg Array.toList h
  simpa using this
theorem chs_inj : ∀ c d : Nat, PyData.str (chS c) = PyData.str (chS d) → c = d := fun c d h => chS_inj (by injection h)
theorem con_chs {r : List Nat} {c : Nat} : (r.map chS).contains (chS c) = r.contains c := by
  rw [List.contains_eq_mem, List.contains_eq_mem]
  refine decide_eq_decide.mpr ⟨fun h => ?_, fun h => List.mem_map_of_mem h⟩
  obtain ⟨d, hd, e⟩ := List.mem_map.mp h
  rw [← chS_inj e]
  exact hd
theorem tup2_of {d : PyData} (h : isTupN 2 d = true) : ∃ a b, d = .tuple [a, b] := by
  cases d with
  | tuple ds =>
    have h : decide (ds.length = 2) = true := h
    have h := of_decide_eq_true h
    match ds, h with
    | [a, b], _ => exact ⟨a, b, rfl⟩
  | _ => cases h
theorem tie_no2 {x : Str} {d : PyData} (h : isTupN 2 d = false) : isTie x d = false := by
  unfold isTie
  split
  · cases h
  · rfl
theorem tie_noL {x : Str} {a b : PyData} (h : isLet 2 2 a = false) : isTie x (.tuple [a, b]) = false := by
  cases a <;> first | rfl | (show ((isLet 2 2 (.str _) && _) && _) = false; rw [h, Bool.false_and, Bool.false_and])
theorem let2_of {a : PyData} (h : isLet 2 2 a = true) : ∃ (y : Str) (c0 c1 : Nat), a = .str y ∧ y.cps.toList = [c0, c1] := by
  cases a with
  | str y =>
    have h : ((decide ((2 : Int) ≤ ((y.length : Nat) : Int)) && decide (((y.length : Nat) : Int) ≤ 2)) && (y.cps.toList.all letterC && ascL y.cps.toList)) = true := h
    have h := (Bool.and_eq_true_iff.mp h).1
    obtain ⟨h1, h2⟩ := Bool.and_eq_true_iff.mp h
    have h1 := of_decide_eq_true h1
    have h2 := of_decide_eq_true h2
    have ll : y.cps.toList.length = y.length := Array.length_toList
    have l2 : y.cps.toList.length = 2 := by omega
    generalize hy : y.cps.toList = zs at l2
    match zs, l2 with
    | [c0, c1], _ => exact ⟨y, c0, c1, rfl, hy⟩
  | _ => cases h
def RPair : DR := ⟨fun _ as K => ∃ c o : Nat, as = [.d (.str (chS c)), .d (.str (chS o))] ∧ K (.d (.str (prC c o))) 0, fun h ⟨c, o, e, k⟩ => ⟨c, o, e, h _ _ k⟩⟩
def RBes : DR := ⟨fun _ as K => ∃ (c : Nat) (r : List Nat) (ps : List Str), as = [.d (.str (chS c)), .d (.list (chL r)), .d (.list (strD ps))] ∧ r.length ≤ 100 ∧ K (.d (.bool (besC ps r c))) 0, fun h ⟨c, r, ps, e, a, k⟩ => ⟨c, r, ps, e, a, h _ _ k⟩⟩
def RTie : DR := ⟨fun _ as K => ∃ (x : Str) (d : PyData), as = [.d (.str x), .d d] ∧ K (.d (.bool (isTie x d))) 0, fun h ⟨x, d, e, k⟩ => ⟨x, d, e, h _ _ k⟩⟩
def RRch : DR := ⟨fun _ as K => ∃ (x : Str) (ps : List Str), as = [.d (.str x), .d (.list (strD ps))] ∧ 1 ≤ x.length ∧ x.length ≤ 6 ∧ x.cps.toList.Nodup ∧ K (.d (.list (chL (rchN x.cps.toList ps x.length (x.cps.toList.take 1))))) 0, fun h ⟨x, ps, e, a, b, c, k⟩ => ⟨x, ps, e, a, b, c, h _ _ k⟩⟩
section
variable {P : Program} {w : World} {K : PySem.W.Frag} {mg : Str → Option Value} {base : Heap}
theorem sc_is_length : FnScope ["value"] ["value"] (defScope (topS 34)) := ⟨rfl, rfl, rfl, by decide +kernel, rfl, by decide +kernel, by decide +kernel⟩
theorem ok_is_length (D : DefAt K mg "is_length" (topS 34) ["value"]) (T : Txt mg) (TW : TxtWeb mg) (cis_stretch : C8.Cal P w K mg base 3 "is_stretch" SpSpan []) : C8.Cal P w K mg base 4 "is_length" (SpD false (RB isLen)) [] := by
  have nd := sc_is_length.nd
  refine D.dl sc_is_length (by decide) (by rintro n rs K ⟨_, rfl, _⟩; exact ⟨rfl, rfl⟩) fun f cdv A outer s H E hr => ⟨_, (xss_one (xs_ret (x_call (C8.pe_c cis_stretch hr (by decide) rfl (xa_cons (xe_v (pv 0)) (xa_cons (xe_c pe_int (fun _ _ => .int _)) (xa_cons (xe_c (C8.pe_gc rfl TW.c_MOST_LENGTH) (fun _ _ => .int _)) xa_nil)))) (fun _ _ _ => ad_span)))), ?_⟩
  rintro n as K ⟨d, rfl, k⟩
  walk_at "xs"
  exact ⟨d, 0, 1000, rfl, rfl, rfl, _, (fun z => nomatch z), k⟩
theorem sc_pair_of : FnScope ["place", "other"] ["place", "other"] (defScope (topS 35)) := ⟨rfl, rfl, rfl, by decide +kernel, rfl, by decide +kernel, by decide +kernel⟩
theorem ok_pair_of (D : DefAt K mg "pair_of" (topS 35) ["place", "other"]) : C8.Cal P w K mg base 1 "pair_of" (SpD false RPair) [] := by
  have nd := sc_pair_of.nd
  refine D.dl sc_pair_of (by decide) (by rintro n rs K ⟨_, _, rfl, _⟩; exact ⟨rfl, rfl⟩) fun f cdv A outer s H E hr => ⟨_, (xss_one (xs_ret (xe_ifExp (xt_op (pt_cmpR opLt (xe_v (pv 0)) (xe_v (pv 1)) (nomark _)) ol_lt) (x_op (pe_op opAddD (xe_v (pv 0)) (xe_v (pv 1))) ol_add) (x_op (pe_op opAddD (xe_v (pv 1)) (xe_v (pv 0))) ol_add)))), ?_⟩
  rintro n as K ⟨c, o, rfl, k⟩
  have hl : (chS c).cps.toList = [c] := rfl
  have ho : (chS o).cps.toList = [o] := rfl
  have e : decide ((chS c).cps.toList < (chS o).cps.toList) = decide (c < o) := lt_one
  have hA : ∀ a b : Str, fAdd (.str a) (.str b) = some (a.length + b.length ≤ 1000, .d (.str (a ++ b))) := fun _ _ => rfl
  walk_at "xs"
  rw [e]
  refine L2.ite2 (fun h => ?_) (fun h => ?_)
  · refine ⟨_, rfl, _, rfl, _, _, _, rfl, rfl, hA _ _, by exact Nat.le_of_ble_eq_true rfl, rfl, 0, (fun z => nomatch z), ?_⟩
    unfold prC at k
    rw [if_pos (of_decide_eq_true h)] at k
    exact k
  · refine ⟨_, rfl, _, rfl, _, _, _, rfl, rfl, hA _ _, by exact Nat.le_of_ble_eq_true rfl, rfl, 0, (fun z => nomatch z), ?_⟩
    unfold prC at k
    rw [if_neg (fun z => h (decide_eq_true z))] at k
    exact k
theorem sc__is_beside : FnScope ["place", "reached", "pairs", "other"] ["place", "reached", "pairs"] (defScope (topS 37)) := ⟨rfl, rfl, rfl, by decide +kernel, rfl, by decide +kernel, by decide +kernel⟩
theorem ok__is_beside (D : DefAt K mg "_is_beside" (topS 37) ["place", "reached", "pairs"]) (T : Txt mg) (TW : TxtWeb mg) (cpair_of : C8.Cal P w K mg base 1 "pair_of" (SpD false RPair) []) : C8.Cal P w K mg base 2 "_is_beside" (SpD false RBes) [] := by
  have nd := sc__is_beside.nd
  refine D.dl sc__is_beside (by decide) (by rintro n rs K ⟨_, _, _, rfl, _⟩; exact ⟨rfl, rfl⟩) fun f cdv A outer s H E hr => ⟨_, (xss_one (xs_ret (x_bi (pe_callB (cr_any rfl) (by rfl) TW.any_ (by decide +kernel) (xa_cons (xe_lc (own := [("other", 3)]) rfl nd (xi_look (xe_v (pv 1))) (blkOk_by (N := ["place", "reached", "pairs", "other"]) (sc := defScope (topS 37)) (by decide +kernel)) (fun _ _ _ _ _ => (xg_n (pg_name (i := 3) nd rfl (.inl rfl)))) (fun _ _ _ _ _ => xts_nil) (fun _ _ _ _ _ => (x_op (pe_cmpR op_in_seq (x_call (C8.pe_c cpair_of hr (by decide) rfl (xa_cons (xe_v (pv 0)) (xa_cons (xe_v (pv 3)) xa_nil))) (fun _ _ _ h => h)) (xe_v (pv 2)) (by rfl)) (ol_in (neg := false)))) (by decide)) xa_nil)) bl_any))), ?_⟩
  rintro n as K ⟨c, r, ps, rfl, hr1, k⟩
  walk_at "xs"
  refine lc_es (r.map fun o => PyData.bool (ps.contains (prC c o))) ?_
  walk_at "xs"
  have lr : (chL r).length = r.length := List.length_map _
  refine ⟨by rw [lr, List.length_map], by omega, fun j d y hd hy => ?_, ?_⟩
  · obtain ⟨o, ho, rfl⟩ := mapget hd
    obtain ⟨o', ho', rfl⟩ := mapget hy
    rw [ho] at ho'
    cases ho'
    have pl : (prC c o).length ≤ 1000 := by unfold prC; split <;> exact Nat.le_of_ble_eq_true rfl
    obtain ⟨PI, hI, pI⟩ := finl_y (xs := ps) pl
    walk_at "xw"
    walk_at "xs"
    exact ⟨_, _, _, rfl, rfl, hI, pI, _, rfl, rfl, rfl⟩
  walk_at "xw"
  walk_at "xs"
  have hA : fAny [.list (r.map fun o => PyData.bool (ps.contains (prC c o)))] = some (True, .d (.bool (besC ps r c))) := by
    have e : (r.map fun o => PyData.bool (ps.contains (prC c o))) = (r.map fun o => ps.contains (prC c o)).map PyData.bool := by rw [List.map_map]; rfl
    show (boolsD _).map _ = _
    rw [e, boolsD_map]
    show some (True, RV.d (.bool (List.any _ id))) = _
    rw [List.any_map]
    rfl
  exact ⟨_, _, rfl, hA, True.intro, rfl, _, (fun z => nomatch z), k⟩
theorem sc_places_reached : FnScope ["places", "pairs", "reached", "_", "place"] ["places", "pairs"] (defScope (topS 31)) := ⟨rfl, rfl, rfl, by decide +kernel, rfl, by decide +kernel, by decide +kernel⟩
theorem ok_places_reached (D : DefAt K mg "places_reached" (topS 31) ["places", "pairs"]) (T : Txt mg) (TW : TxtWeb mg) (c_is_beside : C8.Cal P w K mg base 2 "_is_beside" (SpD false RBes) []) : C8.Cal P w K mg base 3 "places_reached" (SpD false RRch) [] := by
  have nd := sc_places_reached.nd
  refine D.dl sc_places_reached (by decide) (by rintro n rs K ⟨_, _, rfl, _⟩; exact ⟨rfl, rfl⟩) fun f cdv A outer s H E hr => ?_
  have hu64 := hr.units
  refine ⟨_, (xss_cons (xs_asg (w := true) (ps_set (i := 2) nd rfl (.inr rfl) (xe_lst (xa_cons (x_op (pe_ix ix_seq (xe_v (pv 0)) (xe_c pe_int (fun _ _ => .int _)) (fun _ _ => rfl)) ol_ix) xa_nil))))
      (xss_cons (xs_for PassesOwn.never rfl (xi_str (xe_v (pv 0))) (xg_n (pg_name (i := 3) nd rfl (.inl rfl))) (xss_one (xs_ext (ps_aug (i := 2) nd rfl (.inr rfl) (xe_lc (own := [("place", 4)]) rfl nd (xi_str (xe_v (pv 0))) (blkOk_by (N := ["places", "pairs", "reached", "_", "place"]) (sc := defScope (topS 31)) (by decide +kernel)) (fun _ _ _ _ _ => (xg_n (pg_name (i := 4) nd rfl (.inl rfl)))) (fun _ _ _ _ _ => (xts_one (PW.pt (xw_and (xt_op (pt_cmpR op_notIn_seq (xe_v (pv 4)) (xe_b (pv 2)) (by rfl)) (ol_in (neg := true))) (xw_and1 (xt_val (x_callB (C8.pe_c c_is_beside hr (by decide) rfl (xa_cons (xe_v (pv 4)) (xa_cons (xe_b (pv 2)) (xa_cons (xe_v (pv 1)) xa_nil)))) (fun _ _ _ h => h)))))))) (fun _ _ _ _ _ => (xe_v (pv 4))) (by decide)) iop_ext))))
      (xss_one (xs_ret (xe_v (pv 2)))))), ?_⟩
  rintro n as K ⟨x, ps, rfl, h1, h6, nd6, k⟩
  have lx : x.cps.toList.length = x.length := Array.length_toList
  obtain ⟨c0, h0⟩ : ∃ c0, x.cps.toList[0]? = some c0 := ⟨_, List.getElem?_eq_getElem (by omega)⟩
  have ht : x.cps.toList.take 1 = [c0] := by
    cases hx : x.cps.toList with
    | nil => rw [hx] at h0; cases h0
    | cons a r =>
      rw [hx] at h0
      cases h0
      rfl
  rw [ht] at k
  have hm0 := List.mem_of_getElem? h0
  have hI : fIx (.str x) (.int 0) = some (True, .d (.str (chS c0))) := by
    show (L2.atI x.cps.toList 0).map _ = _
    rw [show (0 : Int) = ((0 : Nat) : Int) from rfl, atI_nat (j := 0) h0]
    rfl
  have rok := fun i => rch_ok (ps := ps) nd6 i [c0] (by simp) (by simpa using hm0)
  have rl : ∀ i, (rchN x.cps.toList ps i [c0]).length ≤ 6 := fun i => by
    have := nd_le (rok i).1 (rok i).2
    omega
  walk_at "xs"
  refine ⟨_, _, _, rfl, rfl, hI, True.intro, ?_⟩
  walk_at "xs"
  refine ⟨fun i e => ∃ a3, e = [.d (.str x), .d (.list (strD ps)), .l (chL (rchN x.cps.toList ps i [c0])), a3, .u], ⟨_, rfl⟩, ?_, ?_⟩
  · rintro e ⟨a3, rfl⟩
    walk_at "xs"
    have lc : (chD x).length = x.length := by unfold chD; rw [List.length_map, lx]
    rw [lc]
    exact k
  · rintro i d e hd ⟨a3, rfl⟩
    have lr := rl i
    have rk := rok i
    have e1 : rchN x.cps.toList ps (i + 1) [c0] = stpR x.cps.toList ps (rchN x.cps.toList ps i [c0]) := rchN_succ
    walk_at "xs"
    rw [e1]
    generalize rchN x.cps.toList ps i [c0] = r at lr rk ⊢
    refine lc_fil (pkF (fun c => PyData.str (chS c)) fun c => !r.contains c && besC ps r c) ?_
    walk_at "xs"
    have lD : (chD x).length ≤ 1000 := by unfold chD; rw [List.length_map]; omega
    have lC : (chL r).length = r.length := List.length_map _
    refine ⟨lD, fun d hd => ?_, ?_⟩
    · unfold chD at hd
      obtain ⟨c, hc, rfl⟩ := List.mem_map.mp hd
      rw [show PyData.str ⟨#[c]⟩ = (fun c => PyData.str (chS c)) c from rfl, pkF_at chs_inj]
      obtain ⟨PI, hI, pI⟩ := finl_n (xs := r.map chS) (x := chS c) (by exact Nat.le_of_ble_eq_true rfl)
      have eC : chL r = strD (r.map chS) := by unfold chL strD; rw [List.map_map]; rfl
      have eN : (r.map chS).contains (chS c) = r.contains c := con_chs
      rw [eN, ← eC] at hI
      walk_at "xw"
      walk_at "xs"
      refine ⟨_, _, _, rfl, rfl, hI, pI, _, rfl, L2.ite2 (fun h => ?_) (fun h => ?_)⟩
      · walk_at "xs"
        refine ⟨c, r, ps, rfl, by omega, ?_⟩
        walk_at "xs"
        rw [h, Bool.true_and]
        refine L2.ite2 (fun h2 => ⟨_, rfl, _, rfl, if_pos h2, rfl⟩) (fun h2 => ⟨if_neg h2, rfl⟩)
      · rw [eq_false_of_ne_true h, Bool.false_and]
        exact L2.iteF ⟨rfl, rfl⟩
    · walk_at "xw"
      walk_at "xs"
      have eM : (chD x).filterMap (pkF (fun c => PyData.str (chS c)) fun c => !r.contains c && besC ps r c) = chL (x.cps.toList.filter fun c => !r.contains c && besC ps r c) := by
        show (x.cps.toList.map fun c => PyData.str (chS c)).filterMap _ = _
        rw [pkF_map chs_inj]
        rfl
      rw [eM]
      refine ⟨_, _, rfl, rfl, ?_, .d d, ?_⟩
      · have := List.length_filter_le (fun c => !r.contains c && besC ps r c) x.cps.toList
        unfold chL
        rw [List.length_map, List.length_map]
        omega
      · show [_, _, AV.l (chL r ++ chL _), _, _] = [_, _, AV.l (chL (r ++ _)), _, _]
        unfold chL
        rw [List.map_append]
theorem sc__is_tie : FnScope ["places", "value", "pair", "stretch"] ["places", "value"] (defScope (topS 36)) := ⟨rfl, rfl, rfl, by decide +kernel, rfl, by decide +kernel, by decide +kernel⟩
theorem ok__is_tie (D : DefAt K mg "_is_tie" (topS 36) ["places", "value"]) (T : Txt mg) (TW : TxtWeb mg) (cis_tuple_of : C8.Cal P w K mg base 1 "is_tuple_of" SpTN []) (care_letters : C8.Cal P w K mg base 2 "are_letters" (SpD false RLet) []) (cis_length : C8.Cal P w K mg base 4 "is_length" (SpD false (RB isLen)) []) :
    C8.Cal P w K mg base 5 "_is_tie" (SpD false RTie) [] := by
  have nd := sc__is_tie.nd
  refine D.dl sc__is_tie (by decide) (by rintro n rs K ⟨_, _, rfl, _⟩; exact ⟨rfl, rfl⟩) fun f cdv A outer s H E hr => ?_
  have hu64 := hr.units
  refine ⟨_, (xss_cons (xs_if (xt_not (xt_val (x_call (C8.pe_c cis_tuple_of hr (by decide) rfl (xa_cons (xe_v (pv 1)) (xa_cons (xe_c pe_int (fun _ _ => .int _)) xa_nil))) (fun _ _ _ => ad_tn)))) (xss_one (xs_ret (xe_c pe_bl (fun _ _ => .bl _)))) xss_nil)
      (xss_cons (xs_tgt (ps_asg (xe_v (pv 1)) (xg_t (pg_tup (by rfl) (xgs_cons (xg_n (pg_name (i := 2) nd rfl (.inl rfl))) (xgs_cons (xg_n (pg_name (i := 3) nd rfl (.inl rfl))) xgs_nil))))))
      (xss_cons (xs_if (PW.pt (xw_or (xt_not (xt_val (x_call (C8.pe_c care_letters hr (by decide) rfl (xa_cons (xe_v (pv 2)) (xa_cons (xe_c pe_int (fun _ _ => .int _)) (xa_cons (xe_c pe_int (fun _ _ => .int _)) xa_nil)))) (fun _ _ _ h => h)))) (xw_or (xt_op (pt_cmpR op_notIn_sign (x_op (pe_ix ix_seq (xe_v (pv 2)) (xe_c pe_int (fun _ _ => .int _)) (fun _ _ => rfl)) ol_ix) (xe_v (pv 0)) (by rfl)) ol_nsign) (xw_or1 (xt_op (pt_cmpR op_notIn_sign (x_op (pe_ix ix_seq (xe_v (pv 2)) (xe_c pe_int (fun _ _ => .int _)) (fun _ _ => rfl)) ol_ix) (xe_v (pv 0)) (by rfl)) ol_nsign))))) (xss_one (xs_ret (xe_c pe_bl (fun _ _ => .bl _)))) xss_nil)
      (xss_one (xs_ret (x_call (C8.pe_c cis_length hr (by decide) rfl (xa_cons (xe_v (pv 3)) xa_nil)) (fun _ _ _ h => h))))))), ?_⟩
  rintro n as K ⟨x, d, rfl, k⟩
  have no : ∀ {b}, b = isTie x d → K (.d (.bool b)) 0 := fun e => e ▸ k
  walk_at "xs"
  cases ht : isTupN 2 d with
  | false => exact L2.iteT ⟨rfl, _, (fun z => nomatch z), no (tie_no2 ht).symm⟩
  | true =>
    obtain ⟨a, b, rfl⟩ := tup2_of ht
    refine L2.iteF ?_
    walk_at "xs"
    refine ⟨a, 2, 2, rfl, by decide, by decide, ?_⟩
    walk_at "xs"
    cases hl : isLet 2 2 a with
    | false =>
      refine L2.iteT (L2.iteT ⟨rfl, _, (fun z => nomatch z), no ?_⟩)
      exact (tie_noL hl).symm
    | true =>
      obtain ⟨y, c0, c1, rfl, hy⟩ := let2_of hl
      have i0 : fIx (.str y) (.int 0) = some (True, .d (.str (chS c0))) := by
        show (L2.atI y.cps.toList 0).map _ = _
        rw [hy]
        rfl
      have i1 : fIx (.str y) (.int 1) = some (True, .d (.str (chS c1))) := by
        show (L2.atI y.cps.toList 1).map _ = _
        rw [hy]
        rfl
      have hS : ∀ c : Nat, fSign true (.str (chS c)) (.str x) = some (True, .d (.bool (!decide (c ∈ x.cps.toList)))) := fun c => rfl
      have et : isTie x (.tuple [.str y, b]) = ((decide (c0 ∈ x.cps.toList) && decide (c1 ∈ x.cps.toList)) && isLen b) := by
        show ((isLet 2 2 (.str y) && (y.cps.toList.all fun c => x.cps.toList.contains c)) && isLen b) = _
        rw [hl, hy]
        simp only [List.all_cons, List.all_nil, List.contains_eq_mem, Bool.and_true, Bool.true_and]
      refine L2.iteF ?_
      walk_at "xs"
      refine ⟨_, _, _, rfl, rfl, i0, True.intro, ?_⟩
      walk_at "xs"
      refine L2.ite2 (fun h => ?_) (fun h => ?_)
      · have h : (!decide (c0 ∈ x.cps.toList)) = true := h
        rw [Bool.not_eq_true'] at h
        exact L2.iteT ⟨rfl, _, (fun z => nomatch z), no (by rw [et, h, Bool.false_and, Bool.false_and])⟩
      have h : ¬ (!decide (c0 ∈ x.cps.toList)) = true := h
      rw [Bool.not_eq_true', Bool.not_eq_false] at h
      walk_at "xs"
      refine ⟨_, _, _, rfl, rfl, i1, True.intro, ?_⟩
      walk_at "xs"
      refine L2.ite2 (fun h' => ?_) (fun h' => ?_)
      · have h' : (!decide (c1 ∈ x.cps.toList)) = true := h'
        rw [Bool.not_eq_true'] at h'
        exact ⟨rfl, _, (fun z => nomatch z), no (by rw [et, h', Bool.and_false, Bool.false_and])⟩
      have h' : ¬ (!decide (c1 ∈ x.cps.toList)) = true := h'
      rw [Bool.not_eq_true', Bool.not_eq_false] at h'
      walk_at "xs"
      exact no (by rw [et, h, h', Bool.true_and, Bool.true_and])
end
end Cs
set_option maxHeartbeats 4000000
local macro_rules | `(tactic| walk_at "xg") => `(tactic| try dsimp only [Cs.xRet, Cs.xRetN, Cs.xOp, Cs.xUn, Cs.xV, Cs.xB, Cs.xC, Cs.xCall, Cs.xCons, Cs.xNil, Cs.xBi, Cs.xSeq, Cs.xSet, Cs.xSets, Cs.xIfS, Cs.xTest, Cs.xTup, Cs.xLst, Cs.xAndV, Cs.xOrV, Cs.xNotV, Cs.xNot, Cs.xAndT, Cs.xOrT, Cs.xIf, Cs.xSl, Cs.xNoPart, Cs.xPart, Cs.xiL, Cs.xiB, Cs.xiT, Cs.xiR1, Cs.xiR2, Cs.xiS, Cs.xiZ, Cs.xiE, Cs.xgN, Cs.xgT, Cs.xgNil, Cs.xgCons, Cs.xYes, Cs.xDrop, Cs.xApp, Cs.xPopS, Cs.xPopA, Cs.xAsg, Cs.xNext, Cs.xNev, Cs.xChain, Cs.xIsi, Cs.xRaw, Cs.okEnd, Cs.toAV, Cs.setP, Cs.aftP, Cs.xCallK, Cs.xMeth, Cs.xProp, Cs.xW, Cs.xM1, Cs.xRv, Cs.xiR3, Cs.xFl, Cs.xTz, Cs.xWhile, Cs.xgU, Cs.xSlS, Cs.xiZs, Cs.xExt, Cs.xCallB, List.map, List.replicate, List.length_cons, List.length_nil, List.cons_append, List.nil_append, List.set_cons_succ, List.set_cons_zero, Nat.add_sub_cancel, Nat.sub_self, Nat.reduceSub, Nat.reduceAdd, eq_self, ↓reduceIte])
local macro_rules | `(tactic| walk_at "xw") => `(tactic| try dsimp only [Cs.lcTurn, Cs.wipeA, List.set_cons_succ, List.set_cons_zero])
local macro_rules | `(tactic| walk_at "x") => `(tactic| first
  | (with_reducible refine Eq.mpr (if_pos ?_) ?_; exact rfl)
  | (with_reducible refine Eq.mpr (if_neg ?_) ?_; exact Bool.false_ne_true)
  | refine ⟨_, rfl, ?_⟩
  | refine ⟨rfl, ?_⟩
  | refine ⟨_, _, rfl, rfl, True.intro, ?_⟩
  | refine ⟨_, _, _, rfl, rfl, rfl, True.intro, ?_⟩
  | refine ⟨_, rfl, by exact Nat.le_of_ble_eq_true rfl, ?_⟩
  | refine ⟨by exact Nat.le_of_ble_eq_true rfl, ?_⟩
  | refine ⟨_, _, _, _, rfl, rfl, rfl, rfl, ?_⟩
  | refine ⟨_, _, rfl, ?_⟩
  | refine ⟨⟨_, rfl⟩, ?_⟩
  | refine ⟨_, _, rfl, fun _ => rfl, ?_⟩
  | refine ⟨_, 0, rfl, (fun z => (nomatch z)), ?_⟩
  | refine ⟨_, fun _ => rfl, ?_⟩
  | refine ⟨0, (fun z => (nomatch z)), ?_⟩
  | fail "x")
local macro_rules | `(tactic| walk_at "xs") => `(tactic| repeat' (walk_at "xg"; walk_at "x"))
local macro_rules | `(tactic| walk_at "sets") => `(tactic| (intro vs σ H Q hl hq; first
  | exact (match vs, hl, hq with | [_], _, q => ⟨_, _, rfl, rfl, q⟩)
  | exact (match vs, hl, hq with | [_, _], _, q => ⟨_, _, rfl, _, _, rfl, rfl, q⟩)
  | exact (match vs, hl, hq with | [_, _, _], _, q => ⟨_, _, rfl, _, _, rfl, _, _, rfl, rfl, q⟩)
  | fail "sets"))
/-! webs: right places and ties (TxtWeb) -/
namespace Cs
open PySem PySem.Spec L2 L2H PyProof.Rows
abbrev Tie : Type := Str × (Int × Int)
def wSp (q : Int × Int) : PyData := .tuple [.int q.1, .int q.2]
def dTie (t : Tie) : PyData := .tuple [.str t.1, wSp t.2]
def dTies (ls : List Tie) : PyData := .tuple (ls.map dTie)
def ltS (x y : Str) : Prop := x.cps.toList < y.cps.toList
structure WebOk (x : Str) (ls : List Tie) : Prop where
  lt : isLet 2 6 (.str x) = true
  l1 : 1 ≤ ls.length
  l10 : ls.length ≤ 10
  tie : ∀ t ∈ ls, isTie x (dTie t) = true
  asc : (ls.map (·.1)).Pairwise ltS
  jn : ∀ c ∈ x.cps.toList, c ∈ rchN x.cps.toList (ls.map (·.1)) x.length (x.cps.toList.take 1)
theorem isLet_inv {lo hi : Int} {x : Str} (h : isLet lo hi (.str x) = true) : lo ≤ (x.length : Nat) ∧ ((x.length : Nat) : Int) ≤ hi ∧ (∀ c ∈ x.cps.toList, letterC c = true) ∧ ascL x.cps.toList = true := by
  have h : ((decide (lo ≤ ((x.length : Nat) : Int)) && decide (((x.length : Nat) : Int) ≤ hi)) && (x.cps.toList.all letterC && ascL x.cps.toList)) = true := h
  obtain ⟨h1, h2⟩ := Bool.and_eq_true_iff.mp h
  obtain ⟨a, b⟩ := Bool.and_eq_true_iff.mp h1
  obtain ⟨c, d⟩ := Bool.and_eq_true_iff.mp h2
  exact ⟨of_decide_eq_true a, of_decide_eq_true b, List.all_eq_true.mp c, d⟩
theorem asc_cons {a : Nat} {xs : List Nat} (h : ascL (a :: xs) = true) : ascL xs = true ∧ ∀ b ∈ xs, a < b := by
  induction xs generalizing a with
  | nil => exact ⟨rfl, fun b hb => by cases hb⟩
  | cons b r ih =>
    have h : (decide (a < b) && ascL (b :: r)) = true := h
    obtain ⟨h1, h2⟩ := Bool.and_eq_true_iff.mp h
    have h1 := of_decide_eq_true h1
    refine ⟨h2, fun c hc => ?_⟩
    rcases List.mem_cons.mp hc with rfl | hc
    · exact h1
    · exact Nat.lt_trans h1 ((ih h2).2 c hc)
theorem asc_pw : ∀ {xs : List Nat}, ascL xs = true → xs.Pairwise (· < ·)
  | [], _ => .nil
  | a :: xs, h => .cons (asc_cons h).2 (asc_pw (asc_cons h).1)
theorem asc_of : ∀ {xs : List Nat}, xs.Pairwise (· < ·) → ascL xs = true
  | [], _ => rfl
  | [_], _ => rfl
  | a :: b :: r, h => by
    rw [List.pairwise_cons] at h
    show (decide (a < b) && ascL (b :: r)) = true
    rw [decide_eq_true (h.1 b List.mem_cons_self), asc_of h.2]
    rfl
theorem asc_nd {xs : List Nat} (h : ascL xs = true) : xs.Nodup := (asc_pw h).imp fun h => Nat.ne_of_lt h
theorem WebOk.len {x : Str} {ls : List Tie} (g : WebOk x ls) : 2 ≤ x.length ∧ x.length ≤ 6 := by
  obtain ⟨a, b, _⟩ := isLet_inv g.lt
  omega
theorem WebOk.nd {x : Str} {ls : List Tie} (g : WebOk x ls) : x.cps.toList.Nodup := asc_nd (isLet_inv g.lt).2.2.2
theorem tie_inv {x : Str} {t : Tie} (h : isTie x (dTie t) = true) : isLet 2 2 (.str t.1) = true ∧ (∀ c ∈ t.1.cps.toList, c ∈ x.cps.toList) ∧ 0 ≤ t.2.1 ∧ t.2.1 ≤ t.2.2 ∧ t.2.2 ≤ 1000 := by
  have h : ((isLet 2 2 (.str t.1) && (t.1.cps.toList.all fun c => x.cps.toList.contains c)) && isLen (wSp t.2)) = true := h
  obtain ⟨h1, h2⟩ := Bool.and_eq_true_iff.mp h
  obtain ⟨h3, h4⟩ := Bool.and_eq_true_iff.mp h1
  have h2 : (decide ((0 : Int) ≤ t.2.1) && (decide (t.2.1 ≤ t.2.2) && decide (t.2.2 ≤ 1000))) = true := h2
  obtain ⟨a, h2⟩ := Bool.and_eq_true_iff.mp h2
  obtain ⟨b, c⟩ := Bool.and_eq_true_iff.mp h2
  exact ⟨h3, fun c hc => by simpa using List.all_eq_true.mp h4 c hc, of_decide_eq_true a, of_decide_eq_true b, of_decide_eq_true c⟩
theorem en_at {ls : List Tie} {i : Nat} {d : PyData} (h : (enD (ls.map dTie))[i]? = some d) : ∃ t, ls[i]? = some t ∧ d = .tuple [.int (i : Nat), dTie t] := by
  unfold enD at h
  obtain ⟨q, hq, rfl⟩ := mapget h
  rw [List.getElem?_zipIdx] at hq
  obtain ⟨e, he, rfl⟩ := Option.map_eq_some_iff.mp hq
  obtain ⟨t, ht, rfl⟩ := mapget he
  exact ⟨t, ht, by rw [Nat.zero_add]⟩
def RWok : DR := ⟨fun _ as K => ∃ (x : Str) (ls : List Tie), as = [.d (.str x), .d (dTies ls)] ∧ WebOk x ls ∧ K (.d .none) 0, fun h ⟨x, ls, e, a, k⟩ => ⟨x, ls, e, a, h _ _ k⟩⟩
section
variable {P : Program} {w : World} {K : PySem.W.Frag} {mg : Str → Option Value} {base : Heap}
theorem sc_check_joined : FnScope ["places", "ties", "reached", "pair", "_", "place"] ["places", "ties"] (defScope (topS 30)) := ⟨rfl, rfl, rfl, by decide +kernel, rfl, by decide +kernel, by decide +kernel⟩
theorem ok_check_joined (D : DefAt K mg "check_joined" (topS 30) ["places", "ties"]) (T : Txt mg) (TW : TxtWeb mg) (cplaces_reached : C8.Cal P w K mg base 3 "places_reached" (SpD false RRch) []) : C8.Cal P w K mg base 4 "check_joined" (SpD false RWok) [] := by
  have nd := sc_check_joined.nd
  refine D.dl sc_check_joined (by decide) (by rintro n rs K ⟨_, _, rfl, _⟩; exact ⟨rfl, rfl⟩) fun f cdv A outer s H E hr => ?_
  have hu64 := hr.units
  refine ⟨_, (xss_cons (xs_asg (w := false) (ps_set (i := 2) nd rfl (.inl rfl) (x_call (C8.pe_c cplaces_reached hr (by decide) rfl (xa_cons (xe_v (pv 0)) (xa_cons (xe_lc (own := [("pair", 3), ("_", 4)]) rfl nd (xi_tup (xe_v (pv 1))) (blkOk_by (N := ["places", "ties", "reached", "pair", "_", "place"]) (sc := defScope (topS 30)) (by decide +kernel)) (fun _ _ _ _ _ => (xg_t (pg_tup (by rfl) (xgs_cons (xg_n (pg_name (i := 3) nd rfl (.inl rfl))) (xgs_cons (xg_n (pg_name (i := 4) nd rfl (.inl rfl))) xgs_nil))))) (fun _ _ _ _ _ => xts_nil) (fun _ _ _ _ _ => (xe_v (pv 3))) (by decide)) xa_nil))) (fun _ _ _ h => h))))
      (xss_one (xs_for PassesOwn.never rfl (xi_str (xe_v (pv 0))) (xg_n (pg_name (i := 5) nd rfl (.inl rfl))) (xss_one (xs_if (xt_op (pt_cmpR op_notIn_seq (xe_v (pv 5)) (xe_v (pv 2)) (by rfl)) (ol_in (neg := true))) (xss_one xs_nev) xss_nil))))), ?_⟩
  rintro n as K ⟨x, ls, rfl, g, k⟩
  have gl := g.len
  walk_at "xs"
  refine lc_es (strD (ls.map (·.1))) ?_
  walk_at "xs"
  have l10 := g.l10
  refine ⟨by unfold strD; rw [List.length_map, List.length_map, List.length_map], by rw [List.length_map]; omega, fun j d y hd hy => ?_, ?_⟩
  · obtain ⟨t, ht, rfl⟩ := mapget hd
    unfold strD at hy
    rw [List.getElem?_map, List.getElem?_map, ht] at hy
    cases hy
    walk_at "xw"
    walk_at "xs"
    rfl
  walk_at "xw"
  walk_at "xs"
  refine ⟨by omega, by omega, g.nd, ?_⟩
  walk_at "xs"
  have jn := g.jn
  generalize rchN x.cps.toList (ls.map (·.1)) x.length (x.cps.toList.take 1) = r at jn ⊢
  refine ⟨fun i e => ∃ a5, e = [.d (.str x), .d (dTies ls), .d (.list (chL r)), .u, .u, a5], ⟨_, rfl⟩, ?_, ?_⟩
  · rintro e ⟨a5, rfl⟩
    exact ⟨_, (fun z => nomatch z), k⟩
  · rintro i d e hd ⟨a5, rfl⟩
    unfold chD at hd
    obtain ⟨c, hc, rfl⟩ := mapget hd
    obtain ⟨PI, hI, pI⟩ := finl_n (xs := r.map chS) (x := chS c) (by exact Nat.le_of_ble_eq_true rfl)
    have eC : chL r = strD (r.map chS) := by unfold chL strD; rw [List.map_map]; rfl
    have eN : (r.map chS).contains (chS c) = true := by
      rw [con_chs, List.contains_eq_mem, decide_eq_true_eq]
      exact jn c (List.mem_of_getElem? hc)
    rw [eN, ← eC] at hI
    walk_at "xs"
    refine ⟨_, _, _, rfl, rfl, hI, pI, _, rfl, L2.iteF ?_⟩
    exact ⟨_, rfl⟩
theorem sc_check_ties : FnScope ["places", "ties", "index", "tie"] ["places", "ties"] (defScope (topS 29)) := ⟨rfl, rfl, rfl, by decide +kernel, rfl, by decide +kernel, by decide +kernel⟩
theorem ok_check_ties (D : DefAt K mg "check_ties" (topS 29) ["places", "ties"]) (T : Txt mg) (TW : TxtWeb mg) (c_is_tie : C8.Cal P w K mg base 5 "_is_tie" (SpD false RTie) []) : C8.Cal P w K mg base 6 "check_ties" (SpD false RWok) [] := by
  have nd := sc_check_ties.nd
  refine D.dl sc_check_ties (by decide) (by rintro n rs K ⟨_, _, rfl, _⟩; exact ⟨rfl, rfl⟩) fun f cdv A outer s H E hr => ?_
  have hu64 := hr.units
  refine ⟨_, (xss_cons (xs_if (xt_not (xt_val (xe_isi (T := "tuple") (pe_callB call_isi (by rfl) T.isinstance_ (by decide +kernel) (pa_cons (xe_v (pv 1)) (pa_cons (pe_bltn (v := .ty "tuple") (u := .type "tuple") (by rfl) T.tuple_ (by decide +kernel) rfl) pa_nil)))))) (xss_one xs_nev) xss_nil)
      (xss_one (xs_for PassesOwn.never rfl (xi_en rfl T.enumerate_ (xa_cons (xe_v (pv 1)) xa_nil)) (xg_t (pg_tup (by rfl) (xgs_cons (xg_n (pg_name (i := 2) nd rfl (.inl rfl))) (xgs_cons (xg_n (pg_name (i := 3) nd rfl (.inl rfl))) xgs_nil)))) (xss_one (xs_if (PW.pt (xw_or (xt_op (pt_cmpR (opEq hu64) (xe_v (pv 2)) (xe_c (C8.pe_gc rfl TW.c_MOST_TIES) (fun _ _ => .int _)) (nomark _)) ol_eq) (xw_or (xt_not (xt_val (x_call (C8.pe_c c_is_tie hr (by decide) rfl (xa_cons (xe_v (pv 0)) (xa_cons (xe_v (pv 3)) xa_nil))) (fun _ _ _ h => h)))) (xw_or1 (PW.pt (xw_and (xt_op (pt_cmpR op_gt (xe_v (pv 2)) (xe_c pe_int (fun _ _ => .int _)) (nomark _)) ol_gt) (xw_and1 (xt_op (pt_cmpR opLe (x_op (pe_ix ix_seq (xe_v (pv 3)) (xe_c pe_int (fun _ _ => .int _)) (fun _ _ => rfl)) ol_ix) (x_op (pe_ix ix_seq (x_op (pe_ix ix_seq (xe_v (pv 1)) (x_op (pe_op op_sub (xe_v (pv 2)) (xe_c pe_int (fun _ _ => .int _))) ol_sub) (fun _ _ => rfl)) ol_ix) (xe_c pe_int (fun _ _ => .int _)) (fun _ _ => rfl)) ol_ix) (nomark _)) ol_le)))))))) (xss_one xs_nev) xss_nil))))), ?_⟩
  rintro n as K ⟨x, ls, rfl, g, k⟩
  have gl := g.len
  walk_at "xs"
  refine ⟨_, _, rfl, rfl, _, rfl, L2.iteF ?_⟩
  walk_at "xs"
  have l10 := g.l10
  refine ⟨fun i e => ∃ a2 a3, e = [.d (.str x), .d (dTies ls), a2, a3], ⟨_, _, rfl⟩, ?_, ?_⟩
  · rintro e ⟨a2, a3, rfl⟩
    exact ⟨_, (fun z => nomatch z), k⟩
  · rintro i d e hd ⟨a2, a3, rfl⟩
    obtain ⟨t, ht, rfl⟩ := en_at hd
    have hm := List.mem_of_getElem? ht
    have li := (List.getElem?_eq_some_iff.mp ht).1
    have gt := g.tie t hm
    have gt2 : isTie x (.tuple [.str t.1, wSp t.2]) = true := gt
    have h10 : decide (((i : Nat) : Int) = 10) = false := decide_eq_false (by omega)
    walk_at "xs"
    rw [h10]
    refine L2.iteF ?_
    walk_at "xs"
    rw [gt]
    refine L2.iteF ?_
    walk_at "xs"
    refine L2.ite2 (fun h0 => ?_) (fun _ => L2.iteF ⟨_, _, rfl⟩)
    obtain ⟨j, rfl⟩ : ∃ j, i = j + 1 := ⟨i - 1, by have := of_decide_eq_true h0; omega⟩
    obtain ⟨u, hu⟩ : ∃ u, ls[j]? = some u := ⟨_, List.getElem?_eq_getElem (by omega)⟩
    have f0 : ∀ v : Tie, fIx (dTie v) (.int 0) = some (True, .d (.str v.1)) := fun v => fIx_t (atI_nat (j := 0) rfl)
    have f1 : fIx (dTies ls) (.int ((((j + 1 : Nat)) : Int) - 1)) = some (True, .d (dTie u)) := fIx_t (by
      rw [show (((j + 1 : Nat) : Int) - 1) = ((j : Nat) : Int) by omega]
      exact atI_nat (by rw [List.getElem?_map, hu]; rfl))
    have hle : (!decide (u.1.cps.toList < t.1.cps.toList)) = false := by
      have : u.1.cps.toList < t.1.cps.toList := by
        have := List.pairwise_iff_getElem.mp g.asc j (j + 1) (by rw [List.length_map]; omega) (by rw [List.length_map]; omega) (Nat.lt_succ_self j)
        rw [List.getElem_map, List.getElem_map] at this
        rw [List.getElem?_eq_getElem (by omega)] at hu ht
        cases hu
        cases ht
        exact this
      rw [decide_eq_true this]
      rfl
    refine ⟨_, rfl, _, _, _, rfl, rfl, f0 t, True.intro, ?_⟩
    walk_at "xs"
    refine ⟨_, _, _, rfl, rfl, f1, True.intro, ?_⟩
    walk_at "xs"
    rw [hle]
    exact L2.iteF ⟨_, _, rfl⟩
end
end Cs
set_option maxHeartbeats 4000000
/-! Over data: stars in displays, f-strings, fields of own objects, defs of classes. -/
namespace Cs
open PySem PySem.Spec L2 L2H PyProof.Rows
/-! ### *e in a display -/
def xStar (a : XE) (b : XA) : XA := ⟨fun ε K => a.run ε fun r ε1 => ∃ ds, (r.see = some (.list ds) ∨ r.see = some (.tuple ds)) ∧ b.run ε1 fun rs ε2 => K (ds.map RV.d ++ rs) ε2,
  fun h q => a.mono (fun _ _ ⟨ds, e, q⟩ => ⟨ds, e, b.mono (fun _ _ k => h _ _ k) q⟩) q⟩
section
variable {Γ : Ga} {ε : List AV} {T : Addr → Prop} {σ : L2.St} {H H2 : Hp}
theorem denA_app : ∀ {vs : List V} {ds : List PyData} {rs : List RV} {ws : List V}, DnA (Mx Γ ε T σ) H2 vs ds → DenA Γ ε T σ H rs ws H2 → DenA Γ ε T σ H (ds.map RV.d ++ rs) (vs ++ ws) H2
  | _, _, _, _, .nil, d => d
  | _, _, _, _, .cons h t, d => .cons h (denA_app t d) (fun _ _ e => nomatch e)
end
theorem xa_star {X : Cx} {e : Expr} {es : List Expr} {a : XE} {b : XA} {p : Pos} (ha : PE X e (up a)) (hb : PA X es (upA b)) (hs : starEach (.Starred e p :: es) X.env = (true, eval e X.env) :: starEach es X.env := by rfl) : PA X (.Starred e p :: es) (upA (xStar a b)) :=
  pa_wk (StX.pa_star ha hb hs) fun σ H Q ⟨Γ, ε, T, R, k⟩ => up1 R k fun r x ε1 T1 H1 ⟨ds, e, g⟩ R1 s1 d1 => by
    have key : ∃ p xs, x = V.ref p ∧ (SqT X.K H1 p xs ∨ SqL X.K H1 p xs) ∧ DnA (Mx Γ ε1 T1 σ) H1 xs ds := by
      rcases e with e | e
      · obtain ⟨p, xs, rfl, h1, h2, h3⟩ := (d1.see e).list
        exact ⟨p, xs, rfl, .inr (SqL.of h1), h3⟩
      · obtain ⟨p, xs, rfl, h1, h2, h3, _⟩ := (d1.see e).tup
        exact ⟨p, xs, rfl, .inl (SqT.rd h1), h3⟩
    obtain ⟨p, xs, rfl, h1, h2⟩ := key
    exact ⟨p, xs, rfl, h1, upA1 R1 g fun rs ys ε2 T2 H2 g2 R2 s2 d2 => g2 _ T2 H2 R2 (s1.trans R.hp s2) (denA_app (h2.go (s2.fit R1.pm)) (d2.early fun a => s1.none R.hp))⟩
/-! ### f-strings -/
inductive FP where
  | c (s : Str)
  | x (t : XE)
def FP.te : FP → TE
  | .c s => tC (.str s)
  | .x t => tFmt (up t)
def fmtR (r : RV) : Option Str := match r.see with
  | some (.str y) => some y
  | some (.int i) => if i.natAbs.log2 < 1920 then some (it i) else none
  | _ => none
def jsRun : List FP → Str → List AV → (Str → List AV → Prop) → Prop
  | [], acc, ε, K => K acc ε
  | .c s :: ps, acc, ε, K => (acc ++ s).length ≤ 1000 ∧ jsRun ps (acc ++ s) ε K
  | .x t :: ps, acc, ε, K => t.run ε fun r ε1 => ∃ y, fmtR r = some y ∧ (acc ++ y).length ≤ 1000 ∧ jsRun ps (acc ++ y) ε1 K
theorem jsRun_mono : ∀ {ps : List FP} {acc : Str} {ε : List AV} {K K' : Str → List AV → Prop}, (∀ o e, K o e → K' o e) → jsRun ps acc ε K → jsRun ps acc ε K'
  | [], _, _, _, _, h, q => h _ _ q
  | .c _ :: _, _, _, _, _, h, q => ⟨q.1, jsRun_mono h q.2⟩
  | .x t :: _, _, _, _, _, h, q => t.mono (fun _ _ ⟨y, a, b, k⟩ => ⟨y, a, b, jsRun_mono h k⟩) q
def xJs (ps : List FP) : XE := ⟨fun ε K => jsRun ps Str.empty ε fun o ε' => o.length ≤ 1000 ∧ K (.d (.str o)) ε', fun h q => jsRun_mono (fun _ _ ⟨a, k⟩ => ⟨a, h _ _ k⟩) q⟩
theorem js_run {Γ : Ga} {ε0 : List AV} {T0 : Addr → Prop} {σ : L2.St} {H0 : Hp} {G : Str → List AV → Prop} {R : Str → Hp → Prop} (R00 : Rep Γ ε0 T0 σ H0) :
    ∀ (ps : List FP) (acc : Str) (ε : List AV) (T : Addr → Prop) (H : Hp), Rep Γ ε T σ H → Stp Γ ε0 T0 ε T σ H0 H → jsRun ps acc ε G →
      (∀ o ε1 T1 H1, G o ε1 → Rep Γ ε1 T1 σ H1 → Stp Γ ε0 T0 ε1 T1 σ H0 H1 → R o H1) → tJs (ps.map FP.te) acc σ H R
  | [], acc, ε, T, H, R0, s0, h, k => k _ ε T H h R0 s0
  | .c s :: ps, acc, ε, T, H, R0, s0, h, k => ⟨s, rfl, sz1000 h.1, js_run R00 ps _ ε T H R0 s0 h.2 k⟩
  | .x t :: ps, acc, ε, T, H, R0, s0, h, k => up1 R0 h fun r v ε1 T1 H1 ⟨y, e, hl, g⟩ R1 s1 d1 => by
    have go := js_run R00 ps (acc ++ y) ε1 T1 H1 R1 (s0.trans R00.hp s1) g k
    unfold fmtR at e
    split at e
    · rename_i z hz
      cases e
      have hv := (d1.see hz).str
      exact .inl ⟨_, hv.1, hv.2, _, rfl, sz1000 hl, go⟩
    · rename_i i hz
      split at e
      · rename_i lg
        cases e
        exact .inr ⟨i, (d1.see hz).int, lg, _, rfl, sz1000 hl, go⟩
      · cases e
    · cases e
theorem xe_js {X : Cx} {v1 v2 : Expr} {rest : List Expr} {ps : List FP} {pos : Pos} (h : PJ X (v1 :: v2 :: rest) (ps.map FP.te)) : PE X (.JoinedStr (v1 :: v2 :: rest) pos) (up (xJs ps)) :=
  pe_wk (pe_joined h) fun σ H Q ⟨Γ, ε, T, R, k⟩ => js_run R ps Str.empty ε T H R (.refl R) k fun o ε1 T1 H1 ⟨hl, g⟩ R1 s1 => g _ T1 H1 R1 s1 (.str _ hl)
theorem pj_c {X : Cx} {x : Str} {j : Nat} {pos : Pos} {es : List Expr} {ps : List FP} (h : PJ X es (ps.map FP.te)) (hj : PE X (.Constant (.str x) j pos) (tC (.str x)) := by exact pe_str) : PJ X (.Constant (.str x) j pos :: es) ((FP.c x :: ps).map FP.te) := .cons hj h
theorem pj_x {X : Cx} {e : Expr} {t : XE} {pos : Pos} {es : List Expr} {ps : List FP} (he : PE X e (up t)) (h : PJ X es (ps.map FP.te)) : PJ X (.FormattedValue e (-1) none pos :: es) ((FP.x t :: ps).map FP.te) := .cons (pe_fmt he) h
theorem pj_nil {X : Cx} : PJ X [] (([] : List FP).map FP.te) := .nil
/-! ### a field of an own object -/
/-- P is an object of C whose field f holds d -/
def FldP (C : Addr) (f : Str) (P : V → Hp → Prop) (d : PyData) : Prop := ∀ v H, P v H → ∃ a dx fs w, v = .ref a ∧ H a = some (.ins C dx fs) ∧ fs.lookup f = some w ∧ Dn NF H w d
def xFld (C : Addr) (f : Str) (o : XE) : XE := ⟨fun ε K => o.run ε fun r ε1 => ∃ P d, r = .o P ∧ FldP C f P d ∧ imm d = true ∧ K (.d d) ε1, fun h q => o.mono (fun _ _ ⟨P, d, e, a, b, k⟩ => ⟨P, d, e, a, b, h _ _ k⟩) q⟩
theorem xe_fld {X : Cx} {e : Expr} {f : Str} {C : Addr} {o : XE} {pos : Pos} (he : PE X e (up o)) (c : Cls X.K C) (n : NoAttr X.K C f) (hb : attributeBase e f X.env (eval e X.env) = eval e X.env := by rfl) : PE X (.Attribute e f pos) (up (xFld C f o)) :=
  pe_wk (pe_fld he hb) fun σ H Q ⟨Γ, ε, T, R, k⟩ => up1 R k fun r x ε1 T1 H1 ⟨P, d, er, hP, im, g⟩ R1 s1 d1 => by
    subst er
    have d1 : Stb (Mx Γ ε1 T1 σ) H1 P x := d1
    obtain ⟨a, dx, fs, w, rfl, ha, hf, dn⟩ := hP x H1 d1.now
    exact ⟨a, C, dx, fs, w, rfl, ha, c, n, hf, g w T1 H1 R1 s1 (dn.imm (no_tup R1.lists (not_tup R1.hp)) im)⟩
/-! ### defs of classes -/
section
variable {P : Program} {w : World} {K : PySem.W.Frag} {mg : Str → Option Value} {base : Heap}
theorem funD_dl {x q : Str} {params : Arguments} {body : List Stmt} {scope : Scope} {f : Addr} {fd : FuncData} {N ps : List Str} {k : Nat} {B : Bool} {R : DR} (F : FunD K x q params body scope [] [] f fd) (S : FnScope N ps scope) (hN : ps.length ≤ N.length) (hR : ∀ n rs K, R.run n rs K → rs.length = ps.length ∧ (B || noP rs) = true)
    (hbody : ∀ (cdv : Value) (A : Around) (outer : List Env) (s : Shared) (H : Hp) (E : XK), Room k (A.deeper (envOfC q scope s.heap.objs.size f cdv)) →
      ∃ t, PSs (cxOf CX0 P w K mg base N q scope f cdv A outer s H E).nox body (upS t) ∧ ∀ n rs K, R.run n rs K → t.run (okEnd B K) (rs.map (toAV n) ++ List.replicate (N.length - rs.length) .u)) : FnOk P w K mg base CX0 (k + 1) f fd ps (SpD B R) := by
  refine F.ok S (fun vs H Q E h => ?_) fun cdv A outer s H vs Q E hr h => ?_
  · obtain ⟨p, M, n, rs, _, _, _, _, ag, q⟩ := h
    rw [arg_len ag, (hR _ _ _ q).1]
  obtain ⟨t, h1, h2⟩ := hbody cdv A outer s H E hr
  refine ⟨_, h1.nox, enter h ?_ (fun n rs K q => (hR n rs K q).2) h2⟩
  obtain ⟨p, M, n, rs, _, _, _, _, ag, q⟩ := h
  rw [arg_len ag, (hR _ _ _ q).1]
  exact hN
end
/-- what is known of an own class whose objects hold two things -/
structure OwnC (K : PySem.W.Frag) (C : Addr) (f1 f2 : Str) : Prop where
  c : Cls K C
  n1 : NoAttr K C f1
  n2 : NoAttr K C f2
  ha : PySem.W.findIn K (.ref C) "__class__" = some (some (.builtin "object.__class__"))
  hn : PySem.W.specialIn K (.builtin "object.__class__") "__get__" = some (some (.builtin "getset_descriptor.__get__"))
  ht : PySem.W.takesIn K (.builtin "object.__class__") = some true
  hm : PySem.W.mroIn K C (.type "object") = some true
  ki : PySem.W.kitOne K (.ref C) (.ref C) = some true
/-- str of a text -/
def fStrS : FN
  | [.str a] => some (a.length ≤ 1000, .d (.str a))
  | _ => none
theorem bl_strS : BiL (fun xs H Q => ∃ a, xs = [.str a] ∧ Q (.str a) H) fStrS := by
  intro N H vs ds c Q hs e1 e2 o
  unfold fStrS at e1
  split at e1
  · cases e1
    obtain ⟨v, rfl, h⟩ := see1 hs
    exact ⟨_, by rw [h.str.1], o.old _ _ rfl (.str _ e2)⟩
  · cases e1
end Cs
set_option maxHeartbeats 4000000
local macro_rules | `(tactic| walk_at "xg") => `(tactic| try dsimp only [Cs.xRet, Cs.xRetN, Cs.xOp, Cs.xUn, Cs.xV, Cs.xB, Cs.xC, Cs.xCall, Cs.xCons, Cs.xNil, Cs.xBi, Cs.xSeq, Cs.xSet, Cs.xSets, Cs.xIfS, Cs.xTest, Cs.xTup, Cs.xLst, Cs.xAndV, Cs.xOrV, Cs.xNotV, Cs.xNot, Cs.xAndT, Cs.xOrT, Cs.xIf, Cs.xSl, Cs.xNoPart, Cs.xPart, Cs.xiL, Cs.xiB, Cs.xiT, Cs.xiR1, Cs.xiR2, Cs.xiS, Cs.xiZ, Cs.xiE, Cs.xgN, Cs.xgT, Cs.xgNil, Cs.xgCons, Cs.xYes, Cs.xDrop, Cs.xApp, Cs.xPopS, Cs.xPopA, Cs.xAsg, Cs.xNext, Cs.xNev, Cs.xChain, Cs.xIsi, Cs.xRaw, Cs.okEnd, Cs.toAV, Cs.setP, Cs.aftP, Cs.xCallK, Cs.xMeth, Cs.xProp, Cs.xW, Cs.xM1, Cs.xRv, Cs.xiR3, Cs.xFl, Cs.xTz, Cs.xWhile, Cs.xgU, Cs.xSlS, Cs.xiZs, Cs.xExt, Cs.xCallB, Cs.xStar, Cs.xJs, Cs.jsRun, Cs.xFld, List.map, List.replicate, List.length_cons, List.length_nil, List.cons_append, List.nil_append, List.set_cons_succ, List.set_cons_zero, Nat.add_sub_cancel, Nat.sub_self, Nat.reduceSub, Nat.reduceAdd, eq_self, ↓reduceIte])
local macro_rules | `(tactic| walk_at "xw") => `(tactic| try dsimp only [Cs.lcTurn, Cs.wipeA, List.set_cons_succ, List.set_cons_zero])
local macro_rules | `(tactic| walk_at "x") => `(tactic| first
  | (with_reducible refine Eq.mpr (if_pos ?_) ?_; exact rfl)
  | (with_reducible refine Eq.mpr (if_neg ?_) ?_; exact Bool.false_ne_true)
  | refine ⟨_, rfl, ?_⟩
  | refine ⟨rfl, ?_⟩
  | refine ⟨_, _, rfl, rfl, True.intro, ?_⟩
  | refine ⟨_, _, _, rfl, rfl, rfl, True.intro, ?_⟩
  | refine ⟨_, rfl, by exact Nat.le_of_ble_eq_true rfl, ?_⟩
  | refine ⟨by exact Nat.le_of_ble_eq_true rfl, ?_⟩
  | refine ⟨_, _, _, _, rfl, rfl, rfl, rfl, ?_⟩
  | refine ⟨_, _, rfl, ?_⟩
  | refine ⟨⟨_, rfl⟩, ?_⟩
  | refine ⟨_, _, rfl, fun _ => rfl, ?_⟩
  | refine ⟨_, 0, rfl, (fun z => (nomatch z)), ?_⟩
  | refine ⟨_, fun _ => rfl, ?_⟩
  | refine ⟨0, (fun z => (nomatch z)), ?_⟩
  | fail "x")
local macro_rules | `(tactic| walk_at "xs") => `(tactic| repeat' (walk_at "xg"; walk_at "x"))
local macro_rules | `(tactic| walk_at "sets") => `(tactic| (intro vs σ H Q hl hq; first
  | exact (match vs, hl, hq with | [_], _, q => ⟨_, _, rfl, rfl, q⟩)
  | exact (match vs, hl, hq with | [_, _], _, q => ⟨_, _, rfl, _, _, rfl, rfl, q⟩)
  | exact (match vs, hl, hq with | [_, _, _], _, q => ⟨_, _, rfl, _, _, rfl, _, _, rfl, rfl, q⟩)
  | fail "sets"))
/-! webs as objects (TxtWeb) -/
namespace Cs
open PySem PySem.Spec L2 L2H PyProof.Rows TL
abbrev WebC (K : PySem.W.Frag) (C : Addr) : Prop := OwnC K C "_places" "_ties"
def WebJ (C : Addr) (x : Str) (ls : List Tie) : V → Hp → Prop := fun v H => ∃ t dx vr, v = .ref t ∧ H t = some (.ins C dx [("_places", .str x), ("_ties", vr)]) ∧ x.length ≤ 1000 ∧ Dn NF H vr (dTies ls)
def spW (q : Int × Int) : Str := it q.1 ++ ((" " : Str) ++ it q.2)
def lnW (t : Tie) : Str := t.1 ++ ((" " : Str) ++ spW t.2)
def pageW (x : Str) (ls : List Tie) : Str := Txt.join "\n" (x :: ls.map lnW)
theorem imm_ties {ls : List Tie} : imm (dTies ls) = true := imms_map fun _ _ => rfl
theorem WebJ.pl {C : Addr} {x : Str} {ls : List Tie} : FldP C "_places" (WebJ C x ls) (.str x) := fun v H ⟨t, dx, vr, e, h, hl, d⟩ => ⟨t, dx, _, .str x, e, h, rfl, .str x hl⟩
theorem WebJ.ts {C : Addr} {x : Str} {ls : List Tie} : FldP C "_ties" (WebJ C x ls) (dTies ls) := fun v H ⟨t, dx, vr, e, h, hl, d⟩ => ⟨t, dx, _, vr, e, h, rfl, d⟩
theorem FldP.imp {C : Addr} {f : Str} {P P2 : V → Hp → Prop} {d : PyData} (h : FldP C f P d) (k : ∀ v H, P2 v H → P v H) : FldP C f P2 d := fun v H q => h v H (k v H q)
theorem WebJ.isI {C : Addr} {x : Str} {ls : List Tie} (v : V) (H : Hp) (h : WebJ C x ls v H) : ∃ a dx fs, v = .ref a ∧ H a = some (.ins C dx fs) := by
  obtain ⟨t, dx, vr, e, h1, _⟩ := h
  exact ⟨t, dx, _, e, h1⟩
def RPl (C : Addr) : DR := ⟨fun _ as K => ∃ (P : V → Hp → Prop) (x : Str) (ls : List Tie), as = [.o P] ∧ (∀ v H, P v H → WebJ C x ls v H) ∧ K (.d (.str x)) 0, fun h ⟨P, x, ls, e, a, k⟩ => ⟨P, x, ls, e, a, h _ _ k⟩⟩
def RTs (C : Addr) : DR := ⟨fun _ as K => ∃ (P : V → Hp → Prop) (x : Str) (ls : List Tie), as = [.o P] ∧ (∀ v H, P v H → WebJ C x ls v H) ∧ K (.d (dTies ls)) 0, fun h ⟨P, x, ls, e, a, k⟩ => ⟨P, x, ls, e, a, h _ _ k⟩⟩
def RLnW (C : Addr) : DR := ⟨fun _ as K => ∃ (P : V → Hp → Prop) (x : Str) (ls : List Tie), as = [.o P] ∧ (∀ v H, P v H → WebJ C x ls v H) ∧ WebOk x ls ∧ K (.d (.int (ls.length : Nat))) 0, fun h ⟨P, x, ls, e, a, g, k⟩ => ⟨P, x, ls, e, a, g, h _ _ k⟩⟩
def RTx (C : Addr) : DR := ⟨fun _ as K => ∃ (P : V → Hp → Prop) (x : Str) (ls : List Tie), as = [.o P] ∧ (∀ v H, P v H → WebJ C x ls v H) ∧ WebOk x ls ∧ K (.d (.str (pageW x ls))) 0, fun h ⟨P, x, ls, e, a, g, k⟩ => ⟨P, x, ls, e, a, g, h _ _ k⟩⟩
def RPrs (C : Addr) : DR := ⟨fun _ as K => ∃ (P : V → Hp → Prop) (x : Str) (ls : List Tie), as = [.o P] ∧ (∀ v H, P v H → WebJ C x ls v H) ∧ WebOk x ls ∧ K (.f (strD (ls.map (fun x : Tie => x.1)))) 0, fun h ⟨P, x, ls, e, a, g, k⟩ => ⟨P, x, ls, e, a, g, h _ _ k⟩⟩
def RStx : DR := ⟨fun _ as K => ∃ qs : List (Int × Int), as = [.d (.list (qs.map wSp))] ∧ 1 ≤ qs.length ∧ qs.length ≤ 4 ∧ (∀ q ∈ qs, 0 ≤ q.1 ∧ q.1 ≤ q.2 ∧ q.2 ≤ 1000) ∧ K (.d (.str (Txt.join " " (qs.map spW)))) 0, fun h ⟨qs, e, a, b, c, k⟩ => ⟨qs, e, a, b, c, h _ _ k⟩⟩
theorem kps_ds : ∀ ds : List PyData, kps (ds.map RV.d) = some ds
  | [] => rfl
  | d :: ds => by
    show (match some d, kps (ds.map RV.d) with
      | some x, some xs => some (x :: xs)
      | _, _ => none) = _
    rw [kps_ds ds]
theorem sjn_len {b : Nat} {y : Str} : ∀ {xs : List Str}, (∀ x ∈ xs, x.length ≤ b) → (Str.join y xs).length ≤ xs.length * (b + y.length)
  | [], _ => Nat.zero_le _
  | [x], h => by
    have z := h x List.mem_cons_self
    show x.length ≤ 1 * (b + y.length)
    omega
  | x :: z :: r, h => by
    have h1 := h x List.mem_cons_self
    have h2 := sjn_len (y := y) (xs := z :: r) fun w hw => h w (List.mem_cons_of_mem _ hw)
    show (x ++ y ++ Str.join y (z :: r)).length ≤ _
    rw [Str.length_append, Str.length_append, List.length_cons, Nat.succ_mul]
    omega
theorem jn_len {b : Nat} {y : Str} {xs : List Str} (h : ∀ x ∈ xs, x.length ≤ b) : (Txt.join y xs).length ≤ xs.length * (b + y.length) := by
  rw [show Txt.join y xs = Str.join y xs from StrLaws.glued_eq_join y xs]
  exact sjn_len h
theorem spW_len {q : Int × Int} (h : 0 ≤ q.1 ∧ q.1 ≤ q.2 ∧ q.2 ≤ 1000) : (spW q).length ≤ 13 := by
  have e1 := (it_int (i := q.1) (by omega) (by omega)).2
  have e2 := (it_int (i := q.2) (by omega) (by omega)).2
  have l3 : ((" " : Str)).length = 1 := by decide
  unfold spW
  rw [Str.length_append, Str.length_append]
  omega
theorem WebOk.page {x : Str} {ls : List Tie} (g : WebOk x ls) : (pageW x ls).length ≤ 11 * 17 := by
  have l10 := g.l10
  have lx := g.len
  have l3 : ((" " : Str)).length = 1 := by decide
  have l4 : (("\n" : Str)).length = 1 := by decide
  refine Nat.le_trans (jn_len (b := 16) fun y hy => ?_) ?_
  · rcases List.mem_cons.mp hy with rfl | hy
    · omega
    obtain ⟨t, ht, rfl⟩ := List.mem_map.mp hy
    have gt := tie_inv (g.tie t ht)
    have t2 := (isLet_inv gt.1).2.1
    have l := spW_len gt.2.2
    unfold lnW
    rw [Str.length_append, Str.length_append]
    omega
  · rw [l4, List.length_cons, List.length_map]
    omega
theorem lg_small {a : Int} (h1 : -100000 < a) (h2 : a < 100000) : a.natAbs.log2 < 1920 := by
  by_cases h0 : a.natAbs = 0
  · rw [h0]
    decide
  · exact (Nat.log2_lt h0).mpr (Nat.lt_of_lt_of_le (show a.natAbs < 2 ^ 20 by omega) (Nat.pow_le_pow_right (by decide) (by decide)))
section
variable {P : Program} {w : World} {K : PySem.W.Frag} {mg : Str → Option Value} {base : Heap} {C : Addr}
theorem sc_stretches_text : FnScope ["stretches", "low", "high"] ["stretches"] (defScope (topS 21)) := ⟨rfl, rfl, rfl, by decide +kernel, rfl, by decide +kernel, by decide +kernel⟩
theorem ok_stretches_text (D : DefAt K mg "stretches_text" (topS 21) ["stretches"]) (T : Txt mg) (TW : TxtWeb mg) : C8.Cal P w K mg base 1 "stretches_text" (SpD false RStx) [] := by
  have nd := sc_stretches_text.nd
  refine D.dl sc_stretches_text (by decide) (by rintro n rs K ⟨_, rfl, _⟩; exact ⟨rfl, rfl⟩) fun f cdv A outer s H E hr => ?_
  have hu64 := hr.units
  refine ⟨_, (xss_one (xs_ret (x_m1 (pe_m1 PySem.F.slot_str_join PySem.F.type_str_join mt_join (xe_c pe_str (fun _ _ => .str _ (by decide))) (xe_lc (own := [("low", 1), ("high", 2)]) rfl nd (xi_look (xe_v (pv 0))) (blkOk_by (N := ["stretches", "low", "high"]) (sc := defScope (topS 21)) (by decide +kernel)) (fun _ _ _ _ _ => (xg_t (pg_tup (by rfl) (xgs_cons (xg_n (pg_name (i := 1) nd rfl (.inl rfl))) (xgs_cons (xg_n (pg_name (i := 2) nd rfl (.inl rfl))) xgs_nil))))) (fun _ _ _ _ _ => xts_nil) (fun _ _ _ _ _ => (xe_js (pj_x (xe_v (pv 1)) (pj_c (pj_x (xe_v (pv 2)) pj_nil))))) (by decide))) ml_join))), ?_⟩
  rintro n as K ⟨qs, rfl, h1, h4, hb, k⟩
  walk_at "xs"
  refine lc_es ((qs.map spW).map PyData.str) ?_
  walk_at "xs"
  refine ⟨by rw [List.length_map, List.length_map, List.length_map], by rw [List.length_map]; omega, fun j d y hd hy => ?_, ?_⟩
  · obtain ⟨q, hq, rfl⟩ := mapget hd
    rw [List.getElem?_map, List.getElem?_map, hq] at hy
    cases hy
    have b := hb q (List.mem_of_getElem? hq)
    walk_at "xw"
    walk_at "xs"
    have l := spW_len b
    have fm : ∀ i : Int, 0 ≤ i → i ≤ 1000 → fmtR (.d (.int i)) = some (it i) := fun i h1 h2 => if_pos (lg_small (by omega) (by omega))
    have e1 : Str.empty ++ it q.1 ++ ((" " : Str)) ++ it q.2 = spW q := by rw [Str.empty_append, Str.append_assoc]; rfl
    have e0 := (it_int (i := q.1) (by omega) (by omega)).2
    have l3 : ((" " : Str)).length = 1 := by decide
    refine ⟨_, fm _ b.1 (by omega), by rw [Str.empty_append]; omega, by rw [Str.empty_append, Str.length_append]; omega, _, rfl, _, fm _ (by omega) b.2.2, ?_⟩
    rw [e1]
    exact ⟨by omega, by omega, _, rfl, rfl, rfl⟩
  walk_at "xw"
  walk_at "xs"
  have hJ : ∀ (a : Str) (xs : List Str), fJoin (.str a) (.list (xs.map PyData.str)) = some (a.length ≤ 10 ∧ (Txt.join a xs).length ≤ 1000, .d (.str (Txt.join a xs))) := fun a xs => by
    show (strsO (xs.map PyData.str)).map _ = _
    rw [strsO_map]
    rfl
  have jl := jn_len (y := (" " : Str)) (xs := qs.map spW) (b := 13) (fun y hy => by
    obtain ⟨q, hq, rfl⟩ := List.mem_map.mp hy
    exact spW_len (hb q hq))
  rw [List.length_map] at jl
  have l3 : ((" " : Str)).length = 1 := by decide
  refine ⟨_, _, _, rfl, rfl, hJ _ _, ⟨by decide, by rw [l3] at jl; omega⟩, rfl, _, nofun, k⟩
theorem sc_w_text : FnScope ["self", "pair", "stretch"] ["self"] (defScope (inClass (topS 27) 4)) := ⟨rfl, rfl, rfl, by decide +kernel, rfl, by decide +kernel, by decide +kernel⟩
theorem ok_w_text {f : Addr} {fd : FuncData} {q : Str} (F : FunD K "text" q (defArgs (inClass (topS 27) 4)) (defBody (inClass (topS 27) 4)) (defScope (inClass (topS 27) 4)) [] [] f fd) (WC : WebC K C) (T : Txt mg) (cstretches_text : C8.Cal P w K mg base 1 "stretches_text" (SpD false RStx) []) : FnOk P w K mg base CX0 2 f fd ["self"] (SpD false (RTx C)) := by
  have nd := sc_w_text.nd
  refine funD_dl F sc_w_text (by decide) (by rintro n rs K ⟨_, _, _, rfl, _⟩; exact ⟨rfl, rfl⟩) fun cdv A outer s H E hr => ?_
  have hu64 := hr.units
  refine ⟨_, (xss_one (xs_ret (x_m1 (pe_m1 PySem.F.slot_str_join PySem.F.type_str_join mt_join (xe_c pe_str (fun _ _ => .str _ (by decide))) (xe_lst (xa_cons (xe_fld (xe_v (pv 0)) WC.c WC.n1) (xa_star (xe_lc (own := [("pair", 1), ("stretch", 2)]) rfl nd (xi_tup (xe_fld (xe_v (pv 0)) WC.c WC.n2)) (blkOk_by (N := ["self", "pair", "stretch"]) (sc := defScope (inClass (topS 27) 4)) (by decide +kernel)) (fun _ _ _ _ _ => (xg_t (pg_tup (by rfl) (xgs_cons (xg_n (pg_name (i := 1) nd rfl (.inl rfl))) (xgs_cons (xg_n (pg_name (i := 2) nd rfl (.inl rfl))) xgs_nil))))) (fun _ _ _ _ _ => xts_nil) (fun _ _ _ _ _ => (xe_js (pj_x (xe_v (pv 1)) (pj_c (pj_x (x_call (C8.pe_c cstretches_text hr (by decide) rfl (xa_cons (xe_lst (xa_cons (xe_v (pv 2)) xa_nil)) xa_nil)) (fun _ _ _ h => h)) pj_nil))))) (by decide)) xa_nil)))) ml_join))), ?_⟩
  rintro n as K ⟨Pr, x, ls, rfl, hP, g, k⟩
  have l10 := g.l10
  have lx := g.len
  have l3 : ((" " : Str)).length = 1 := by decide
  have l4 : (("\n" : Str)).length = 1 := by decide
  walk_at "xs"
  refine ⟨Pr, _, rfl, WebJ.pl.imp hP, rfl, ?_⟩
  refine lc_es ((ls.map lnW).map PyData.str) ?_
  refine ⟨_, rfl, Pr, _, rfl, WebJ.ts.imp hP, imm_ties, ?_⟩
  walk_at "xs"
  refine ⟨by rw [List.length_map, List.length_map, List.length_map], by rw [List.length_map]; omega, fun j d y hd hy => ?_, ?_⟩
  · obtain ⟨t, ht, rfl⟩ := mapget hd
    rw [List.getElem?_map, List.getElem?_map, ht] at hy
    cases hy
    have gt := tie_inv (g.tie t (List.mem_of_getElem? ht))
    have t2 := (isLet_inv gt.1).2.1
    have l := spW_len gt.2.2
    walk_at "xw"
    walk_at "xs"
    have e1 : Str.empty ++ t.1 ++ ((" " : Str)) ++ spW t.2 = lnW t := by rw [Str.empty_append, Str.append_assoc]; rfl
    have ej : Txt.join " " ([t.2].map spW) = spW t.2 := rfl
    have hL : (lnW t).length ≤ 16 := by unfold lnW; rw [Str.length_append, Str.length_append]; omega
    refine ⟨by rw [Str.empty_append]; omega, by rw [Str.empty_append, Str.length_append]; omega, _, rfl, _, rfl, Nat.le_of_ble_eq_true rfl, _, 0, rfl, nofun, [t.2], rfl, Nat.le_of_ble_eq_true rfl, Nat.le_of_ble_eq_true rfl, fun q hq => ?_, rfl, _, rfl, ?_⟩
    · cases List.mem_singleton.mp hq
      exact gt.2.2
    rw [ej, e1]
    exact ⟨by omega, by omega, _, rfl, rfl, rfl⟩
  have hJ : ∀ (a : Str) (xs : List Str), fJoin (.str a) (.list (xs.map PyData.str)) = some (a.length ≤ 10 ∧ (Txt.join a xs).length ≤ 1000, .d (.str (Txt.join a xs))) := fun a xs => by
    show (strsO (xs.map PyData.str)).map _ = _
    rw [strsO_map]
    rfl
  have pl := g.page
  have hk : kps (RV.d (PyData.str x) :: (List.map RV.d ((ls.map lnW).map PyData.str) ++ [])) = some ((x :: ls.map lnW).map PyData.str) := by
    rw [List.append_nil]
    exact kps_ds (PyData.str x :: (ls.map lnW).map PyData.str)
  refine ⟨_, .inl rfl, _, hk, by rw [List.length_map, List.length_cons, List.length_map]; omega, _, _, _, rfl, rfl, hJ _ _, ⟨by decide, by have : Txt.join "\n" (x :: ls.map lnW) = pageW x ls := rfl; rw [this]; omega⟩, rfl, _, nofun, k⟩
end
end Cs
set_option maxHeartbeats 4000000
/-! Rules of my own: bool, == and != of an own object and anything; own methods and classmethods called by keywords. -/
namespace Cs
open PySem L2 PyProof.Rows
/-! ### the machine's part -/
section
variable {prog : Program} {w : World} {A : Around} {E : Value → Shared → Prop} {s : Shared} {K : PySem.W.Frag} {x C L f : Addr} {h₀ : Heap} {m : Str → Option Value} {ox : Obj} {od : Option Obj}
/-- truth by an own __len__ -/
theorem truthy_len {Q : Bool → Shared → Prop} (F : Fr h₀ L s.heap m) (X₀ : K.In h₀) (I : PySem.W.InstAt s.heap x ox C od) (hb : PySem.W.findIn K (.ref C) "__bool__" = some none) (hs : PySem.W.findIn K (.ref C) "__len__" = some (some (.ref f))) (hf : PySem.W.isFn K (.ref f) = true)
    (h : wpAny (model prog w) A.in1 (call (.ref f) [.ref x]) (PySem.W.LenBack fun v s' => ∃ n u, v = .int n u ∧ Q (n != 0) s') E s) : wpAny (model prog w) A (truthy (.ref x)) Q E s := by
  have X := X₀.keeps F.keep
  have key : wpAny (model prog w) A (runValue (.builtin "len" ⟨[.ref x], []⟩)) (fun r s' => ∃ n u, r = .int n u ∧ Q (n != 0) s') E s := by
    refine wpAny_runValue (codeAny_builtin PySem.entry_len ?_)
    rw [Around.under_plainId PySem.plain_len _]
    unfold Builtin.«len»
    refine wpAny_bind (m := oneArg "len" _) (wpAny_pure ?_)
    refine wpAny_bind (m := callSpecial? (.ref x) (Str.ofString "__len__")) (PySem.W.special_fn X I hs (beq_iff_eq.mp hf) (wpAny_mono h (fun r s' hr => ?_) fun _ _ y => y))
    cases r <;> first | exact hr.elim | skip
    rename_i n u
    obtain ⟨⟨h0, h1⟩, hq⟩ := hr
    refine wpAny_bind (wpAny_holding (wpAny_pure ?_))
    refine wpAny_bind (wpAny_letGo ?_)
    show wpAny _ _ (if n < 0 then _ else _) _ _ _
    rw [if_neg (by omega)]
    show wpAny _ _ (if n ≥ 2 ^ 63 then _ else _) _ _ _
    rw [if_neg (by omega)]
    refine wpAny_bind (wpAny_mkInt (wpAny_pure ?_))
    obtain ⟨n', u', e, q⟩ := hq
    cases e
    exact ⟨_, _, rfl, q⟩
  have hsp : ∀ {Q' : Option Value → Shared → Prop}, Q' (some (.ref f)) s → wpAny (model prog w) A (specialOf (.ref x) "__len__") Q' E s := fun q => by
    unfold specialOf
    exact wpAny_bind (I.type.here ((PySem.W.looks_findIn X hs).here q))
  unfold truthy
  first
    | refine wpAny_bind (DSub.special_no (name := Str.ofString "__bool__") X I hb ?_)
    | refine wpAny_bind (wpAny_pure (wpAny_bind (DSub.special_no (name := Str.ofString "__bool__") X I hb ?_)))
  first
    | refine wpAny_bind (hsp ?_)
    | refine wpAny_bind (wpAny_pure (wpAny_bind (hsp ?_)))
  first
    | exact wpAny_bind (wpAny_mono key (fun r s' h' => by obtain ⟨n, u, rfl, hq⟩ := h'; exact wpAny_pure hq) fun _ _ e => e)
    | exact wpAny_bind (wpAny_pure (wpAny_bind (wpAny_mono key (fun r s' h' => by obtain ⟨n, u, rfl, hq⟩ := h'; exact wpAny_pure hq) fun _ _ e => e)))
theorem meets_bool_own : PySem.MeetsIn prog w (Builtin.«bool.__new__» ⟨[.type "bool", .ref x], []⟩) (fun A R s => wpAny (model prog w) A.in1 (truthy (.ref x)) (fun b s' => R (.ok (.ret (.bool b))) s') (fun e s' => R (.error e) s') s) :=
  .of_wp fun A R s h => by
    have f1 := F.conv_sub_bool
    repeat (any_goals (first | assumption | (with_reducible refine wpAny_mono h (fun b s' q => ?_) fun _ _ e => e) | wp_step))
    all_goals first | exact ⟨_, rfl, q⟩ | skip
end
end Cs
namespace Cs
open PySem L2 PyProof.Rows
section
variable {prog : Program} {w : World} {A : Around} {E : Value → Shared → Prop} {s : Shared} {K : PySem.W.Frag} {x C L f : Addr} {h₀ : Heap} {m : Str → Option Value} {ox : Obj} {od : Option Obj} {b tb : Value}
theorem call_bool_own {Q : Value → Shared → Prop} (h : wpAny (model prog w) A.in1.in1 (truthy (.ref x)) (fun b s' => Q (.bool b) s') E s) : wpAny (model prog w) A (call (.type "bool") [.ref x]) Q E s :=
  callType_newIn F.called_bool F.newNe_bool (F.typeCall_bool_1 _) (F.newCall_bool_1 _) (fun obj => F.args_object_init_2 obj _) F.entry_bool_new meets_bool_own
    (wpAny_mono h (fun _ _ q => ⟨rfl, q⟩) fun _ _ q => q)
theorem looks_ty {o : Obj} {a : Addr} (h : s.heap.get? a = some o) : PySem.W.Looks (model prog w) s.heap (typeOf (.ref a)) o.cls := (PySem.W.Looks.ld h).andThen .now
/-- a special method that is a slot of object, read off an own instance -/
theorem ifBound_slot {name : Str} {id : String} {args : List Value} {Q : Option Value → Shared → Prop} (S : PySem.Slot "object" name id) (X : K.In s.heap) (I : PySem.W.InstAt s.heap x ox C od) (hs : PySem.W.findIn K (.ref C) name = some (some (.builtin id)))
    (h : wpAny (model prog w) A (call (.builtin id) (.ref x :: args)) (fun v => Q (some v)) E s) : wpAny (model prog w) A (callSpecialIfBound? (.ref x) name args) Q E s := by
  simp only [callSpecialIfBound?, bindSpecialIfBound?]
  refine wpAny_holding (wpAny_bind (wpAny_bind (wpAny_bind (I.type.here ((PySem.W.looks_findIn X hs).here ?_)))))
  simp only [S.bind]
  refine wpAny_bind (wpAny_askSetting (wpAny_ite ?_))
  have fin : wpAny (model prog w) A (call (.builtin id) ([.ref x] ++ args) >>= fun v => pure (some v)) Q E s := wpAny_bind (wpAny_mono h (fun v s' h' => wpAny_pure h') fun _ _ h' => h')
  split
  · exact wpAny_bind (wpAny_pure (wpAny_pure fin))
  · exact wpAny_tryCatch (wpAny_bind (wpAny_pure (wpAny_pure fin)))
theorem objNe_own {Q : Fin → Shared → Prop} (hu : A.units < cLine) (X : K.In s.heap) (I : PySem.W.InstAt s.heap x ox C od) (hs : PySem.W.findIn K (.ref C) "__eq__" = some (some (.ref f))) (hf : PySem.W.isFn K (.ref f) = true)
    (h : wpAny (model prog w) A (call (.ref f) [.ref x, b]) (fun v s' => ∃ z, v = .bool z ∧ Q (.done (.ret (.bool (!z)))) s') E s) : wpAny (model prog w) A (Builtin.«object.__ne__» ⟨[.ref x, b], []⟩) Q E s := by
  unfold Builtin.«object.__ne__»
  repeat (first
    | with_reducible refine wpAny_cRoomFor hu ?_
    | (refine wpAny_bind (m := callSpecialIfBound? (.ref x) (Str.ofString "__eq__") [b])
        (PySem.W.ifBound_K X I hs hf (wpAny_mono h (fun r s' hr => by
          obtain ⟨z, rfl, hq⟩ := hr
          repeat (first | exact hq | exact wpAny_pure hq | exact wpAny_truthy_bool hq | (refine wpAny_bind (m := truthy (.bool _)) (wpAny_truthy_bool ?_)) | wp_step)) fun _ _ e => e)))
    | wp_step)
theorem cmpNe_own {Q : Value → Shared → Prop} (hu : A.units + 1 < cLine) (F : Fr h₀ L s.heap m) (X₀ : K.In h₀) (I : PySem.W.InstAt s.heap x ox C od) (hb : PySem.W.Looks (model prog w) s.heap (typeOf b) tb) (hn : PySem.W.notFirst K C tb = true)
    (hne : PySem.W.findIn K (.ref C) "__ne__" = some (some (.builtin "object.__ne__"))) (hob : PySem.W.subIn K (.ref C) (.type "object") = some true) (hs : PySem.W.findIn K (.ref C) "__eq__" = some (some (.ref f))) (hf : PySem.W.isFn K (.ref f) = true)
    (h : wpAny (model prog w) A.in1 (call (.ref f) [.ref x, b]) (fun v s' => ∃ z, v = .bool z ∧ Q (.bool (!z)) s') E s) : wpAny (model prog w) A (richCompare .NotEq (.ref x) b) Q E s := by
  have X := X₀.keeps F.keep
  have one : wpAny (model prog w) A (tryCompare (.ref x) (cmpInfo .NotEq).2.1 b) (fun r s' => ∃ v, r = some v ∧ Q v s') E s := by
    unfold tryCompare
    refine wpAny_bind (ifBound_slot PySem.F.cmp_object.ne X I hne (wpAny_call (codeAny_call_builtin PySem.F.cmp_object.ne.plain PySem.F.cmpEntry_ne
      (PySem.W.check_slot PySem.F.cmpKind_ne PySem.F.cmpSplit_ne (I.type.andThen (PySem.W.looks_subIn X hob)) (PySem.F.cmpArgs_ne _ _) (objNe_own (A := A.in1) hu X I hs hf (wpAny_mono h (fun v s' hv => ?_) fun _ _ e => e))))))
    obtain ⟨z, rfl, hq⟩ := hv
    first | exact ⟨z, rfl, wpAny_pure ⟨_, rfl, hq⟩⟩ | exact ⟨z, rfl, ⟨_, rfl, hq⟩⟩
  unfold richCompare
  simp only [oneThing_ref]
  refine wpAny_holding (wpAny_bind (wpAny_cRoomFor (Nat.lt_of_succ_lt hu) ?_))
  refine wpAny_bind (I.type.here (wpAny_bind (hb.here ?_)))
  split
  · rename_i q
    have e : PySem.W.subIn K tb (.ref C) = some false := by
      rcases Bool.or_eq_true_iff.mp hn with e | e
      · rw [beq_iff_eq.mp e] at q; simp at q
      · exact beq_iff_eq.mp e
    refine wpAny_bind ((PySem.W.looks_subIn X e).here ?_)
    simp only [Bool.false_eq_true, if_false]
    refine wpAny_bind (wpAny_mono one (fun r s' z => ?_) fun _ _ e => e)
    obtain ⟨v, rfl, hq⟩ := z
    exact wpAny_pure hq
  · refine wpAny_bind (wpAny_pure ?_)
    simp only [Bool.false_eq_true, if_false]
    refine wpAny_bind (wpAny_mono one (fun r s' z => ?_) fun _ _ e => e)
    obtain ⟨v, rfl, hq⟩ := z
    exact wpAny_pure hq
end
section
variable {X : Cx} {CX : CXT} {k : Nat} {g C : Addr} {fd : FuncData} {ps : List Str} {sp : Sp} {E : XK}
theorem notFirst_ty {K : PySem.W.Frag} {C : Addr} (d : PyData) : PySem.W.notFirst K C (.type (tyD d)) = true := by
  cases d <;> rfl
theorem notFirst_own {K : PySem.W.Frag} {C : Addr} : PySem.W.notFirst K C (.ref C) = true := by
  unfold PySem.W.notFirst
  rw [beq_self_eq_true]
  rfl
theorem looks_rp {pins : List (Addr × Obj)} {σ : L2.St} {H : Hp} {s : Shared} {p : Addr} {v : V} {u : Value} {d : PyData} (I : L2.Inv X pins σ H s) (r : Rp p H v d) (ru : RelV v u) : PySem.W.Looks (model X.prog X.w) s.heap (typeOf u) (.type (tyD d)) := by
  cases r with
  | non => cases (show u = Value.none from ru); exact .now
  | bl b => cases (show u = Value.bool b from ru); exact .now
  | int i => obtain ⟨t, q⟩ := (show ∃ t, u = Value.int i t from ru); cases q; exact .now
  | str x => obtain ⟨t, q⟩ := (show ∃ t, u = Value.str x t from ru); cases q; exact .now
  | @lst a xs ds n h z r =>
    cases (show u = Value.ref a from ru)
    obtain ⟨_, _, n, _, h1⟩ := (show ObjOk X.prog X.w H s.heap a (.lst xs) from I.hok a _ h)
    exact looks_ty h1
  | @tup a xs ds n h z r =>
    cases (show u = Value.ref a from ru)
    rcases h with h | ⟨o, h⟩
    · obtain ⟨_, _, _, o, h1, h2, _⟩ := (show ObjOk X.prog X.w H s.heap a (.tup xs) from I.hok a _ h)
      have := looks_ty (prog := X.prog) (w := X.w) h1
      rw [h2] at this
      exact this
    · obtain ⟨_, _, _, _, o, h1, h2, _⟩ := (show ObjOk X.prog X.w H s.heap a (.frz _ (.tup xs)) from I.hok a _ h)
      have := looks_ty (prog := X.prog) (w := X.w) h1
      rw [h2] at this
      exact this
  | @dct a n h =>
    cases (show u = Value.ref a from ru)
    obtain ⟨_, _, vs, _, o, es, ep, h1, h2, _⟩ := (show ObjOk X.prog X.w H s.heap a (.dK []) from I.hok a _ h)
    have := looks_ty (prog := X.prog) (w := X.w) h1
    rw [h2.1] at this
    exact this
/-- what stands on the right of == -/
def OthV (C : Addr) (y : V) (H : Hp) : Prop := (∃ p d, Rp p H y d) ∨ ∃ b dy gs, y = .ref b ∧ H b = some (.ins C dy gs)
theorem OthV.looks {pins : List (Addr × Obj)} {σ : L2.St} {H : Hp} {s : Shared} {v : V} {u : Value} (h : OthV C v H) (I : L2.Inv X pins σ H s) (ru : RelV v u) : ∃ tb, PySem.W.Looks (model X.prog X.w) s.heap (typeOf u) tb ∧ PySem.W.notFirst X.K C tb = true := by
  rcases h with ⟨p, d, r⟩ | ⟨b, dy, gs, rfl, hb⟩
  · exact ⟨_, looks_rp I r ru, notFirst_ty d⟩
  · cases ru
    obtain ⟨mB, J', _⟩ := ins_get I.hok hb
    obtain ⟨od', J', _⟩ := J'.look
    exact ⟨_, J'.type, notFirst_own⟩
def rEqA (neg : Bool) (C : Addr) (sp : Sp) (E : XK) : R2 := fun x y H Q => ∃ (a dx : Addr) (fs : List (Str × V)), x = .ref a ∧ H a = some (.ins C dx fs) ∧ OthV C y H ∧ sp [.ref a, y] H (fun v H' => ∃ z : Bool, v = .bl z ∧ Q (.bl (if neg then !z else z)) H') E
theorem op_eqA (F : FnOk X.prog X.w X.K X.mg X.base CX k g fd ps sp) (hr : Room k X.A) (hb : Binds X.K fd ps []) (hx : Passes CX X E) (hs : PySem.W.findIn X.K (.ref C) "__eq__" = some (some (.ref g))) (hf : PySem.W.isFn X.K (.ref g) = true) :
    OpR X (compareOp .Eq) (rEqA false C sp E) := by
  rintro pins s σ H x y v u Q I rx ry ⟨a, dx, fs, rfl, ha, ho, q⟩
  cases rx
  obtain ⟨mA, J, _⟩ := ins_get I.hok ha
  obtain ⟨od, J, _⟩ := J.look
  obtain ⟨m, hF⟩ := I.fr
  obtain ⟨tb, L, nf⟩ := ho.looks I ry
  show wpAny (model X.prog X.w) X.A (richCompare .Eq (.ref a) u) (EP X pins σ Q) X.xe s
  refine PySem.W.cmp_K (op := .Eq) (tb := tb) hr.units0 hF I.ok.mod.kin J L nf hs hf (wpAny_mono (run_at (vs := [.ref a, y]) ⟨hr, rfl⟩ F hb hx I (.cons rfl (.cons ry .nil)) q) (fun v s' hv => ?_) fun _ _ e => e)
  obtain ⟨x, H', I', rx, z, rfl, q'⟩ := hv
  cases rx
  exact ⟨.bl z, H', I', rfl, q'⟩
theorem op_neA (F : FnOk X.prog X.w X.K X.mg X.base CX k g fd ps sp) (hr : Room (k + 1) X.A) (hb : Binds X.K fd ps []) (hx : Passes CX X E) (hne : PySem.W.findIn X.K (.ref C) "__ne__" = some (some (.builtin "object.__ne__"))) (hob : PySem.W.subIn X.K (.ref C) (.type "object") = some true)
    (hs : PySem.W.findIn X.K (.ref C) "__eq__" = some (some (.ref g))) (hf : PySem.W.isFn X.K (.ref g) = true) : OpR X (compareOp .NotEq) (rEqA true C sp E) := by
  rintro pins s σ H x y v u Q I rx ry ⟨a, dx, fs, rfl, ha, ho, q⟩
  cases rx
  obtain ⟨mA, J, _⟩ := ins_get I.hok ha
  obtain ⟨od, J, _⟩ := J.look
  obtain ⟨m, hF⟩ := I.fr
  obtain ⟨tb, L, nf⟩ := ho.looks I ry
  show wpAny (model X.prog X.w) X.A (richCompare .NotEq (.ref a) u) (EP X pins σ Q) X.xe s
  refine cmpNe_own (by have := hr.units; omega) hF I.ok.mod.kin J L nf hne hob hs hf (wpAny_mono (run_at (vs := [.ref a, y]) (Sub.in1 ⟨hr, rfl⟩) F hb hx I (.cons rfl (.cons ry .nil)) q) (fun v s' hv => ?_) fun _ _ e => e)
  obtain ⟨x, H', I', rx, z, rfl, q'⟩ := hv
  cases rx
  exact ⟨z, rfl, .bl (!z), H', I', rfl, q'⟩
def rBoolI (C : Addr) (sp : Sp) (E : XK) : List V → Hp → VK → Prop := fun xs H Q => ∃ (a dx : Addr) (fs : List (Str × V)), xs = [.ref a] ∧ H a = some (.ins C dx fs) ∧ sp [.ref a] H (fun v H' => ∃ n : Nat, v = .int (n : Nat) ∧ n < 1000000 ∧ Q (.bl (n != 0)) H') E
theorem call_boolI (F : FnOk X.prog X.w X.K X.mg X.base CX k g fd ps sp) (hr : Room (k + 3) X.A) (hb : Binds X.K fd ps []) (hx : Passes CX X E) (hbo : PySem.W.findIn X.K (.ref C) "__bool__" = some none) (hs : PySem.W.findIn X.K (.ref C) "__len__" = some (some (.ref g))) (hf : PySem.W.isFn X.K (.ref g) = true) :
    CallR X (.type "bool") (rBoolI C sp E) := by
  rintro pins s σ H xs us Q I r ⟨a, dx, fs, rfl, ha, q⟩
  obtain ⟨u, rfl, ru⟩ := r.one
  cases ru
  obtain ⟨mA, J, _⟩ := ins_get I.hok ha
  obtain ⟨od, J, _⟩ := J.look
  obtain ⟨m, hF⟩ := I.fr
  refine call_bool_own (truthy_len hF I.ok.mod.kin J hbo hs hf (wpAny_mono (run_at (vs := [.ref a]) (Sub.in1 (Sub.in1 (Sub.in1 ⟨hr, rfl⟩))) F hb hx I (.cons rfl .nil) q) (fun v s' hv => ?_) fun _ _ e => e))
  obtain ⟨x, H', I', rx, n, rfl, hn, q'⟩ := hv
  obtain ⟨t, rfl⟩ := rx
  refine ⟨⟨by omega, by omega⟩, _, _, rfl, .bl (n != 0), H', I'.tok _, ?_, q'⟩
  show Value.bool _ = Value.bool _
  congr 1
  cases n <;> simp <;> omega
end
/-! ### own methods and classmethods called by keywords alone -/
/-- o.m(k = v, ..) -/
def tMethK (C : Addr) (m : Str) (n : Nat) (sp : Sp) (gV : List V → List V → List V) (E : XK) (ta : TE) (tk : TA) : TE := fun σ H Q => ta σ H fun x H1 => ∃ a dx fs, x = .ref a ∧ H1 a = some (.ins C dx fs) ∧ fs.lookup m = none ∧ tk σ H1 fun zs H2 => zs.length = n ∧ sp (gV [.ref a] zs) H2 Q E
section
variable {X : Cx} {CX : CXT} {k : Nat} {C p g f : Addr} {mc : Value} {fd : FuncData} {ps ks : List Str} {sp : Sp} {E : XK} {o : Expr} {m : Str} {pos apos : Pos} {ta : TE} {tk : TA} {pl : Sem Bool} {kws : List Keyword} {gg : List Value → List Value → List Value} {gV : List V → List V → List V}
theorem pe_methK (he : PE X o ta) (c : Cls X.K C) (hm : Meth X.K C m f) (F : FnOk X.prog X.w X.K X.mg X.base CX k f fd ps sp) (hr : Room k X.A) (hb : KBn X.K fd ps 1 ks gg gV) (hx : Passes CX X E) (hkw : PK X kws tk)
    (hall : (backToKw pos (keywordEach kws X.env)).all (·.1.isSome) = true := by rfl) (hks : (backToKw pos (keywordEach kws X.env)).filterMap (·.1) = ks := by rfl)
    (hpl : ((backTo pos (starEach [] X.env)).any (·.1) || (backToKw pos (keywordEach kws X.env)).any (·.1.isNone)) = false := by rfl)
    (ht : eval (.Call (.Attribute o m apos) [] kws pos) X.env = (do
      let ov ← eval o X.env
      standAt apos.atName
      let (f, first) ← holding [ov] (getMethod ov m pl)
      callWith pos f first (backTo pos (starEach [] X.env)) (backToKw pos (keywordEach kws X.env))) := by rfl) :
    PE X (.Call (.Attribute o m apos) [] kws pos) (tMethK C m ks.length sp gV E ta tk) := by
  refine ⟨fun pins s σ H Q I h => ?_⟩
  refine PySem.W.methodCall_KW (pl := pl) (thn (he.run pins s σ H _ I h) fun u s1 ⟨x, H1, I1, rx, a, dx, fs, ex, ea, l, q⟩ => ?_) ht
  subst ex
  obtain rfl : u = Value.ref a := rx
  refine getmeth_ok I1 ea c hm l ?_
  refine PySem.W.callWith_KW0 (first := [.ref a]) (h₀ := X.base) I.ok.mod.kin hm.kp hall ?_ hpl
  refine thn (hkw.run pos pins s1 σ H1 _ I1 q) fun ws s2 ⟨zs, H2, I2, rz, l2, q2⟩ => ⟨I2.kIn, ?_⟩
  rw [hks]
  exact run_fnN (us := [.ref a]) (vs := [.ref a]) F hr hb hx I2 (.cons rfl .nil) rz rfl l2 q2
def tCMethK (C : Addr) (n : Nat) (sp : Sp) (gV : List V → List V → List V) (E : XK) (ta : TE) (tk : TA) : TE := fun σ H Q => ta σ H fun x H1 => x = .ref C ∧ tk σ H1 fun zs H2 => zs.length = n ∧ sp (gV [.ref C] zs) H2 Q E
/-- C.m(k = v), m a classmethod -/
theorem pe_cmethK (he : PE X o ta) (r : ClX.CRead X.K C mc) (c : ClX.CMet X.K C mc m p g) (F : FnOk X.prog X.w X.K X.mg X.base CX k g fd ps sp) (hr : Room k X.A) (hb : KBn X.K fd ps 1 ks gg gV) (hx : Passes CX X E) (hkw : PK X kws tk)
    (hall : (backToKw pos (keywordEach kws X.env)).all (·.1.isSome) = true := by rfl) (hks : (backToKw pos (keywordEach kws X.env)).filterMap (·.1) = ks := by rfl)
    (hpl : ((backTo pos (starEach [] X.env)).any (·.1) || (backToKw pos (keywordEach kws X.env)).any (·.1.isNone)) = false := by rfl)
    (ht : eval (.Call (.Attribute o m apos) [] kws pos) X.env = (do
      let ov ← eval o X.env
      standAt apos.atName
      let (f, first) ← holding [ov] (getMethod ov m pl)
      callWith pos f first (backTo pos (starEach [] X.env)) (backToKw pos (keywordEach kws X.env))) := by rfl) :
    PE X (.Call (.Attribute o m apos) [] kws pos) (tCMethK C ks.length sp gV E ta tk) := by
  refine ⟨fun pins s σ H Q I h => ?_⟩
  refine PySem.W.methodCall_KW (pl := pl) (thn (he.run pins s σ H _ I h) fun u s1 ⟨x, H1, I1, rx, ex, q⟩ => ?_) ht
  subst ex
  obtain rfl : u = Value.ref C := rx
  refine ClX.getmethcm_ok I1 r c fun s2 I2 => ?_
  refine PySem.W.callWith_of (P := PySem.W.MethP X.K s1.heap.objs.size g (.ref C)) hpl (PySem.W.keeps_M c.fi) (evalArgs_kw2_nil hall ?_)
  refine thn (hkw.run pos _ s2 σ H1 _ I2 q) fun ws s3 ⟨zs, H2, I3, rz, l2, q2⟩ => ⟨⟨ClX.pin_at I3, I3.kIn⟩, ?_⟩
  rw [hks]
  have hpin := ClX.pin_at I3
  have I3' := ClX.unpin I3
  have r2 := hb.rel (vs := [.ref C]) (us := [.ref C]) (.cons rfl .nil) rz
  refine wpAny_call (PySem.W.method_call hpin (codeAny_mono (F.run X.A X.stack s3 H2 ⟨[.ref C], ks.zip ws⟩ (gg [.ref C] ws) (gV [.ref C] zs) Q E hr I3'.env0 (hb.to s3 [.ref C] ws I3.kIn rfl (rz.length.symm.trans l2)) r2 q2) fun r s' hq => ?_))
  cases r with
  | error e => exact hx pins σ H2 s3 e s' I3' hq
  | ok fl =>
    cases fl with
    | ret u => exact I3'.after hq
    | next => exact False.elim hq
    | brk => exact False.elim hq
    | cont => exact False.elim hq
end
end Cs
set_option maxHeartbeats 4000000
/-! Lists of objects and data: made, walked by a comprehension. -/
namespace Cs
open PySem L2 PyProof.Rows
abbrev Pr : Type := V → Hp → Prop
/-- data that stands by itself -/
def DaP (d : PyData) : Pr := fun v H => Dn NF H v d
/-- neither a list nor a table of code -/
def NLs (o : HO) : Prop := (∀ xs, o ≠ .lst xs) ∧ ∀ ps, o ≠ .tbl ps
/-- what no change of lists touches -/
def Sld (P : Pr) : Prop := ∀ x H H', P x H → (∀ b o, NLs o → H b = some o → H' b = some o) → P x H'
theorem dn_sld {H H' : Hp} {v : V} {d : PyData} (i : imm d = true) (h : Dn NF H v d) (k : ∀ b o, NLs o → H b = some o → H' b = some o) : Dn NF H' v d := by
  have nt : ∀ a xs, Rd H a (.tup xs) → ¬ Ls H a := fun a xs h z => by
    rcases z with ⟨ys, e⟩ | ⟨ys, e⟩ <;> rcases h with h | ⟨o, h⟩ <;> (rw [e] at h; cases h)
  have h1 : Dn (Ls H) H v d := h.imm nt i
  exact (h1.go (N' := Ls H) ⟨fun _ h => .inl h, fun b o n q => k b o ⟨fun xs e => n (.inl ⟨xs, by rw [q, e]⟩), fun xs e => n (.inr ⟨xs, by rw [q, e]⟩)⟩ q⟩).imm (fun _ _ _ z => z) i
theorem dap_sld {d : PyData} (i : imm d = true) : Sld (DaP d) := fun x H H' h k => dn_sld i h k
theorem sld_stb {N : Addr → Prop} {H : Hp} {P : Pr} {x : V} (s : Sld P) (ha : ∀ a, N a → Ls H a) (h : P x H) : Stb N H P x := fun H' k => s x H H' h fun b o n q => k b o (fun z => by
  rcases ha b z with ⟨xs, e⟩ | ⟨xs, e⟩
  · rw [q] at e
    cases e
    exact n.1 xs rfl
  · rw [q] at e
    cases e
    exact n.2 xs rfl) q
def LsP (Ps : List Pr) : Pr := fun v H => ∃ a vs, v = .ref a ∧ H a = some (.lst vs) ∧ vs.length = Ps.length ∧ ∀ (i : Nat) (P : Pr) (x : V), Ps[i]? = some P → vs[i]? = some x → P x H
def oas : List RV → Option (List Pr)
  | [] => some []
  | .o P :: rs => (oas rs).map (P :: ·)
  | .d d :: rs => if imm d = true then (oas rs).map (DaP d :: ·) else none
  | _ => none
theorem dap_stb {M : Addr → Prop} {H : Hp} {v : V} {d : PyData} (nt : ∀ a xs, Rd H a (.tup xs) → ¬ M a) (h : Dn M H v d) (i : imm d = true) : Stb M H (DaP d) v := fun H' k => (h.go (N' := M) ⟨fun _ h => .inl h, k⟩).imm (fun _ _ _ z => z) i
section
variable {Γ : Ga} {ε ε2 : List AV} {T T2 : Addr → Prop} {σ : L2.St} {H H2 : Hp} {X : Cx}
theorem Rep.alls (R : Rep Γ ε T σ H) : ∀ a, Mx Γ ε T σ a → Ls H a := fun a m => by
  rcases R.lists a m with rfl | h
  · exact .inl R.hp
  · exact h
theorem oas_stb (nt : ∀ a xs, Rd H2 a (.tup xs) → ¬ Mx Γ ε2 T2 σ a) : ∀ {rs : List RV} {vs : List V} {Ps : List Pr}, DenA Γ ε2 T2 σ H rs vs H2 → oas rs = some Ps → vs.length = Ps.length ∧ ∀ (i : Nat) (P : Pr) (x : V), Ps[i]? = some P → vs[i]? = some x → Stb (Mx Γ ε2 T2 σ) H2 P x
  | [], _, _, d, e => by
    cases d
    cases e
    exact ⟨rfl, fun i P x h => by simp at h⟩
  | r :: rs, _, _, .cons (v := v) (vs := vs) d t _, e => by
    have key : ∃ P Ps, Stb (Mx Γ ε2 T2 σ) H2 P v ∧ oas rs = some Ps ∧ oas (r :: rs) = some (P :: Ps) := by
      cases r with
      | o P =>
        obtain ⟨Ps, e1, e2⟩ := Option.map_eq_some_iff.mp e
        exact ⟨P, Ps, d, e1, by rw [e, e2]⟩
      | d x =>
        have e0 : (if imm x = true then (oas rs).map (DaP x :: ·) else none) = some _ := e
        split at e0
        · rename_i ix
          obtain ⟨Ps, e1, e2⟩ := Option.map_eq_some_iff.mp e0
          exact ⟨DaP x, Ps, dap_stb nt d ix, e1, by rw [e, e2]⟩
        · cases e0
      | f xs => cases e
      | b x => cases e
      | p => cases e
    obtain ⟨P, Ps, s, e1, e2⟩ := key
    rw [e2] at e
    cases e
    obtain ⟨l, k⟩ := oas_stb nt t e1
    refine ⟨by rw [List.length_cons, List.length_cons, l], fun i Q x h1 h2 => ?_⟩
    cases i with
    | zero =>
      cases h1
      cases h2
      exact s
    | succ i => exact k i Q x h1 h2
def xLstO (a : XA) : XE := ⟨fun ε K => a.run ε fun rs ε' => ∃ Ps, oas rs = some Ps ∧ Ps.length ≤ 1000 ∧ K (.o (LsP Ps)) ε', fun h q => a.mono (fun _ _ ⟨ds, e, l, k⟩ => ⟨ds, e, l, h _ _ k⟩) q⟩
theorem xe_lstO {es : List Expr} {k : Pos} {a : XA} (ha : PA X es (upA a)) : PE X (.List es k) (up (xLstO a)) :=
  pe_wk (pe_lst ha) fun σ H Q ⟨Γ, ε, T, R, h⟩ => upA1 R h fun rs xs ε2 T2 H2 ⟨Ps, e, hl, g⟩ R2 s2 d2 => by
    obtain ⟨l, st⟩ := oas_stb (no_tup R2.lists (not_tup R2.hp)) d2 e
    refine ⟨sz1000 (by rw [l]; exact hl), fun t ht => ?_⟩
    have sm := same_new (o := .lst xs) ht
    have nt := R2.not_x ht
    refine g (.ref t) T2 _ (R2.same sm) (s2.same sm) fun H' k' => ⟨t, xs, rfl, k' _ _ nt upd_same, l, fun i P x h1 h2 => st i P x h1 h2 H' fun b o n q => k' b o n (sm _ _ q)⟩
end
/-! ### one of such, in a slot -/
def El (N : Addr → Prop) (H : Hp) (r : RV) (v : V) : Prop := match r with
  | .d d => Dn N H v d
  | .o P => Stb N H P v
  | _ => False
theorem El.go {N N' : Addr → Prop} {H H' : Hp} (e : Fit2 N N' H H') {r : RV} {v : V} (h : El N H r v) : El N' H' r v := by
  cases r with
  | d x => exact Dn.go e h
  | o P => exact Stb.go e h
  | f x => exact h
  | b x => exact h
  | p => exact h
def elA : RV → AV
  | .d x => .d x
  | .o P => .o P
  | _ => .u
structure XIo where
  run : List AV → (List RV → Bool → List AV → Prop) → Prop
  mono : ∀ {ε : List AV} {K K' : List RV → Bool → List AV → Prop}, (∀ r b e, K r b e → K' r b e) → run ε K → run ε K'
structure ItOkO (p : Addr) (J : It) (A : (Addr → Prop) → Hp → Prop) (ds : List RV) (fl : Bool) : Prop where
  st : ∀ N N' H H', Fit2 N N' H H' → (fl = false → ∀ b o, b ≠ p → (∀ ps, o ≠ .tbl ps) → H b = some o → H' b = some o) → A N H → A N' H'
  stop : ∀ N H, A N H → J.stop ds.length H
  go : ∀ N H i d, (∀ a, N a → Ls H a) → A N H → ds[i]? = some d → J.go i H ∧ ∀ x H', J.yld i H x H' → Same H H' ∧ El N H' d x
def upIo (t : XIo) : TI := fun σ H R => ∃ Γ ε T, Rep Γ ε T σ H ∧ t.run ε fun ds fl ε' => ∀ J A T' H', Rep Γ ε' T' σ H' → Stp Γ ε T ε' T' σ H H' → ItOkO Γ.p J A ds fl → A (Mx Γ ε' T' σ) H' → R J H'
def upGo (i : Nat) : TG := fun v σ H Q => ∃ Γ ε T r, Rep Γ ε T σ H ∧ El (Mx Γ ε T σ) H r v ∧ GK Γ ε T σ H [i] Q (ε.set i (elA r))
theorem xg_o {X : Cx} {tg : Expr} {i : Nat} (h : PG X tg (gName i)) : PG X tg (upGo i) := pg_wk h fun v σ H Q ⟨Γ, ε, T, r, R, dn, k⟩ => by
  have key : Slot Γ (Mx Γ ε T σ) H (elA r) (some (some v)) := by
    cases r with
    | d x => exact ⟨v, rfl, dn⟩
    | o P => exact ⟨v, rfl, dn⟩
    | f x => exact dn.elim
    | b x => exact dn.elim
    | p => exact dn.elim
  obtain ⟨R', mx⟩ := R.put (i := i) (e := elA r) (v := v) key (fun _ => by cases r <;> nofun)
  exact k _ R' mx List.length_set fun j hj => by rw [List.getElem?_set_ne fun z : i = j => hj (z ▸ List.mem_cons_self)]
def turnO (gi : Nat) (tt : XT) (te : XE) (vs : List Nat) (r : RV) (ε : List AV) (Y : PyData → List AV → Prop) (Nn : List AV → Prop) : Prop :=
  tt.run (ε.set gi (elA r)) fun b ε3 => if b = true then te.run ε3 fun r ε4 => ∃ x, r.kp = some x ∧ Y x (wipeA ε4 vs) else Nn (wipeA ε3 vs)
@[irreducible] def xLcO (it : XIo) (gi : Nat) (tt : XT) (te : XE) (vs : List Nat) : XE := ⟨fun ε K => it.run ε fun ds fl ε1 => ds.length ≤ 1000 ∧ ∃ W : Nat → List PyData → List AV → Prop, (∃ e, W 0 [] (wipeA e vs) ∧ wipeA e vs = wipeA ε1 vs) ∧
    (∀ acc e, W ds.length acc (wipeA e vs) → K (.f acc) (wipeA e vs)) ∧
    ∀ i d acc e, ds[i]? = some d → W i acc (wipeA e vs) → turnO gi tt te vs d (wipeA e vs) (fun x e' => W (i + 1) (acc ++ [x]) e') fun e' => W (i + 1) acc e',
  fun h q => it.mono (fun ds fl ε1 ⟨l, W, w0, wn, ws⟩ => ⟨l, W, w0, fun acc e w => h _ _ (wn acc e w), ws⟩) q⟩
theorem xLcO_run {it : XIo} {gi : Nat} {tt : XT} {te : XE} {vs : List Nat} {ε : List AV} {K : RV → List AV → Prop} : (xLcO it gi tt te vs).run ε K = it.run ε fun ds fl ε1 => ds.length ≤ 1000 ∧ ∃ W : Nat → List PyData → List AV → Prop, (∃ e, W 0 [] (wipeA e vs) ∧ wipeA e vs = wipeA ε1 vs) ∧
    (∀ acc e, W ds.length acc (wipeA e vs) → K (.f acc) (wipeA e vs)) ∧
    ∀ i d acc e, ds[i]? = some d → W i acc (wipeA e vs) → turnO gi tt te vs d (wipeA e vs) (fun x e' => W (i + 1) (acc ++ [x]) e') fun e' => W (i + 1) acc e' := by
  unfold xLcO
  rfl
theorem xe_lcOT {it : XIo} {gi : Nat} {tt : XT} {te : XE} {vs : List Nat} {σ : L2.St} {H : Hp} {Q : VK} (hv : gi ∈ vs) (h : up (xLcO it gi tt te vs) σ H Q) : tLc (upIo it) (upGo gi) (upT tt) (up te) vs σ H Q := by
  obtain ⟨Γ, ε, T, R, k⟩ := h
  rw [xLcO_run] at k
  refine ⟨Γ, ε, T, R, it.mono (fun ds fl ε1 q J A T1 H1 R1 s1 ok ha D hD => ?_) k⟩
  obtain ⟨hl, W, ⟨e0, w0, z0⟩, wn, ws⟩ := q
  have nD : ¬ Mx Γ ε1 T1 σ D := R1.not_x hD
  have RT : Rep Γ ε1 (fun a => T1 a ∨ a = D) σ (upd H1 D (.lst [])) := R1.temp hD
  have sN := same_new (o := .lst ([] : List V)) hD
  generalize hT1 : (fun a => T1 a ∨ a = D) = T2 at RT
  have hT : T2 D := by rw [← hT1]; exact .inr rfl
  have sub : ∀ a, T1 a → T2 a := fun a h => by rw [← hT1]; exact .inl h
  have m0 : ∀ a, Mx Γ (wipeA ε1 vs) T2 σ a → Mx Γ ε1 T1 σ a ∨ H1 a = none := fun a z => by
    have := (R1.forget (vs := vs) (τ := σ) rfl fun _ _ => rfl).2 a
    rcases z with z | z | z
    · exact .inl (.inl z)
    · exact .inl (this (.inr (.inl z)))
    · rw [← hT1] at z
      rcases z with z | rfl
      · exact .inl (.inr (.inr z))
      · exact .inr hD
  refine ⟨fun i m H => m = ds.length - i ∧ i ≤ ds.length ∧ ∃ acc e ys, W i acc (wipeA e vs) ∧ acc.length ≤ i ∧ Rep Γ (wipeA e vs) T2 σ H ∧ Stp Γ ε1 T1 (wipeA e vs) T2 σ H1 H ∧ H D = some (.lst ys) ∧ DnA (Mx Γ (wipeA e vs) T2 σ) H ys acc,
    ⟨ds.length, by simp, Nat.zero_le _, [], e0, [], w0, Nat.le_refl _, ?_, ?_, upd_same, .nil⟩, ?_⟩
  · rw [z0]
    exact (RT.forget (vs := vs) (τ := σ) rfl fun _ _ => rfl).1
  · rw [z0]
    exact ⟨fun b o _ h => sN _ _ h, (R1.same sN).hp, (R1.same sN).tz, sub, m0⟩
  · rintro i m H2 ⟨rfl, hi, acc, e, ys, w, la, R2, s2, hd, dn⟩
    have ha2 : A (Mx Γ (wipeA e vs) T2 σ) H2 := ok.st _ _ _ _ (s2.fit R1.pm) (fun _ b o nb nt h => s2.k b o ⟨fun _ => nb, zp_not R1.tz h nt⟩ h) ha
    by_cases lt : i < ds.length
    · have hdi := List.getElem?_eq_getElem lt
      obtain ⟨go, yl⟩ := ok.go _ H2 i _ R2.alls ha2 hdi
      refine .inr ⟨go, fun H' => i + 1 ≤ ds.length ∧ ∃ acc e ys, W (i + 1) acc (wipeA e vs) ∧ acc.length ≤ i + 1 ∧ Rep Γ (wipeA e vs) T2 σ H' ∧ Stp Γ ε1 T1 (wipeA e vs) T2 σ H1 H' ∧ H' D = some (.lst ys) ∧ DnA (Mx Γ (wipeA e vs) T2 σ) H' ys acc, fun H' p' => ⟨ds.length - (i + 1), by omega, rfl, p'.1, p'.2⟩, fun x H3 y => ?_⟩
      obtain ⟨s23, dx⟩ := yl x H3 y
      have R3 := R2.same s23
      have s3 := s2.same s23
      have hl3 : (wipe σ vs).length = σ.length := wipe_length σ vs
      have fo := R3.forget (vs := vs) (τ := wipe σ vs) hl3 fun i hi => wipe_out hi
      have ww : wipeA (wipeA e vs) vs = wipeA e vs := by
        refine List.ext_getElem? fun j => ?_
        by_cases z : j ∈ vs
        · cases q : (wipeA e vs)[j]? with
          | none =>
            rw [List.getElem?_eq_none_iff] at q ⊢
            rw [wipeA_len]
            exact q
          | some u =>
            cases q2 : (wipeA (wipeA e vs) vs)[j]? with
            | none =>
              rw [List.getElem?_eq_none_iff, wipeA_len] at q2
              have := (List.getElem?_eq_some_iff.mp q).1
              omega
            | some u2 => rw [wipeA_in z q, wipeA_in z q2]
        · rw [wipeA_out z]
      rw [ww] at fo
      obtain ⟨R4, m4⟩ := fo
      have hd3 := s23 _ _ hd
      have dn3 := dn.go (Fit2.same (N := Mx Γ (wipeA e vs) T2 σ) s23)
      refine ⟨Γ, wipeA e vs, T2, _, R4, dx.go (Fit2.less m4), fun σ2 R5 m5 l5 h5 => ?_⟩
      have q := ws i _ acc e hdi w
      unfold turnO at q
      generalize (wipeA e vs).set gi (elA _) = ε2 at q R5 m5
      have back : ∀ j, j ∉ vs → σ2[j]? = σ[j]? := fun j hj => by rw [h5 j fun z => hj ((List.mem_singleton.mp z ▸ hv)), wipe_out hj]
      have len5 : σ.length = σ2.length := by rw [l5, hl3]
      -- the end of a turn
      have fin : ∀ {ε4 : List AV} {H4 : Hp}, Rep Γ ε4 T2 σ2 H4 → Stp Γ ε2 T2 ε4 T2 σ2 H3 H4 → ∀ {acc' : List PyData} {ys' : List V}, W (i + 1) acc' (wipeA ε4 vs) → acc'.length ≤ i + 1 → DnA (Mx Γ ε4 T2 σ2) H4 ys' acc' →
          i + 1 ≤ ds.length ∧ ∃ acc e ys, W (i + 1) acc (wipeA e vs) ∧ acc.length ≤ i + 1 ∧ Rep Γ (wipeA e vs) T2 σ (upd H4 D (.lst ys')) ∧ Stp Γ ε1 T1 (wipeA e vs) T2 σ H1 (upd H4 D (.lst ys')) ∧ upd H4 D (.lst ys') D = some (.lst ys) ∧ DnA (Mx Γ (wipeA e vs) T2 σ) (upd H4 D (.lst ys')) ys acc := fun {ε4 H4} R6 s6 {acc' ys'} w' l' d' => by
        have hd4 := s6.k _ _ ⟨fun _ => tmp_p R5 hT, zp_not R5.tz hd3 nofun⟩ hd3
        have R7 := R6.mutT (zs := ys') hT hd4
        obtain ⟨R8, m8⟩ := R7.forget (vs := vs) (τ := σ) len5 fun j hj => (back j hj).symm
        have f7 : Fit2 (Mx Γ ε4 T2 σ2) (Mx Γ (wipeA ε4 vs) T2 σ) H4 (upd H4 D (.lst ys')) := ⟨fun a z => .inl (m8 a z), fun b o n h => by
          rw [upd_ne fun z : b = D => n (z ▸ .inr (.inr hT))]
          exact h⟩
        refine ⟨by omega, acc', ε4, ys', w', l', R8, ⟨fun b o n h => ?_, R8.hp, R8.tz, sub, fun a z => ?_⟩, upd_same, d'.go f7⟩
        · rw [upd_ne (ne_of_none h hD)]
          exact s6.k b o n (s23 _ _ (s2.k b o n h))
        · rcases s6.m a (m8 a z) with z | z
          · exact s2.m a (m4 a (m5 a z))
          · right
            exact (s2.same s23).none R1.hp z
      refine ⟨?_, Γ, ε2, T2, R5, tt.mono (fun b ε3 q3 T3 H4 R6 s6 => ?_) q⟩
      · refine List.ext_getElem? fun j => ?_
        by_cases z : j ∈ vs
        · have wn : ∀ {τ : L2.St} {vs : List Nat}, j ∈ vs → j < τ.length → (wipe τ vs)[j]? = some none := by
            intro τ vs hj hl
            induction vs with
            | nil => cases hj
            | cons v vs ih =>
              show ((wipe τ vs).set v none)[j]? = some none
              by_cases z : v = j
              · subst z
                exact List.getElem?_set_self (by rw [wipe_length]; exact hl)
              · rw [List.getElem?_set_ne z]
                rcases List.mem_cons.mp hj with h | h
                · exact absurd h.symm z
                · exact ih h
          by_cases lj : j < σ.length
          · rw [wn z (by rw [← len5]; exact lj), wn z lj]
          · rw [List.getElem?_eq_none_iff.mpr (by rw [wipe_length, ← len5]; omega), List.getElem?_eq_none_iff.mpr (by rw [wipe_length]; omega)]
        · rw [wipe_out z, wipe_out z, back j z]
      · split at q3
        · rw [if_pos (by assumption)]
          refine up1 R6 q3 fun r y ε4 T4 H5 ⟨x', ex, w'⟩ R7 s7 d7 => ?_
          have sA := s6.trans R5.hp s7
          have dy := (d7.early (H := H3) fun a => s6.none R5.hp).kept R5 R7 sA ex
          have R8 := R7.less (T' := T2) sA.t
          have s8 := sA.drop
          have hd5 := s8.k _ _ ⟨fun _ => tmp_p R5 hT, zp_not R5.tz hd3 nofun⟩ hd3
          have dn5 : DnA (Mx Γ ε4 T2 σ2) H5 ys acc := (dn3.go (Fit2.less fun a z => m4 a (m5 a z))).go (s8.fit R5.pm)
          refine ⟨ys, hd5, ?_, fin R8 s8 w' (by rw [List.length_append]; simp only [List.length_cons, List.length_nil]; omega) (dn5.append (.cons dy .nil))⟩
          rw [dn.length]
          exact Nat.lt_of_lt_of_le (by omega : acc.length < 1000) (by decide)
        · rw [if_neg (by assumption)]
          have R8 := R6.less (T' := T2) s6.t
          have s8 := s6.drop
          have hd5 := s8.k _ _ ⟨fun _ => tmp_p R5 hT, zp_not R5.tz hd3 nofun⟩ hd3
          have dn5 : DnA (Mx Γ ε3 T2 σ2) H4 ys acc := (dn3.go (Fit2.less fun a z => m4 a (m5 a z))).go (s8.fit R5.pm)
          have := fin R8 s8 q3 (by omega) dn5
          have same : upd H4 D (.lst ys) = H4 := by
            funext b
            unfold upd
            split
            · rename_i z; rw [z, hd5]
            · rfl
          rw [same] at this
          exact this
    · have e2 : i = ds.length := by omega
      subst e2
      refine .inl ⟨ok.stop _ H2 ha2, ?_⟩
      exact wn acc e w (.ref D) T2 H2 R2 (s1.trans R.hp s2) ⟨D, ys, rfl, s1.none R.hp hD, hT, hd, by rw [dn.length]; omega, dn⟩
section
variable {X : Cx} {elt tg iter : Expr} {ifs : List Expr} {scope : Scope} {own : List (Str × Nat)} {pos : Pos} {it : XIo} {gi : Nat} {tt : XT} {te : XE}
theorem xe_lcO (hc : X.calm = true) (hN : X.N.Nodup) (hi : PI X tg iter (upIo it)) (ok : BlkOk X.N X.env.scope scope own)
    (hg : ∀ (s : Shared) (H : Hp) (C : Addr) (cl : List (Str × Addr)) (fp : List Addr), PG (X.blk s H scope (compEnvC scope cl C X.env) fp) tg (upGo gi)) (ht : ∀ (s : Shared) (H : Hp) (C : Addr) (cl : List (Str × Addr)) (fp : List Addr), PTs (X.blk s H scope (compEnvC scope cl C X.env) fp) ifs (upT tt))
    (he : ∀ (s : Shared) (H : Hp) (C : Addr) (cl : List (Str × Addr)) (fp : List Addr), PE (X.blk s H scope (compEnvC scope cl C X.env) fp) elt (up te)) (hv : gi ∈ own.map (·.2)) (hs : ∀ x, foldedSetIterable iter X.env x = pure x := by intro _; rfl) :
    PE X (.ListComp elt [⟨tg, iter, ifs, 0⟩] scope pos) (up (xLcO it gi tt te (own.map (·.2)))) := pe_wk (pe_lc hc hN hi ok hg ht he hs) fun _ _ _ h => xe_lcOT hv h
end
/-! ### over a list of objects that a name holds -/
def xiO (a : XE) : XIo := ⟨fun ε K => a.run ε fun r ε1 => ∃ Ps, r = .o (LsP Ps) ∧ (∀ P ∈ Ps, Sld P) ∧ K (Ps.map RV.o) true ε1, fun h q => a.mono (fun _ _ ⟨ds, e, s, k⟩ => ⟨ds, e, s, h _ _ _ k⟩) q⟩
def AO (v : V) (Ps : List Pr) : (Addr → Prop) → Hp → Prop := fun N H => Stb N H (LsP Ps) v
theorem xi_o {X : Cx} {tg e : Expr} {a : XE} (h : PE X e (up a)) : PI X tg e (upIo (xiO a)) := ⟨fun pins s σ H R I q => (pi_list h).run pins s σ H R I (by
  obtain ⟨Γ, ε, T, R0, k⟩ := q
  refine up1 R0 k fun r x ε1 T1 H1 ⟨Ps, e1, sl, g⟩ R1 s1 d1 => ?_
  subst e1
  have d1 : Stb (Mx Γ ε1 T1 σ) H1 (LsP Ps) x := d1
  obtain ⟨l, vs, rfl, h1, h2, h3⟩ := d1.now
  refine ⟨l, rfl, ⟨vs, SqL.of h1⟩, g _ (AO (.ref l) Ps) T1 H1 R1 s1 ⟨fun N N' H H' f _ h => Stb.go f h, fun N H h => ?_, fun N H i d ha h hd => ?_⟩ d1⟩
  · obtain ⟨l', vs', e, k1, k2, k3⟩ := Stb.now h
    cases e
    exact ⟨vs', SqL.of k1, by rw [List.length_map, k2]; exact Nat.le_refl _⟩
  · obtain ⟨l', vs', e, k1, k2, k3⟩ := Stb.now h
    cases e
    obtain ⟨P, hP, rfl⟩ := mapget hd
    have lt := (List.getElem?_eq_some_iff.mp hP).1
    have hv : vs'[i]? = some vs'[i] := List.getElem?_eq_getElem (by omega)
    refine ⟨⟨vs', _, SqL.of k1, hv⟩, fun x H' ⟨e, y⟩ => ?_⟩
    subst e
    have := y vs' (SqL.of k1)
    rw [hv] at this
    cases this
    exact ⟨Same.refl _, sld_stb (sl P (List.mem_of_getElem? hP)) ha (k3 i P _ hP hv)⟩)⟩
/-- what becomes of each, by the place -/
theorem lc_esO {it : XIo} {gi : Nat} {tt : XT} {te : XE} {vs : List Nat} {ε : List AV} {K : RV → List AV → Prop} (es : List PyData) (h : it.run ε fun ds _ ε1 => es.length = ds.length ∧ ds.length ≤ 1000 ∧ (∀ (i : Nat) (d : RV) (x : PyData), ds[i]? = some d → es[i]? = some x → turnO gi tt te vs d (wipeA ε1 vs) (fun y e => y = x ∧ e = wipeA ε1 vs) fun _ => False) ∧ K (.f es) (wipeA ε1 vs)) : (xLcO it gi tt te vs).run ε K := by
  rw [xLcO_run]
  refine it.mono (fun ds fl ε1 q => ?_) h
  obtain ⟨he, hl, hs, k⟩ := q
  refine ⟨hl, fun i acc e => acc = es.take i ∧ e = wipeA ε1 vs, ⟨ε1, ⟨rfl, rfl⟩, rfl⟩, fun acc e w => ?_, fun i d acc e hd w => ?_⟩
  · rw [w.1, w.2, List.take_of_length_le (by omega)]
    exact k
  · rw [w.2, w.1]
    have hi := (List.getElem?_eq_some_iff.mp hd).1
    have hx : es[i]? = some es[i] := List.getElem?_eq_getElem (by omega)
    have q := hs i d _ hd hx
    unfold turnO at q ⊢
    refine tt.mono (fun b ε3 q => ?_) q
    split at q
    · rw [if_pos (by assumption)]
      refine te.mono (fun r ε4 ⟨y, e1, e2, e3⟩ => ⟨y, e1, ?_, e3⟩) q
      rw [take_snoc hx, e2]
    · exact q.elim
/-! ### names forgotten at the end of a turn -/
def xWp (vs : List Nat) (b : XS) : XS := ⟨fun D ε => b.run { D with nx := fun e => D.nx (wipeA e vs), ct := fun e => D.ct (wipeA e vs) } ε,
  fun {D D' ε} h1 h2 h3 h4 q => b.mono (D := { D with nx := fun e => D.nx (wipeA e vs), ct := fun e => D.ct (wipeA e vs) }) (D' := { D' with nx := fun e => D'.nx (wipeA e vs), ct := fun e => D'.ct (wipeA e vs) }) (fun _ h => h1 _ h) h2 h3 (fun _ h => h4 _ h) q⟩
theorem pss_wp {X : Cx} {body : List Stmt} {b : XS} (vs : List Nat) (h : PSs X body (upS b)) : PSs X body (upS (xWp vs b)) := pss_wk h fun D σ H ⟨Γ, ε, R, k⟩ =>
  ⟨Γ, ε, R, b.mono (D := { upD Γ D with nx := fun e => (upD Γ D).nx (wipeA e vs), ct := fun e => (upD Γ D).ct (wipeA e vs) }) (D' := upD Γ D)
    (fun e q σ' H' R' => q σ' H' (R'.forget (vs := vs) (τ := σ') rfl fun _ _ => rfl).1) (fun _ _ h => h) (fun _ h => h) (fun e q σ' H' R' => q σ' H' (R'.forget (vs := vs) (τ := σ') rfl fun _ _ => rfl).1) k⟩
end Cs
set_option maxHeartbeats 4000000
/-! Defs that show lists and tuples: their promise is for callers that show nothing just now. -/
namespace Cs
open PySem L2 PyProof.Rows
structure FnG (P : Program) (w : World) (K : PySem.W.Frag) (mg : Str → Option Value) (base : Heap) (k : Nat) (f : Addr) (fd : FuncData) (ps : List Str) (sp : Sp) : Prop where
  len : ∀ vs H Q E, sp vs H Q E → vs.length = ps.length
  run : ∀ (A : Around) (outer : List Env) (s : Shared) (H : Hp) (args : Args) (us : List Value) (vs : List V) (Q : VK) (E : XK),
    A.guards = some [] → Room k A → Env0 P w K mg base A outer s H → BindsTo s fd args (ps.zip us) → Vals vs us → sp vs H Q E → codeAny (model P w) A (.call (.ref f) args) (CR CX0 outer P w H s Q E) s
theorem fn_ofG {P : Program} {w : World} {K : PySem.W.Frag} {mg : Str → Option Value} {base : Heap} {k : Nat} {f : Addr} {name qual : Str} {params : Arguments} {body : List Stmt} {scope : Scope}
    {dV kV doc pm cdv ct oc : Value} {an od : Option Addr} {osl : Array (Option Value)} {N ps : List Str} {sp : Sp}
    (lk : K.lookup f = some ⟨oc, od, .func (PySem.W.fnOf name qual params body scope dV kV doc pm an cdv ct), osl⟩) (hcd : PySem.W.codeIn K cdv qual = true) (S : FnScope N ps scope)
    (len : ∀ vs H Q E, sp vs H Q E → vs.length = ps.length)
    (hbody : ∀ (A : Around) (outer : List Env) (s : Shared) (H : Hp) (vs : List V) (Q : VK) (E : XK), A.guards = some [] → Room k (A.deeper (envOfC qual scope s.heap.objs.size f cdv)) → sp vs H Q E →
      ∃ t, PSs (cxOf CX0 P w K mg base N qual scope f cdv A outer s H E) body t ∧ t { nx := fun _ H' => Q .non H', rt := Q } (L2.start N vs) H) :
    FnG P w K mg base (k + 1) f (PySem.W.fnOf name qual params body scope dV kV doc pm an cdv ct) ps sp := by
  refine ⟨len, fun A outer s H args us vs Q E hg hr e0 hb r hsp => ?_⟩
  have hl := len vs H Q E hsp
  have KX := PySem.W.Frag.In.keeps e0.mod.kin fun b o e => (e0.bs b o e).1
  have lim := Heap.NoLimit.keeps e0.mod.nolimit fun b o e => (e0.bs b o e).1
  refine codeAny_call_function hr.depth (KX f _ lk) rfl S.co S.gen rfl (PySem.W.codeRec_of KX hcd) ?_
  refine hb (model P w) A.in1 _ _ ?_
  refine wpAny_newFunctionEnv_cells S.kind (fun y hy => ?_) fun env he s1 x => ?_
  · obtain ⟨n, v⟩ := y
    rcases S.par n (List.of_mem_zip hy).1 with q | q
    · exact .inl q
    · exact .inr ⟨q, PySem.W.cellsFrom_some scope.names (s.heap.objs.size + 1) [] (.inl q)⟩
  · subst he
    refine ⟨lim.keeps x.toInCall.keep, codeAny_func ?_⟩
    obtain ⟨t, ht, hq⟩ := hbody A outer s H vs Q E hg (hr.deeper _) hsp
    have I := inv_start (CX := CX0) (w := w) (E := E) S hr.hd e0 hl r x
    refine wpAny_mono (ht.run [] s1 (L2.start N vs) H _ I hq) (fun fl s' hs => ?_) (fun e s' hs => hs)
    cases fl with
    | next =>
      obtain ⟨σ', H', J, q⟩ := hs
      exact ⟨V.non, H', J.os, J.bare, J.base, J.hok, rfl, q⟩
    | brk =>
      obtain ⟨_, _, _, q⟩ := hs
      exact q.elim
    | cont =>
      obtain ⟨_, _, _, q⟩ := hs
      exact q.elim
    | ret u =>
      obtain ⟨v, σ', H', J, rv, q⟩ := hs
      exact ⟨v, H', J.os, J.bare, J.base, J.hok, rv, q⟩
section
variable {X : Cx}
theorem pe_callG {k j : Nat} {f : Addr} {fd : FuncData} {ps : List Str} {sp : Sp} {x : Str} {q pos : Pos} {e : Expr} {es : List Expr} {t : TA}
    (F : FnG X.prog X.w X.K X.mg X.base k f fd ps sp) (hG : X.A.guards = some []) (hr : Room j X.A) (hk : k ≤ j) (hg : Gl X x) (hm : X.mg x = some (.ref f)) (kp : PySem.W.keepIn X.K (.ref f) = true) (hb : Binds X.K fd ps [])
    (ha : PA X (e :: es) t) (hdb : (x == ("__debug__" : Str)) = false := by rfl) (he : starEach (e :: es) X.env = (false, eval e X.env) :: starEach es X.env := by rfl)
    (hpl : ((backTo pos (starEach es X.env)).any fun x => x.1) = false := by rfl) : PE X (.Call (.Name x q) (e :: es) [] pos) (fun σ H Q => t σ H fun vs H1 => sp vs H1 Q fun _ _ _ => False) := by
  refine ⟨fun pins s σ H Q I h => wpAny_Call_Name_kw (ld_glob I hg hm (PySem.W.callWith_K I.ok.mod.kin kp (thn (ha.run pos pins s σ H _ I h) ?_) he hpl) hdb)⟩
  rintro us s1 ⟨vs, H1, I1, r, q1⟩
  refine ⟨I1.kIn, ?_⟩
  have hl : us.length = ps.length := by
    rw [← r.length]
    exact F.len vs H1 Q _ q1
  have b := hb s1 us I1.kIn (by rw [List.append_nil]; exact hl)
  rw [List.append_nil] at b
  refine wpAny_call (codeAny_mono (F.run X.A X.stack s1 H1 ⟨us, []⟩ us vs Q _ hG (hr.mono hk) I1.env0 b r q1) fun rr s' hq => ?_)
  cases rr with
  | error e => exact hq.elim
  | ok fl =>
    cases fl with
    | next => exact hq.elim
    | brk => exact hq.elim
    | cont => exact hq.elim
    | ret u => exact I1.after hq
end
/-- a def by its name, for callers that show nothing just now -/
structure CalG (P : Program) (w : World) (K : PySem.W.Frag) (mg : Str → Option Value) (base : Heap) (k : Nat) (x : Str) (sp : Sp) : Prop where
  ex : ∃ (f : Addr) (fd : FuncData) (ps : List Str), FnG P w K mg base k f fd ps sp ∧ mg x = some (.ref f) ∧ PySem.W.keepIn K (.ref f) = true ∧ Binds K fd ps []
theorem pe_cG {X : Cx} {k j : Nat} {sp : Sp} {x : Str} {q pos : Pos} {e : Expr} {es : List Expr} {t : TA} (c : CalG X.prog X.w X.K X.mg X.base k x sp) (hG : X.A.guards = some []) (hr : Room j X.A) (hk : k ≤ j) (hg : Gl X x) (ha : PA X (e :: es) t)
    (hdb : (x == ("__debug__" : Str)) = false := by rfl) (he : starEach (e :: es) X.env = (false, eval e X.env) :: starEach es X.env := by rfl) (hpl : ((backTo pos (starEach es X.env)).any fun x => x.1) = false := by rfl) :
    PE X (.Call (.Name x q) (e :: es) [] pos) (fun σ H Q => t σ H fun vs H1 => sp vs H1 Q fun _ _ _ => False) := by
  obtain ⟨f, fd, ps, F, g, kp, b⟩ := c.ex
  exact pe_callG F hG hr hk hg g kp b ha hdb he hpl
/-! ### the law's call -/
section
variable {P : Program} {w : World} {K : PySem.W.Frag} {mg mb : Str → Option Value} {k : Nat} {fa a : Addr} {cs : List (Addr × Addr)} {fd : FuncData} {x : Str} {sp : Sp} {s : Shared} {vs : List Value} {ns : List Int}
/-- what is tracked at the start: the script (locked, if it is not in K) and the tables -/
def H0 (s : Shared) (K : PySem.W.Frag) (a : Addr) (vs : List Value) (ns : List Int) (cs : List (Addr × Addr)) : Hp := fun b =>
  if (b = a ∧ K.lookup a = none) then some (.frz { cls := .type "list", data := .seq vs.toArray } (.lst (ns.map V.int))) else if b ∈ cs.map (·.2) then some (.tbl #[]) else none
theorem law_callG (KX : K.In s.heap) (hns : s.heap.Ns mainGlobals mg) (hb : s.heap.Ns builtinsNs mb) (hbb : ∀ x : Str, x ≠ "__name__" → mb x = bootBuiltins x) (hlim : s.heap.NoLimit) (hg : s.gens = #[])
    (hT : ∀ p ∈ cs, s.heap.get? p.2 = some { cls := .none, data := .fields #[] }) (nT : ∀ p ∈ cs, K.lookup p.2 = none) (C : ∀ p ∈ cs, PySem.W.CodeHd s.heap p.1 p.2)
    (hbm : ∃ (bm : Addr) (ob : Obj), mg "__builtins__" = some (.ref bm) ∧ bm ≠ builtinsNs ∧ s.heap.get? bm = some ob ∧ ob.cls = .type "module" ∧ ob.dict = some builtinsNs ∧ ob.data = .plain)
    (ha : s.heap.get? a = some { cls := .type "list", data := .seq vs.toArray }) (hi : IntsAre vs ns) (hl : ns.length ≤ sizeLine) (hr : Room k callerA)
    (F : ∀ base : Heap, K.In base → base.Ns mainGlobals mg → (∀ p ∈ cs, LamX.TabB base mg p.1 p.2) → FnG P w K mg base k fa fd [x] sp) (hbind : ∀ (s : Shared) (u : Value), BindsTo s fd ⟨[u], []⟩ [(x, u)])
    (hsp : ∀ H : Hp, (∀ p ∈ cs, H p.2 = some (.tbl #[])) → SqL K H a (ns.map V.int) → sp [.ref a] H (fun v _ => v = .bl true) fun _ _ _ => False) :
    codeAny (model P w) callerA (.call (.ref fa) ⟨[.ref a], []⟩) (fun r s' => r = .ok (.ret (.bool true)) ∧ OldK s.heap s'.heap ∧ s'.os = s.os ∧ AllBare s'.gens) s := by
  have rv := vals_ints hi
  have lenV := hi.length
  have tab : ∀ b, b ∈ cs.map (·.2) → s.heap.get? b = some { cls := .none, data := .fields #[] } := fun b hb => by
    obtain ⟨p, hp, rfl⟩ := List.mem_map.mp hb
    exact hT p hp
  have at_ : a ∉ cs.map (·.2) := fun z => nomatch (ha.symm.trans (tab a z))
  generalize hH : H0 s K a vs ns cs = H
  have HT : ∀ b, b ∈ cs.map (·.2) → H b = some (.tbl #[]) := fun b hb => by
    rw [← hH]
    exact (if_neg (fun z : b = a ∧ K.lookup a = none => at_ (z.1 ▸ hb))).trans (if_pos hb)
  have HA : K.lookup a = none → H a = some (.frz { cls := .type "list", data := .seq vs.toArray } (.lst (ns.map V.int))) := fun z => by
    rw [← hH]
    exact if_pos ⟨rfl, z⟩
  have HN : ∀ b, b ∉ cs.map (·.2) → ¬ (b = a ∧ K.lookup a = none) → H b = none := fun b h1 h2 => by
    rw [← hH]
    exact (if_neg h2).trans (if_neg h1)
  have three : ∀ b, b ∈ cs.map (·.2) ∨ (b = a ∧ K.lookup a = none) ∨ H b = none := fun b => by
    by_cases h1 : b ∈ cs.map (·.2)
    · exact .inl h1
    · by_cases h2 : b = a ∧ K.lookup a = none
      · exact .inr (.inl h2)
      · exact .inr (.inr (HN b h1 h2))
  have okH : HOk P w H s.heap := fun b o e => by
    rcases three b with z | ⟨rfl, z⟩ | z
    · rw [HT b z] at e
      obtain rfl := Option.some.inj e
      exact tab b z
    · rw [HA z] at e
      obtain rfl := Option.some.inj e
      exact ⟨ha, by rw [List.length_map]; exact hl, vs, _, rv, ha⟩
    · rw [z] at e
      exact nomatch e
  have seq : SqL K H a (ns.map V.int) := by
    cases hk : K.lookup a with
    | none => exact .inl (.inr ⟨_, HA hk⟩)
    | some o =>
      obtain rfl := Option.some.inj ((KX a o hk).symm.trans ha)
      exact .inr ⟨_, vs.toArray, _, hk, rfl, rfl, rfl, by rw [List.size_toArray, lenV]; exact hl, by simpa using rv⟩
  -- an object that is no list and no empty table is not tracked
  have out : ∀ {b : Addr} {o : Obj}, s.heap.get? b = some o → (∀ l n, o.data ≠ .seq l n) → o.data ≠ .fields #[] → H b = none := fun {b o} e h1 h2 => by
    rcases three b with z | ⟨rfl, z⟩ | z
    · exact absurd (congrArg Obj.data (Option.some.inj (e.symm.trans (tab b z)))) h2
    · exact absurd (congrArg Obj.data (Option.some.inj (e.symm.trans ha))) (h1 _ _)
    · exact z
  have dic : ∀ {b : Addr} {o : Obj} {es : Array DictEntry} {n : Nat}, s.heap.get? b = some o → o.data = .dict es n → H b = none := fun {b o es n} e d => out e (fun l m z => nomatch (d.symm.trans z)) (fun z => nomatch (d.symm.trans z))
  have nsB : ∀ {b : Addr} {m : Str → Option Value}, s.heap.Ns b m → (hidT s.heap H).Ns b m := fun {b m} h => by
    obtain ⟨o, es, n, e, d, r⟩ := h
    exact ⟨o, es, n, hidT_get e (dic e d), d, r⟩
  have kB : K.In (hidT s.heap H) := fun b o e => hidT_get (KX b o e) (by
    rcases three b with z | ⟨rfl, z⟩ | z
    · obtain ⟨p, hp, rfl⟩ := List.mem_map.mp z
      exact nomatch ((nT p hp).symm.trans e)
    · exact nomatch (z.symm.trans e)
    · exact z)
  have TBs : ∀ p ∈ cs, LamX.TabB (hidT s.heap H) mg p.1 p.2 := fun p hp => by
    have tp := hT p hp
    refine ⟨?_, ?_, fun z => ?_⟩
    · obtain ⟨o, us, file, tf, flags, tg, inF, text, tt, e1, r1, r2, r3, r⟩ := C p hp
      refine ⟨o, us, file, tf, flags, tg, inF, text, tt, hidT_get e1 (out e1 (fun l n z => nomatch (r2.symm.trans z)) (fun z => ?_)), r1, r2, r3, r⟩
      rw [r2] at z
      cases z
      simp at r3
    · obtain ⟨bm, ob, b1, b2, b3, b4, b5, b6⟩ := hbm
      refine ⟨bm, ob, b1, b2, fun z => ?_, fun z => ?_, hidT_get b3 (out b3 (fun l n z => nomatch (b6.symm.trans z)) (fun z => nomatch (b6.symm.trans z))), b4, b5, b6⟩
      · obtain ⟨o, es, n, e, d, _⟩ := hns
        rw [← z, b3] at e
        obtain rfl := Option.some.inj e
        exact nomatch (b6.symm.trans d)
      · rw [z, tp] at b3
        obtain rfl := Option.some.inj b3
        exact nomatch b6
    · obtain ⟨o, es, n, e, d, _⟩ := hns
      rw [z, tp] at e
      obtain rfl := Option.some.inj e
      exact nomatch d
  have M : L2.Mod K mg (hidT s.heap H) := ⟨kB, nsB hns, ⟨mb, nsB hb, hbb⟩, by
    obtain ⟨mc, h1, h2⟩ := hlim
    exact ⟨mc, nsB h1, h2⟩⟩
  have e0 : Env0 P w K mg (hidT s.heap H) callerA [] s H := ⟨rfl, M, fun b o e => of_hidT e, Nat.le_of_eq (hidT_size _ _), trivial, (fun b hb => (List.not_mem_nil hb).elim), okH, .of_eq hg⟩
  refine codeAny_mono ((F _ kB (nsB hns) TBs).run callerA [] s H ⟨[.ref a], []⟩ [.ref a] [.ref a] _ _ rfl hr e0 (hbind s (.ref a)) (.cons rfl .nil) (hsp H (fun p hp => HT p.2 (List.mem_map.mpr ⟨p, hp, rfl⟩)) seq)) fun r s' h => ?_
  cases r with
  | error e => exact False.elim h
  | ok fl =>
    cases fl with
    | next => exact False.elim h
    | brk => exact False.elim h
    | cont => exact False.elim h
    | ret u =>
      obtain ⟨v, H', os, bare, un, ok', r', q⟩ := h
      obtain rfl : v = .bl true := q
      obtain rfl : u = .bool true := r'
      have none_ : ∀ {b : Addr}, b ∉ ([] : List Addr) := fun z => nomatch z
      have old : ∀ b o, b ∉ cs.map (·.2) → s.heap.get? b = some o → s'.heap.get? b = some o := fun b o nb e => by
        rcases three b with z | ⟨rfl, z⟩ | z
        · exact absurd z nb
        · obtain ⟨e2, _⟩ := ok' _ _ (un.frzs _ _ _ (HA z))
          rw [ha] at e
          exact e ▸ e2
        · exact un.keep b o e z none_ none_
      have grown : ∀ p ∈ cs, ∃ more : Array Value, s'.heap.get? p.2 = some { cls := .none, data := .fields more } := fun p hp => by
        obtain ⟨more, z⟩ := un.tbls p.2 #[] (HT p.2 (List.mem_map.mpr ⟨p, hp, rfl⟩))
        exact ⟨_, ok' p.2 _ z⟩
      refine ⟨rfl, ⟨fun b o e => ?_, fun b o e => ?_⟩, os, bare⟩
      · by_cases hb : b ∈ cs.map (·.2)
        · obtain ⟨p, hp, rfl⟩ := List.mem_map.mp hb
          obtain ⟨more, hm⟩ := grown p hp
          obtain rfl := Option.some.inj (e.symm.trans (hT p hp))
          exact .inr (.inl ⟨((C p hp).tab (hT p hp)).isCodeTable, rfl, #[], more, rfl, by rw [Array.empty_append]; exact hm⟩)
        · exact .inl (old b o hb e)
      · by_cases hb : b ∈ cs.map (·.2)
        · obtain ⟨p, hp, rfl⟩ := List.mem_map.mp hb
          obtain ⟨more, hm⟩ := grown p hp
          exact ⟨_, hm⟩
        · exact ⟨o, old b o hb e⟩
end
/-- what is known of the law's promise at the head's heap h -/
def LawAtG (l : PySem.W.OpenLaw) (w : World) (K : PySem.W.Frag) (k n : Nat) (x : Str) (mg : Str → Option Value) (h : Heap) : Prop :=
  ∃ (fa : Addr) (fd : FuncData) (cs : List (Addr × Addr)) (sp : Sp), mg "law" = some (.ref fa) ∧ (∀ p ∈ cs, h.get? p.2 = some { cls := .none, data := .fields #[] }) ∧ (∀ p ∈ cs, K.lookup p.2 = none) ∧ (∀ p ∈ cs, PySem.W.CodeHd h p.1 p.2) ∧
    (∀ (s : Shared) (u : Value), BindsTo s fd ⟨[u], []⟩ [(x, u)]) ∧
    (∀ (H : Hp) (a : Addr) (ns : List Int), ns.length ≤ n → (∀ z ∈ ns, Builtin.Int.intBits z ≤ 1048576) → (∀ p ∈ cs, H p.2 = some (.tbl #[])) → SqL K H a (ns.map V.int) → sp [.ref a] H (fun v _ => v = .bl true) fun _ _ _ => False) ∧
    ∀ base : Heap, K.In base → base.Ns mainGlobals mg → (∀ p ∈ cs, LamX.TabB base mg p.1 p.2) → FnG l.prog w K mg base k fa fd [x] sp
theorem walk_ofG {l : PySem.W.OpenLaw} {n k : Nat} {q : Program} {loose : List Str} {XP : (Str → Option Value) → Heap → Prop} {YP : World → Heap → Prop} {d : DefRec} {x : Str} (hn : l.most = some n) (hn2 : n ≤ sizeLine) (hdf : d.params.defaults = []) (hname : d.name = "law") (hr : Room k callerA)
    (F : ∀ (w : World) (mg : Str → Option Value) (h : Heap), YP w h → h.Ns mainGlobals mg → (∃ fa, mg "law" = some (.ref fa)) → ∃ K : PySem.W.Frag, K.In h ∧ LawAtG l w K k n x mg h) : PySem.W.WalkO q loose XP YP l.row.toRowW d [] (fun f vs => PySem.call f vs) := by
  refine Att.attach_callB hn hdf fun w s₀ s₁ mg mb fa o pm cd doc a vs ns G Y ho hd hcd hmg hobj hints hlen hbits hg => ?_
  rw [hname] at hmg
  obtain ⟨K, KX, fa2, fd, cs, sp, hf, hT, nT, C, hb, hsp, hF⟩ := F w mg _ Y G.T.g ⟨fa, hmg⟩
  obtain rfl : fa2 = fa := Value.ref.inj (Option.some.inj (hf.symm.trans hmg))
  exact law_callG KX G.T.g G.T.b G.T.builtins G.T.nolimit hg hT nT C G.T.bmain hobj hints (Nat.le_trans hlen hn2) hr hF hb fun H hH hS => hsp H a ns hlen hbits hH hS
end Cs
set_option maxHeartbeats 4000000
/-! Lambdas over data: what changes is the one table of code; defs that make lambdas. -/
namespace Cs
open PySem PySem.Spec PyProof.Rows L2 LamX
/-- all but the object at P stays -/
def ExP (P : Addr) (H H' : Hp) : Prop := ∀ b o, b ≠ P → H b = some o → H' b = some o
section
variable {X : Cx} {pins : List (Addr × Obj)} {σ : L2.St} {H : Hp} {s : Shared}
theorem made3 {T : List (Addr × Str)} {c P : Addr} {params : Arguments} {body : Expr} {scope : Scope} {pos : Pos} {E : Value → Shared → Prop} {Q : Value → Shared → Prop} (I : Inv X pins σ H s) (TB : TabB X.base X.mg c P) (hcode : X.env.code = .ref c)
    (hm : (P, X.env.qual ++ "<lambda>") ∈ T) (hu : ∀ p ∈ T, p.1 = P → p.2 = X.env.qual ++ "<lambda>") (hT : Tabs T H) (hdef : defaultsOf params X.env = ([], [])) (hfree : ∀ y ∈ scope.names, y.2 = .free → ∃ c, X.env.cells.lookup y.1 = some c)
    (h : ∀ (f c' : Addr) (pm ctv : Value) (H1 : Hp) (s' : Shared), Inv X pins σ H1 s' → ExP P H H1 → Tabs T H1 →
      s'.heap.get? f = some (PySem.W.kla_obj "<lambda>" (X.env.qual ++ "<lambda>") params body scope (cloFrom X.env.cells scope.names []) pm c' ctv) → H1 f = none → f ∉ frs X.stack → H1 c' = some (CodeO c' (X.env.qual ++ "<lambda>")) → Q (.ref f) s') :
    wpAny (model X.prog X.w) X.A (eval (.Lambda params body scope pos) X.env) Q E s := by
  obtain ⟨ps, atP, tr, nm⟩ := hT _ hm
  have old : ∀ f, s.heap.objs.size ≤ f → f ∉ frs X.stack := fun f le z => by
    rcases List.mem_cons.mp (I.stkSub _ z) with e | e
    · have lt := I.lt
      rw [← e] at lt
      exact absurd (Nat.lt_of_lt_of_le lt le) (Nat.lt_irrefl _)
    · exact I.nofs le e
  have real := I.hok P _ atP
  have bm := TB.bm.keeps I.bk
  have cd := TB.code.keeps I.bk
  have gl := I.mod.glob.keeps I.bk
  refine PySem.W.kla_eval hdef ?_
  cases found : codeAmong pos ps.toList with
  | some cv =>
    obtain ⟨c', rfl, known⟩ := nm pos cv found
    refine PySem.W.kla_makeFunctionHit (closure_ok hfree) I.ok.glob gl hcode cd real tr found bm fun ctv h' tk up le => ?_
    exact h _ c' _ ctv H _ (I.kept fun b o e => Heap.get?_push_of_some _ (up b o e)) (fun _ _ _ e => e) hT (Heap.get?_push_size _ rfl) (I.hok.fresh le) (old _ le) known
  | none =>
    refine PySem.W.kla_makeFunction (closure_ok hfree) I.ok.glob gl hcode cd real tr found TB.gP bm fun c' ctv h' tk up ge lt rc tab => ?_
    obtain ⟨c2, oc, vs, t, q, get, dat, v1⟩ := rc
    cases q
    have no := I.hok.fresh ge
    have le : s.heap.objs.size ≤ h'.objs.size := by omega
    have nPc : P ≠ c' := ne_of_none atP no
    have nfc : h'.objs.size ≠ c' := by omega
    have nfP : h'.objs.size ≠ P := fun z => by
      have lt := Heap.lt_size real
      rw [← z] at lt
      exact absurd (Nat.lt_of_lt_of_le lt le) (Nat.lt_irrefl _)
    have J := inv_table (q := X.env.qual ++ "<lambda>") (t' := tk) (more := #[rawInt pos.line, rawInt pos.col, .ref c']) (h' := h'.push (PySem.W.kla_obj "<lambda>" (X.env.qual ++ "<lambda>") params body scope (cloFrom X.env.cells scope.names []) ((X.mg "__name__").getD .none) c' ctv)) I atP
      (fun b o n e => Heap.get?_push_of_some _ (up b o n e)) (Heap.get?_push_of_some _ tab) ge ⟨oc, vs, t, Heap.get?_push_of_some _ get, dat, v1⟩
    generalize hH : upd (upd H P (.tbl (ps ++ #[rawInt pos.line, rawInt pos.col, .ref c']))) c' (CodeO c' (X.env.qual ++ "<lambda>")) = H1 at J
    have ex : ExP P H H1 := fun b o n e => by
      rw [← hH, upd_ne (ne_of_none e no), upd_ne n]
      exact e
    have at1 : H1 P = some (.tbl (ps ++ #[rawInt pos.line, rawInt pos.col, .ref c'])) := by rw [← hH, upd_ne nPc, upd_same]
    have atc : H1 c' = some (CodeO c' (X.env.qual ++ "<lambda>")) := by rw [← hH, upd_same]
    have cod : ∀ {c0 : Addr} {q : Str}, H c0 = some (CodeO c0 q) → H1 c0 = some (CodeO c0 q) := fun {c0 q} e => ex c0 _ (fun z => by
      rw [z, atP] at e
      exact codeO_ne ps (Option.some.inj e).symm) e
    refine h h'.objs.size c' _ ctv H1 _ J ex (fun p hp => ?_) (Heap.get?_push_size _ rfl) ?_ (old _ le) atc
    · by_cases z : p.1 = P
      · rw [hu p hp z, z]
        refine ⟨_, at1, by rw [Array.toList_append]; exact PySem.TriplesOk_snoc _ _ _ _ tr, fun p' cv e => ?_⟩
        rw [Array.toList_append] at e
        rcases among_app _ tr e with e | e
        · obtain ⟨c0, e1, e2⟩ := nm p' cv e
          exact ⟨c0, e1, cod e2⟩
        · exact ⟨c', e, atc⟩
      · obtain ⟨qs, q1, q2, q3⟩ := hT p hp
        refine ⟨qs, ex _ _ z q1, q2, fun p' cv e => ?_⟩
        obtain ⟨c0, e1, e2⟩ := q3 p' cv e
        exact ⟨c0, e1, cod e2⟩
    · rw [← hH, upd_ne nfc, upd_ne nfP]
      exact I.hok.fresh le
end
def tLam3 (T : List (Addr × Str)) (P : Addr) (TT : (XK → Hp → VK → Prop) → Hp → VK → Prop) (t : XK → TE) : TE := fun σ H Q => Tabs T H ∧ ∀ H1, ExP P H H1 → Tabs T H1 → TT (fun E H' Q' => t E σ H' Q') H1 Q
section
variable {X : Cx}
/-- x(lambda: body) -/
theorem pe_lam3 {T : List (Addr × Str)} {TT : (XK → Hp → VK → Prop) → Hp → VK → Prop} {x a : Str} {g c P : Addr} {k : Nat} {pg : Arguments} {bg : List Stmt} {sg : Scope} {dV kV doc pm cdv ct oc : Value} {an od : Option Addr} {osl : Array (Option Value)} {Ng : List Str}
    {params : Arguments} {body : Expr} {scope : Scope} {t : XK → TE} {p lpos pos : Pos} (hg : Gl X x) (hm : X.mg x = some (.ref g)) (hk : PySem.W.keepIn X.K (.ref g) = true)
    (lk : X.K.lookup g = some ⟨oc, od, .func (PySem.W.fnOf x x pg bg sg dV kV doc pm an cdv ct), osl⟩) (hcg : PySem.W.codeIn X.K cdv x = true) (hb : L2.Binds X.K (PySem.W.fnOf x x pg bg sg dV kV doc pm an cdv ct) [a] []) (Sg : FnScope Ng [a] sg) (hNg : Ng[0]? = some a) (hva : Vis sg a)
    (hG : GivesTo X Ng x sg g cdv bg a (X.env.qual ++ "<lambda>") TT)
    (TB : TabB X.base X.mg c P) (hcode : X.env.code = .ref c) (hmT : (P, X.env.qual ++ "<lambda>") ∈ T) (hu : ∀ p ∈ T, p.1 = P → p.2 = X.env.qual ++ "<lambda>") (hr : Room (k + 2) X.A) (L : LamS X.env.scope scope) (hdef : defaultsOf params X.env = ([], []))
    (hbind : ∀ (q : Str) (cl : List (Str × Addr)) (pm cv ctv : Value), bindArgs (PySem.W.kla_fn "<lambda>" q params body scope cl pm cv ctv) ⟨[], []⟩ = pure [])
    (hbody : ∀ (A : Around) (outer : List Env) (s : Shared) (H : Hp) (E : XK) (f c' : Addr), Room k (A.deeper (lamEnv X scope s.heap.objs.size f c')) → PE (lamCx X A outer s H E scope f c') body (t E))
    (hdb : (x == ("__debug__" : Str)) = false := by decide) (hd : (a == ("__debug__" : Str)) = false := by decide) (hcd : (a == ("__classdict__" : Str)) = false := by decide) :
    PE X (.Call (.Name x p) [.Lambda params body scope lpos] [] pos) (tLam3 T P TT t) := by
  refine ⟨fun pins s σ H Q I ⟨tb, go⟩ => ?_⟩
  refine wpAny_Call_Name_kw (ld_glob I hg hm (PySem.W.callWith_K (h₀ := X.base) I.ok.mod.kin hk ?_ (by rfl) (by rfl)) hdb)
  show wpAny _ _ (spliced ((false, eval (.Lambda params body scope lpos) X.env) :: backTo pos (starEach [] X.env))) _ _ s
  refine Calls.spliced_cons (made3 I TB hcode hmT hu tb hdef (L.has I.ok) fun f c' _ _ H1 s1 J ex tb1 get no nf at1 => Calls.spliced_nil ⟨J.kIn, ?_⟩)
  refine wpAny_call (codeAny_mono (run_ofS (CX := C8.CX0) (E := C8.E0) (Q := Q) (N := Ng) (ps := [a]) (us := [.ref f]) (vs := [.ref f]) lk hcg Sg hr J.env0 (hb s1 [.ref f] J.kIn rfl) (.cons rfl .nil) rfl fun hr1 => ?_) fun r s2 q => ?_)
  · obtain ⟨t1, w1, w2⟩ := hG f c' s1 H1 Q _ (fun W pn xe E p1 p2 tk hW => pe_act (i := 0) J L get no nf (hbind _ _ _ _ _) tk hW hr1 (fun A outer s H hr2 => hbody A outer s H E f c' hr2) hNg hva hd hcd) at1 (go H1 ex tb1)
    exact ⟨t1, w1.nox, w2⟩
  · cases r with
    | error e => exact (show False from q).elim
    | ok fl =>
      cases fl with
      | ret u => exact J.after q
      | next => exact False.elim q
      | brk => exact False.elim q
      | cont => exact False.elim q
end
/-! ### the table of code grows, over data -/
section
variable {Γ : Ga} {ε ε2 : List AV} {T T2 : Addr → Prop} {σ : L2.St} {H H2 : Hp}
theorem Rep.lam {P : Addr} (R : Rep Γ ε T σ H) (z : Zp Γ P) (e : ExP P H H2) (tz : Tabs Γ.tb H2) : Rep Γ ε T σ H2 ∧ Stp Γ ε T ε T σ H H2 := by
  obtain ⟨ps, hps⟩ := zp_at R.tz z
  obtain ⟨qs, hqs⟩ := zp_0 z
  have inM : Mx Γ ε T σ P := .inl (zp_M z)
  have f : Fit2 (Mx Γ ε T σ) (Mx Γ ε T σ) H H2 := ⟨fun _ h => .inl h, fun b o n h => e b o (fun w => n (w ▸ inM)) h⟩
  have lst : ∀ {b : Addr} {xs : List V}, H b = some (.lst xs) → H2 b = some (.lst xs) := fun {b xs} h => e b _ (fun w => by rw [w, hps] at h; cases h) h
  have hp2 : ∃ o, H2 Γ.p = some (.lst o) := R.hp.elim fun o h => ⟨o, lst h⟩
  refine ⟨⟨R.ln, R.pm, hp2, R.hp0, fun b o n h => e b o (fun w => n.2 (w ▸ z)) (R.ext b o n h), R.ml, fun a h => ?_, R.dis, fun i u h => (R.sl i u h).go f (fun n hp => ?_) (fun xs a e1 e2 o h2 => ?_), Γ.fst _ _ _ _ f R.fr, tz⟩, fun b o n h => e b o (fun w => n.2 (w ▸ z)) h, hp2, tz, fun _ h => h, fun _ h => .inl h⟩
  · obtain ⟨h1, ⟨vs, h2⟩, h3⟩ := R.tmp a h
    exact ⟨h1, ⟨vs, lst h2⟩, h3⟩
  · obtain ⟨x, y, c, h1, h2, h3⟩ := hp
    exact ⟨x, y, c, h1, h2, lst h3⟩
  · subst e1
    obtain ⟨a', vs, q1, q2, q3, _⟩ := R.sl i _ h
    rw [e2] at q1
    cases q1
    rw [q3] at h2
    cases h2
    exact lst q3
end
/-- how the heap stands behind a def that makes lambdas -/
def AftL (tb : List (Addr × Str)) (p : Addr) (H H' : Hp) (n : Nat) : Prop := (∀ b o, b ≠ p → (¬ ∃ q ∈ tb, q.1 = b) → H b = some o → H' b = some o) ∧ PailAt H' p n ∧ Tabs tb H'
/-- what a def promises that draws and makes lambdas -/
def SpL (tb : List (Addr × Str)) (R : DR) : Sp := fun vs H Q _ => ∃ (p : Addr) (M : Addr → Prop) (n : Nat) (rs : List RV), M p ∧ (∃ o, H p = some (.lst o)) ∧ (∀ a, M a → a = p ∨ Ls H a) ∧ PailAt H p n ∧ Tabs tb H ∧ (∀ q ∈ tb, M q.1) ∧ ArgA p M H rs vs ∧
  R.run n rs fun r n' => ∀ v H', AftL tb p H H' n' → ResR M H r v H' → Q v H'
def xCallL (tb : List (Addr × Str)) (R : DR) (a : XA) : XE := ⟨fun ε K => a.run ε fun rs ε1 => ∃ rs' n, kas rs = some rs' ∧ pnOf ε1 = some n ∧ tbOf ε1 = some tb ∧ R.run n rs' fun r n' => okRes r = true ∧ K r (aftP true n' ε1),
  fun h q => a.mono (fun _ _ ⟨rs, n, e1, e2, e3, w⟩ => ⟨rs, n, e1, e2, e3, R.mono (fun _ _ k => ⟨k.1, h _ _ k.2⟩) w⟩) q⟩
section
variable {σ : L2.St} {H : Hp}
theorem callL_up {tb : List (Addr × Str)} {R : DR} {a : XA} {E : XK} {Q : VK} {sp : Sp} (ad : ∀ vs H Q, SpL tb R vs H Q E → sp vs H Q E) (h : up (xCallL tb R a) σ H Q) : upA a σ H fun vs H1 => sp vs H1 Q E := by
  obtain ⟨Γ, ε, T, R0, k⟩ := h
  refine upA1 R0 k fun rs vs ε1 T1 H1 ⟨rs', n, e1, e2, e3, g⟩ R1 s1 d1 => ad vs H1 Q ?_
  have tb1 := R1.tbs e3
  subst tb1
  have R2 := R1.less (T' := T) s1.t
  exact ⟨Γ.p, Mx Γ ε1 T σ, n, rs', .inl R1.pm, R1.hp, R2.lists, (R1.pail e2).1, R1.tz, fun q hq => .inl (Γ.tm q hq), kas_arg R0 R1 s1 d1 e1,
    R.mono (fun r n' ⟨ok, w⟩ v H' af rr => call_aft (B := true) (K := fun r ε' => ∀ v T' H', Rep Γ ε' T' σ H' → Stp Γ ε T ε' T' σ H H' → Den Γ ε' T' σ H r v H' → Q v H') R0 R1 s1 (fun _ => e2) ok w af rr fun r ε' v T' H' w R' s' d' => w v T' H' R' s' d') g⟩
end
theorem x_callL {X : Cx} {Ex : Expr} {tb : List (Addr × Str)} {R : DR} {a : XA} {sp : Sp} (h : PE X Ex (fun σ H Q => upA a σ H fun vs H1 => sp vs H1 Q fun _ _ _ => False)) (ad : ∀ vs H Q, SpL tb R vs H Q (fun _ _ _ => False) → sp vs H Q fun _ _ _ => False) : PE X Ex (up (xCallL tb R a)) :=
  pe_wk h fun σ H Q q => callL_up ad q
def toAVL (tb : List (Addr × Str)) (n : Nat) : RV → AV
  | .d x => .d x
  | .p => .q n tb
  | .o P => .o P
  | _ => .u
/-- the body of a def that makes lambdas, entered -/
theorem enterL {tb : List (Addr × Str)} {R : DR} {t : XS} {N : List Str} {vs : List V} {H : Hp} {Q : VK} {E : XK} (h : SpL tb R vs H Q E) (hn : vs.length ≤ N.length)
    (k : ∀ n rs K, R.run n rs K → t.run (okEnd true K) (rs.map (toAVL tb n) ++ List.replicate (N.length - rs.length) .u)) : upS t { nx := fun _ H' => Q .non H', rt := Q } (start N vs) H := by
  obtain ⟨p, M, n, rs, pm, ph, ml, hP, tz, tm, ag, hr⟩ := h
  have lv := arg_len ag
  let Γ : Ga := ⟨true, p, M, H, fun _ _ => True, fun _ _ _ _ _ _ => trivial, tb, tm, fun q hq => (tz q hq).elim fun ps h => ⟨ps, h.1⟩⟩
  have noL : ∀ (i : Nat) (xs : List PyData), (rs.map (toAVL tb n) ++ List.replicate (N.length - rs.length) AV.u)[i]? ≠ some (.l xs) := fun i xs e => by
    by_cases z : i < (rs.map (toAVL tb n)).length
    · rw [List.getElem?_append_left z] at e
      obtain ⟨r, _, e⟩ := mapget e
      cases r <;> cases e
    · rw [List.getElem?_append_right (by omega), List.getElem?_replicate] at e
      split at e <;> cases e
  have mx : ∀ a, Mx Γ (rs.map (toAVL tb n) ++ List.replicate (N.length - rs.length) AV.u) TN (start N vs) a ↔ M a := fun a => by
    constructor
    · rintro (z | ⟨i, xs, e, _⟩ | z)
      · exact z
      · exact absurd e (noL i xs)
      · exact z.elim
    · exact fun z => .inl z
  have f : Fit2 M (Mx Γ (rs.map (toAVL tb n) ++ List.replicate (N.length - rs.length) AV.u) TN (start N vs)) H H := Fit2.less fun a z => (mx a).mp z
  have rep : Rep Γ (rs.map (toAVL tb n) ++ List.replicate (N.length - rs.length) AV.u) TN (start N vs) H := by
    refine ⟨?_, pm, ph, ph, fun _ _ _ h => h, ml, fun a h => h.elim, fun i j xs ys h1 _ _ => absurd h1 (noL i xs), fun i e h => ?_, trivial, tz⟩
    · unfold L2.start
      simp only [List.length_append, List.length_map, List.length_replicate, lv]
    · by_cases z : i < (rs.map (toAVL tb n)).length
      · rw [List.getElem?_append_left z] at h
        obtain ⟨r, hr2, rfl⟩ := mapget h
        obtain ⟨v, hv, ar⟩ := arg_at ag hr2
        have sv : (start N vs)[i]? = some (some v) := by
          unfold L2.start
          rw [List.getElem?_append_left (by rw [List.length_map]; exact (List.getElem?_eq_some_iff.mp hv).1), List.getElem?_map, hv]
          rfl
        rw [sv]
        cases r with
        | d x => exact ⟨v, rfl, Dn.go f ar⟩
        | p =>
          have ar' : v = .ref p := ar
          exact ⟨by rw [ar'], hP, rfl, rfl⟩
        | o P => exact ⟨v, rfl, Stb.go f ar⟩
        | f xs => trivial
        | b x => trivial
      · rw [List.getElem?_append_right (by omega), List.getElem?_replicate] at h
        split at h
        · cases h
          trivial
        · cases h
  refine ⟨Γ, _, rep, t.mono (fun e q σ' H' R' => ?_) (fun r e q v σ' T' H' R' d => ?_) (fun _ (h : False) => h.elim) (fun _ (h : False) => h.elim) (k n rs _ hr)⟩
  · obtain ⟨m, hm, q⟩ := q
    exact q .non H' ⟨fun b o nb nz h => R'.ext b o ⟨fun _ => nb, nz⟩ h, (R'.pail (hm rfl)).1, R'.tz⟩ .non
  · obtain ⟨okr, m, hm, q⟩ := q
    have af : AftL tb p H H' m := ⟨fun b o nb nz h => R'.ext b o ⟨fun _ => nb, nz⟩ h, (R'.pail (hm rfl)).1, R'.tz⟩
    have g : Fit2 (Mx Γ e T' σ') M H' H' := Fit2.less fun a z => .inl z
    refine q v H' af ?_
    cases r with
    | d x => exact Dn.go g d
    | o P => exact Stb.go g d
    | f xs =>
      obtain ⟨a, ws, e1, h0, ht, h1, h2, h3⟩ := d
      exact ⟨a, ws, e1, h0, h1, h2, h3.go (Fit2.less fun b z => by
        rcases z with z | rfl
        · exact .inl z
        · exact .inr (.inr ht))⟩
    | b x => cases okr
    | p => cases okr
/-- {} -/
def xDct : XE := ⟨fun ε K => K (.d (.dict [])) ε, fun h k => h _ _ k⟩
theorem xe_dct {X : Cx} {pos : Pos} : PE X (.Dict [] [] pos) (up xDct) := pe_wk pe_dnewK fun σ H Q ⟨Γ, ε, T, R, k⟩ => fun t ht => k (.ref t) T _ (R.same (same_new ht)) ((Stp.refl R).same (same_new ht)) (Dn.dct (R.not_x ht) upd_same)
end Cs
set_option maxHeartbeats 4000000
/-! Over data: repr, methods by keywords, list.index, own objects' special methods. -/
namespace Cs
open PySem PySem.Spec L2 L2H PyProof.Rows
mutual
theorem Dn.rpx {N : Addr → Prop} {H : Hp} : ∀ {v : V} {d : PyData}, Dn N H v d → ∃ m : Nat, ∀ p : Addr, m ≤ p → Rp p H v d
  | _, _, .non => ⟨0, fun _ _ => .non⟩
  | _, _, .bl b => ⟨0, fun _ _ => .bl b⟩
  | _, _, .int i => ⟨0, fun _ _ => .int i⟩
  | _, _, .str x h => ⟨0, fun _ _ => .str x h⟩
  | _, _, @Dn.lst _ _ a _ _ n h z r => by
    obtain ⟨m, k⟩ := DnA.rpx r
    exact ⟨max m (a + 1), fun p hp => .lst (fun e => by have : a + 1 ≤ p := Nat.le_trans (Nat.le_max_right _ _) hp; rw [e] at this; exact absurd this (Nat.not_succ_le_self _)) h z (k p (Nat.le_trans (Nat.le_max_left _ _) hp))⟩
  | _, _, @Dn.tup _ _ a _ _ n h z r => by
    obtain ⟨m, k⟩ := DnA.rpx r
    exact ⟨max m (a + 1), fun p hp => .tup (fun e => by have : a + 1 ≤ p := Nat.le_trans (Nat.le_max_right _ _) hp; rw [e] at this; exact absurd this (Nat.not_succ_le_self _)) h z (k p (Nat.le_trans (Nat.le_max_left _ _) hp))⟩
  | _, _, @Dn.dct _ _ a n h => ⟨a + 1, fun p hp => .dct (fun e => by rw [e] at hp; exact absurd hp (Nat.not_succ_le_self _)) h⟩
theorem DnA.rpx {N : Addr → Prop} {H : Hp} : ∀ {vs : List V} {ds : List PyData}, DnA N H vs ds → ∃ m : Nat, ∀ p : Addr, m ≤ p → RpA p H vs ds
  | _, _, .nil => ⟨0, fun _ _ => .nil⟩
  | _, _, .cons h t => by
    obtain ⟨m, k⟩ := Dn.rpx h
    obtain ⟨n, l⟩ := DnA.rpx t
    exact ⟨max m n, fun p hp => .cons (k p (Nat.le_trans (Nat.le_max_left _ _) hp)) (l p (Nat.le_trans (Nat.le_max_right _ _) hp))⟩
end
theorem bl_repr : BiL tReprD fRepr := by
  intro N H vs ds c Q hs e1 e2 o
  unfold fRepr at e1
  split at e1
  · cases e1
    obtain ⟨v, rfl, h⟩ := see1 hs
    obtain ⟨s1, s2, s3, s4, s5⟩ := e2
    have q := o.txt _ rfl s4
    rcases h with h | ⟨y, ev, e, _⟩ | ⟨a, ws, xs, rfl, rfl, h1, h2, h3⟩
    · obtain ⟨m, k⟩ := h.rpx
      exact ⟨m, v, _, rfl, k m (Nat.le_refl _), s1, s2, s3, s4, q⟩
    · subst ev e
      exact ⟨0, _, _, rfl, .str y (s5 y rfl), s1, s2, s3, s4, q⟩
    · obtain ⟨m, k⟩ := h3.rpx
      refine ⟨max m (a + 1), .ref a, _, rfl, .lst (fun e => ?_) h1 h2 (k _ (Nat.le_max_left _ _)), s1, s2, s3, s4, q⟩
      have : a + 1 ≤ max m (a + 1) := Nat.le_max_right _ _
      rw [← e] at this
      exact absurd this (Nat.not_succ_le_self _)
  · cases e1
theorem x_callG {X : Cx} {Ex : Expr} {B : Bool} {R : DR} {a : XA} {sp : Sp} (h : PE X Ex (fun σ H Q => upA a σ H fun vs H1 => sp vs H1 Q fun _ _ _ => False)) (ad : ∀ vs H Q, SpD B R vs H Q (fun _ _ _ => False) → sp vs H Q fun _ _ _ => False) : PE X Ex (up (xCall B R a)) :=
  pe_wk h fun σ H Q q => call_up ad q
/-- an own method by keywords alone; they stand the other way round -/
def xMethK (C : Addr) (m : Str) (R : DR) (o : XE) (a : XA) : XE := ⟨fun ε K => o.run ε fun r ε1 => ∃ P, r = .o P ∧ InsM C m P ∧ a.run ε1 fun rs ε2 => ∃ rs', kas rs = some rs' ∧ R.run 0 (.o P :: rs'.reverse) fun r n' => okRes r = true ∧ K r ε2,
  fun h q => o.mono (fun _ _ ⟨P, e, i, q⟩ => ⟨P, e, i, a.mono (fun _ _ ⟨rs, e1, w⟩ => ⟨rs, e1, R.mono (fun _ _ k => ⟨k.1, h _ _ k.2⟩) w⟩) q⟩) q⟩
theorem x_methK {X : Cx} {Ex : Expr} {C : Addr} {m : Str} {R : DR} {o : XE} {a : XA} {E : XK} {sp : Sp} {n : Nat} (h : PE X Ex (tMethK C m n sp (fun vs zs => vs ++ zs.reverse) E (up o) (upA a))) (hm : ∀ k rs K, R.run k rs K → rs.length = n + 1) (ad : ∀ vs H Q, SpD false R vs H Q E → sp vs H Q E) : PE X Ex (up (xMethK C m R o a)) :=
  pe_wk h fun σ H Q ⟨Γ, ε, T, R0, k⟩ => up1 R0 k fun r x ε1 T1 H1 ⟨P, er, im, g⟩ R1 s1 d1 => by
    subst er
    have hP : P x H1 := d1 H1 fun _ _ _ h => h
    obtain ⟨b, dx, fs, rfl, hb, hl⟩ := im x H1 hP
    refine ⟨b, dx, fs, rfl, hb, hl, upA1 R1 g fun rs vs ε2 T2 H2 ⟨rs', e1, w⟩ R2 s2 d2 => ?_⟩
    have dd : DenA Γ ε2 T2 σ H (.o P :: rs) (.ref b :: vs) H2 := .cons (d1.step R1 s2) (d2.early fun a => s1.none R0.hp) (fun xs a e => nomatch e)
    have e1' : kas (.o P :: rs) = some (.o P :: rs') := by
      show (kas rs).map _ = _
      rw [e1]
      rfl
    have lw := hm _ _ _ w
    rw [List.length_cons, List.length_reverse] at lw
    have ll := arg_len (kas_arg R0 R2 (s1.trans R0.hp s2) dd e1')
    rw [List.length_cons, List.length_cons] at ll
    refine ⟨by omega, ?_⟩
    refine ad _ H2 Q (call_core (B := false) (n := 0) (rs2 := .o P :: rs'.reverse) (vs2 := .ref b :: vs.reverse) (K := fun r ε' => ∀ v T' H', Rep Γ ε' T' σ H' → Stp Γ ε T ε' T' σ H H' → Den Γ ε' T' σ H r v H' → Q v H') R0 R2 (s1.trans R0.hp s2) dd e1' (fun h => ?_) nofun w fun r ε' v T' H' w R' s' d' => w v T' H' R' s' d')
    cases h with
    | cons h t => exact .cons h (argA_rev t)
/-! ### xs.index(x) of texts -/
def xIdx (o : XE) (a : XA) : XE := ⟨fun ε K => o.run ε fun r ε1 => ∃ (xs : List Str), r.see = some (.list (xs.map PyData.str)) ∧ a.run ε1 fun rs ε2 => ∃ (y : Str) (j : Nat), sees rs = some [.str y] ∧ xs.Nodup ∧ xs[j]? = some y ∧ K (.d (.int (j : Nat))) ε2,
  fun h q => o.mono (fun _ _ ⟨xs, e, q⟩ => ⟨xs, e, a.mono (fun _ _ ⟨y, j, e1, n, e2, k⟩ => ⟨y, j, e1, n, e2, h _ _ k⟩) q⟩) q⟩
theorem strs_dn2 {N : Addr → Prop} {H : Hp} : ∀ {vs : List V} {xs : List Str}, DnA N H vs (xs.map PyData.str) → vs = xs.map V.str
  | _, [], .nil => rfl
  | _, x :: xs, .cons h t => by
    cases h
    rw [strs_dn2 t]
    rfl
theorem x_idx {X : Cx} {Ex : Expr} {o : XE} {a : XA} (h : PE X Ex (tBM X.K "list" (rIndex X.K) (up o) (upA a))) : PE X Ex (up (xIdx o a)) :=
  pe_wk h fun σ H Q ⟨Γ, ε, T, R0, k⟩ => up1 R0 k fun r x ε1 T1 H1 ⟨xs, er, g⟩ R1 s1 d1 => by
    obtain ⟨b, ws, rfl, b1, b2, b3⟩ := (d1.see er).list
    have e := strs_dn2 b3
    subst e
    refine ⟨.inl ⟨rfl, _, SqL.of b1⟩, upA1 R1 g fun rs vs ε2 T2 H2 ⟨y, j, e1, nd, e2, g⟩ R2 s2 d2 => ?_⟩
    obtain ⟨v, rfl, hv⟩ := see1 (d2.see e1)
    have ev := hv.str.1
    subst ev
    have sd := (d1.step R1 s2).see er
    obtain ⟨b', ws', eb, c1, c2, c3⟩ := sd.list
    cases eb
    have e' := strs_dn2 c3
    subst e'
    refine ⟨b, _, _, j, .str y, rfl, rfl, SqL.of c1, rfl, List.all_eq_true.mpr fun z hz => ?_, by rw [List.getElem?_map, e2]; rfl, decide_eq_true rfl, fun m z hm hz => ?_, g _ T2 H2 R2 (s1.trans R0.hp s2) (.int _)⟩
    · obtain ⟨q, _, rfl⟩ := List.mem_map.mp hz
      rfl
    · rw [List.getElem?_map] at hz
      obtain ⟨q, hq, rfl⟩ := Option.map_eq_some_iff.mp hz
      refine decide_eq_false fun e => ?_
      subst e
      obtain ⟨l1, g1⟩ := List.getElem?_eq_some_iff.mp e2
      obtain ⟨l2, g2⟩ := List.getElem?_eq_some_iff.mp hq
      exact (List.pairwise_iff_getElem.mp nd) m j l2 l1 hm (g2.trans g1.symm)
/-! ### len, str, bool of own objects -/
def IsI (C : Addr) (P : V → Hp → Prop) : Prop := ∀ v H, P v H → ∃ a dx fs, v = .ref a ∧ H a = some (.ins C dx fs)
def xLenW (C : Addr) (R : DR) (a : XA) : XE := ⟨fun ε K => a.run ε fun rs ε1 => ∃ P, rs = [.o P] ∧ IsI C P ∧ R.run 0 [.o P] fun r _ => ∃ n : Nat, r = .d (.int (n : Nat)) ∧ n < 1000000 ∧ K (.d (.int (n : Nat))) ε1,
  fun h q => a.mono (fun _ _ ⟨P, e, i, w⟩ => ⟨P, e, i, R.mono (fun _ _ ⟨n, a, b, k⟩ => ⟨n, a, b, h _ _ k⟩) w⟩) q⟩
def xBoolW (C : Addr) (R : DR) (a : XA) : XE := ⟨fun ε K => a.run ε fun rs ε1 => ∃ P, rs = [.o P] ∧ IsI C P ∧ R.run 0 [.o P] fun r _ => ∃ n : Nat, r = .d (.int (n : Nat)) ∧ n < 1000000 ∧ K (.d (.bool (n != 0))) ε1,
  fun h q => a.mono (fun _ _ ⟨P, e, i, w⟩ => ⟨P, e, i, R.mono (fun _ _ ⟨n, a, b, k⟩ => ⟨n, a, b, h _ _ k⟩) w⟩) q⟩
def xStrW (C : Addr) (R : DR) (a : XA) : XE := ⟨fun ε K => a.run ε fun rs ε1 => ∃ P, rs = [.o P] ∧ IsI C P ∧ R.run 0 [.o P] fun r _ => ∃ y : Str, r = .d (.str y) ∧ K (.d (.str y)) ε1,
  fun h q => a.mono (fun _ _ ⟨P, e, i, w⟩ => ⟨P, e, i, R.mono (fun _ _ ⟨n, a, k⟩ => ⟨n, a, h _ _ k⟩) w⟩) q⟩
section
variable {Γ : Ga} {ε ε1 : List AV} {T T1 : Addr → Prop} {σ : L2.St} {H H1 : Hp}
/-- a def that looks at one own object -/
theorem look1 {R : DR} {P : V → Hp → Prop} {v : V} {E : XK} {Q : VK} {G : RV → Prop} (R1 : Rep Γ ε1 T1 σ H1) (d1 : Stb (Mx Γ ε1 T1 σ) H1 P v) (w : R.run 0 [.o P] fun r _ => G r)
    (k : ∀ r v' H', G r → Same H1 H' → (∀ d, r = .d d → Dn NF H' v' d ∨ Dn (fun a => a = Γ.p) H' v' d) → Q v' H') : SpD false R [v] H1 Q E := by
  have f : Fit2 (Mx Γ ε1 T1 σ) (fun a => a = Γ.p) H1 H1 := Fit2.less fun a z => z ▸ .inl R1.pm
  refine ⟨Γ.p, fun a => a = Γ.p, 0, [.o P], rfl, R1.hp, fun a z => .inl z, nofun, .cons (Stb.go f d1) .nil, R.mono (fun r n' g v' H' af rr => ?_) w⟩
  have af : Same H1 H' := af
  refine k r v' H' g af fun d e => ?_
  subst e
  exact .inr rr
end
section
variable {X : Cx} {Ex : Expr} {C : Addr} {E : XK} {a : XA} {R : DR}
theorem x_lenW (h : PE X Ex (tCB (rLenI C (SpD false R) E) (upA a))) : PE X Ex (up (xLenW C R a)) :=
  pe_wk h fun σ H Q ⟨Γ, ε, T, R0, k⟩ => upA1 R0 k fun rs vs ε1 T1 H1 ⟨P, e, hP, g⟩ R1 s1 d1 => by
    subst e
    obtain ⟨v, rfl, d⟩ := den1 d1
    have d : Stb (Mx Γ ε1 T1 σ) H1 P v := d
    obtain ⟨t, dx, fs, rfl, h1⟩ := hP v H1 d.now
    refine ⟨t, dx, fs, rfl, h1, look1 R1 d g fun r v' H' ⟨n, er, ln, kk⟩ sm dn => ?_⟩
    have ev : v' = .int (n : Nat) := by rcases dn _ er with q | q <;> (cases q; rfl)
    exact ⟨n, ev, ln, kk _ T1 H' (R1.same sm) (s1.same sm) (.int _)⟩
theorem x_boolW (h : PE X Ex (tCB (rBoolI C (SpD false R) E) (upA a))) : PE X Ex (up (xBoolW C R a)) :=
  pe_wk h fun σ H Q ⟨Γ, ε, T, R0, k⟩ => upA1 R0 k fun rs vs ε1 T1 H1 ⟨P, e, hP, g⟩ R1 s1 d1 => by
    subst e
    obtain ⟨v, rfl, d⟩ := den1 d1
    have d : Stb (Mx Γ ε1 T1 σ) H1 P v := d
    obtain ⟨t, dx, fs, rfl, h1⟩ := hP v H1 d.now
    refine ⟨t, dx, fs, rfl, h1, look1 R1 d g fun r v' H' ⟨n, er, ln, kk⟩ sm dn => ?_⟩
    have ev : v' = .int (n : Nat) := by rcases dn _ er with q | q <;> (cases q; rfl)
    exact ⟨n, ev, ln, kk _ T1 H' (R1.same sm) (s1.same sm) (.bl _)⟩
theorem x_strW (h : PE X Ex (tCB (rStrI C (SpD false R) E) (upA a))) : PE X Ex (up (xStrW C R a)) :=
  pe_wk h fun σ H Q ⟨Γ, ε, T, R0, k⟩ => upA1 R0 k fun rs vs ε1 T1 H1 ⟨P, e, hP, g⟩ R1 s1 d1 => by
    subst e
    obtain ⟨v, rfl, d⟩ := den1 d1
    have d : Stb (Mx Γ ε1 T1 σ) H1 P v := d
    obtain ⟨t, dx, fs, rfl, h1⟩ := hP v H1 d.now
    refine ⟨t, dx, fs, rfl, h1, look1 R1 d g fun r v' H' ⟨y, er, kk⟩ sm dn => ?_⟩
    have ev : v' = .str y ∧ y.length ≤ 1000 := by rcases dn _ er with q | q <;> (cases q; exact ⟨rfl, by assumption⟩)
    exact ⟨y, ev.1, kk _ T1 H' (R1.same sm) (s1.same sm) (.str _ ev.2)⟩
end
/-- special methods of the class at C -/
structure SpcW (K : PySem.W.Frag) (C fl fs fe : Addr) : Prop where
  len : PySem.W.findIn K (.ref C) "__len__" = some (some (.ref fl))
  lenf : PySem.W.isFn K (.ref fl) = true
  str : PySem.W.findIn K (.ref C) "__str__" = some (some (.ref fs))
  strf : PySem.W.isFn K (.ref fs) = true
  eq : PySem.W.findIn K (.ref C) "__eq__" = some (some (.ref fe))
  eqf : PySem.W.isFn K (.ref fe) = true
  ne : PySem.W.findIn K (.ref C) "__ne__" = some (some (.builtin "object.__ne__"))
  bo : PySem.W.findIn K (.ref C) "__bool__" = some none
  ob : PySem.W.subIn K (.ref C) (.type "object") = some true
/-- no data is of the class at C -/
def NoInsW (K : PySem.W.Frag) (C : Addr) : Prop := ∀ d : PyData, PySem.W.kitOne K (.type (tyD d)) (.ref C) = some false
end Cs
set_option maxHeartbeats 4000000
local macro_rules | `(tactic| walk_at "xg") => `(tactic| try dsimp only [Cs.xRet, Cs.xRetN, Cs.xOp, Cs.xUn, Cs.xV, Cs.xB, Cs.xC, Cs.xCall, Cs.xCons, Cs.xNil, Cs.xBi, Cs.xSeq, Cs.xSet, Cs.xSets, Cs.xIfS, Cs.xTest, Cs.xTup, Cs.xLst, Cs.xAndV, Cs.xOrV, Cs.xNotV, Cs.xNot, Cs.xAndT, Cs.xOrT, Cs.xIf, Cs.xSl, Cs.xNoPart, Cs.xPart, Cs.xiL, Cs.xiB, Cs.xiT, Cs.xiR1, Cs.xiR2, Cs.xiS, Cs.xiZ, Cs.xiE, Cs.xgN, Cs.xgT, Cs.xgNil, Cs.xgCons, Cs.xYes, Cs.xDrop, Cs.xApp, Cs.xPopS, Cs.xPopA, Cs.xAsg, Cs.xNext, Cs.xNev, Cs.xChain, Cs.xIsi, Cs.xRaw, Cs.okEnd, Cs.toAV, Cs.setP, Cs.aftP, Cs.xCallK, Cs.xMeth, Cs.xProp, Cs.xW, Cs.xM1, Cs.xRv, Cs.xiR3, Cs.xMethK, Cs.xLstO, Cs.xiO, Cs.elA, Cs.turnO, Cs.xWp, Cs.xFl, Cs.xTz, Cs.xWhile, Cs.toAVL, Cs.xCallL, Cs.xDct, Cs.xgU, Cs.xSlS, Cs.xiZs, Cs.xExt, Cs.xCallB, Cs.xStar, Cs.xJs, Cs.jsRun, Cs.xFld, Cs.xLenW, Cs.xStrW, Cs.xBoolW, Cs.xIdx, List.map, List.replicate, List.length_cons, List.length_nil, List.cons_append, List.nil_append, List.set_cons_succ, List.set_cons_zero, Nat.add_sub_cancel, Nat.sub_self, Nat.reduceSub, Nat.reduceAdd, eq_self, ↓reduceIte])
local macro_rules | `(tactic| walk_at "xw") => `(tactic| try dsimp only [Cs.lcTurn, Cs.wipeA, List.set_cons_succ, List.set_cons_zero])
local macro_rules | `(tactic| walk_at "x") => `(tactic| first
  | (with_reducible refine Eq.mpr (if_pos ?_) ?_; exact rfl)
  | (with_reducible refine Eq.mpr (if_neg ?_) ?_; exact Bool.false_ne_true)
  | refine ⟨_, rfl, ?_⟩
  | refine ⟨rfl, ?_⟩
  | refine ⟨_, _, rfl, rfl, True.intro, ?_⟩
  | refine ⟨_, _, _, rfl, rfl, rfl, True.intro, ?_⟩
  | refine ⟨_, rfl, by exact Nat.le_of_ble_eq_true rfl, ?_⟩
  | refine ⟨by exact Nat.le_of_ble_eq_true rfl, ?_⟩
  | refine ⟨_, _, _, _, rfl, rfl, rfl, rfl, ?_⟩
  | refine ⟨_, _, rfl, ?_⟩
  | refine ⟨⟨_, rfl⟩, ?_⟩
  | refine ⟨_, _, rfl, fun _ => rfl, ?_⟩
  | refine ⟨_, 0, rfl, (fun z => (nomatch z)), ?_⟩
  | refine ⟨_, fun _ => rfl, ?_⟩
  | refine ⟨0, (fun z => (nomatch z)), ?_⟩
  | fail "x")
local macro_rules | `(tactic| walk_at "xs") => `(tactic| repeat' (walk_at "xg"; walk_at "x"))
local macro_rules | `(tactic| walk_at "sets") => `(tactic| (intro vs σ H Q hl hq; first
  | exact (match vs, hl, hq with | [_], _, q => ⟨_, _, rfl, rfl, q⟩)
  | exact (match vs, hl, hq with | [_, _], _, q => ⟨_, _, rfl, _, _, rfl, rfl, q⟩)
  | exact (match vs, hl, hq with | [_, _, _], _, q => ⟨_, _, rfl, _, _, rfl, _, _, rfl, rfl, q⟩)
  | fail "sets"))
/-! webs as objects: what they tell (TxtWeb) -/
namespace Cs
open PySem PySem.Spec L2 L2H PyProof.Rows TL
def RIo : DR := ⟨fun _ as K => ∃ (d : PyData) (xs : List Str), as = [.d d, .d (.list (xs.map PyData.str))] ∧ (∀ x, d = .str x → x.length ≤ 1000) ∧ K (.d (.bool (match d with | .str x => xs.contains x | _ => false))) 0, fun h ⟨d, xs, e, a, k⟩ => ⟨d, xs, e, a, h _ _ k⟩⟩
def RTi (C : Addr) : DR := ⟨fun _ as K => ∃ (P : V → Hp → Prop) (x : Str) (ls : List Tie) (t : Tie) (j : Nat), as = [.o P, .d (.str t.1)] ∧ (∀ v H, P v H → WebJ C x ls v H) ∧ WebOk x ls ∧ ls[j]? = some t ∧ K (.d (.int (j : Nat))) 0, fun h ⟨P, x, ls, t, j, e, a, g, b, k⟩ => ⟨P, x, ls, t, j, e, a, g, b, h _ _ k⟩⟩
def RSw (C : Addr) : DR := ⟨fun _ as K => ∃ (P : V → Hp → Prop) (x : Str) (ls : List Tie) (t : Tie) (j : Nat), as = [.o P, .d (.str t.1)] ∧ (∀ v H, P v H → WebJ C x ls v H) ∧ WebOk x ls ∧ ls[j]? = some t ∧ K (.d (wSp t.2)) 0, fun h ⟨P, x, ls, t, j, e, a, g, b, k⟩ => ⟨P, x, ls, t, j, e, a, g, b, h _ _ k⟩⟩
def tiS (ls : List Tie) : List Str := ls.map (fun x : Tie => x.1)
theorem WebOk.prs {x : Str} {ls : List Tie} (g : WebOk x ls) : (tiS ls).Nodup := g.asc.imp fun h e => by
  rw [e] at h
  exact absurd h (List.lt_irrefl _)
theorem WebOk.pl {x : Str} {ls : List Tie} (g : WebOk x ls) {t : Tie} (h : t ∈ ls) : t.1.length = 2 := by
  have gt := tie_inv (g.tie t h)
  have t2 := isLet_inv gt.1
  omega
theorem any_strs {xs : List Str} {x : Str} : ((xs.map PyData.str).any fun y => y.eqv (.str x)) = xs.contains x := by
  induction xs with
  | nil => rfl
  | cons y ys ih =>
    rw [List.map_cons, List.any_cons, List.contains_cons, ih]
    congr 1
    show decide (y = x) = (x == y)
    rw [Bool.eq_iff_iff, decide_eq_true_iff, beq_iff_eq]
    exact eq_comm
section
variable {P : Program} {w : World} {K : PySem.W.Frag} {mg : Str → Option Value} {base : Heap} {C : Addr}
theorem sc_w_places : FnScope ["self"] ["self"] (defScope (inClass (topS 27) 2)) := ⟨rfl, rfl, rfl, by decide +kernel, rfl, by decide +kernel, by decide +kernel⟩
theorem ok_w_places {f : Addr} {fd : FuncData} {q : Str} (F : FunD K "places" q (defArgs (inClass (topS 27) 2)) (defBody (inClass (topS 27) 2)) (defScope (inClass (topS 27) 2)) [] [] f fd) (WC : WebC K C) : FnOk P w K mg base CX0 1 f fd ["self"] (SpD false (RPl C)) := by
  have nd := sc_w_places.nd
  refine funD_dl F sc_w_places (by decide) (by rintro n rs K ⟨_, _, _, rfl, _⟩; exact ⟨rfl, rfl⟩) fun cdv A outer s H E hr => ?_
  have hu64 := hr.units
  refine ⟨_, (xss_one (xs_ret (xe_fld (xe_v (pv 0)) WC.c WC.n1))), ?_⟩
  rintro n as K ⟨Pr, x, ls, rfl, hP, k⟩
  walk_at "xs"
  exact ⟨Pr, _, rfl, WebJ.pl.imp hP, rfl, rfl, _, nofun, k⟩
theorem sc_w_ties : FnScope ["self"] ["self"] (defScope (inClass (topS 27) 3)) := ⟨rfl, rfl, rfl, by decide +kernel, rfl, by decide +kernel, by decide +kernel⟩
theorem ok_w_ties {f : Addr} {fd : FuncData} {q : Str} (F : FunD K "ties" q (defArgs (inClass (topS 27) 3)) (defBody (inClass (topS 27) 3)) (defScope (inClass (topS 27) 3)) [] [] f fd) (WC : WebC K C) : FnOk P w K mg base CX0 1 f fd ["self"] (SpD false (RTs C)) := by
  have nd := sc_w_ties.nd
  refine funD_dl F sc_w_ties (by decide) (by rintro n rs K ⟨_, _, _, rfl, _⟩; exact ⟨rfl, rfl⟩) fun cdv A outer s H E hr => ?_
  have hu64 := hr.units
  refine ⟨_, (xss_one (xs_ret (xe_fld (xe_v (pv 0)) WC.c WC.n2))), ?_⟩
  rintro n as K ⟨Pr, x, ls, rfl, hP, k⟩
  walk_at "xs"
  exact ⟨Pr, _, rfl, WebJ.ts.imp hP, imm_ties, rfl, _, nofun, k⟩
theorem sc_w_len : FnScope ["self"] ["self"] (defScope (inClass (topS 27) 6)) := ⟨rfl, rfl, rfl, by decide +kernel, rfl, by decide +kernel, by decide +kernel⟩
theorem ok_w_len {f : Addr} {fd : FuncData} {q : Str} (F : FunD K "__len__" q (defArgs (inClass (topS 27) 6)) (defBody (inClass (topS 27) 6)) (defScope (inClass (topS 27) 6)) [] [] f fd) (WC : WebC K C) (T : Txt mg) : FnOk P w K mg base CX0 1 f fd ["self"] (SpD false (RLnW C)) := by
  have nd := sc_w_len.nd
  refine funD_dl F sc_w_len (by decide) (by rintro n rs K ⟨_, _, _, rfl, _⟩; exact ⟨rfl, rfl⟩) fun cdv A outer s H E hr => ?_
  have hu64 := hr.units
  refine ⟨_, (xss_one (xs_ret (x_bi (pe_callB call_lenA (by rfl) T.len_ (by decide +kernel) (xa_cons (xe_fld (xe_v (pv 0)) WC.c WC.n2) xa_nil)) bl_len))), ?_⟩
  rintro n as K ⟨Pr, x, ls, rfl, hP, g, k⟩
  walk_at "xs"
  refine ⟨Pr, _, rfl, WebJ.ts.imp hP, imm_ties, ?_⟩
  walk_at "xs"
  rw [List.length_map]
  exact k
theorem sc_w_str : FnScope ["self"] ["self"] (defScope (inClass (topS 27) 5)) := ⟨rfl, rfl, rfl, by decide +kernel, rfl, by decide +kernel, by decide +kernel⟩
theorem ok_w_str {f gt pt : Addr} {fd fdt : FuncData} {q : Str} (F : FunD K "__str__" q (defArgs (inClass (topS 27) 5)) (defBody (inClass (topS 27) 5)) (defScope (inClass (topS 27) 5)) [] [] f fd) (WC : WebC K C) (T : Txt mg)
    (F_text : FnOk P w K mg base CX0 2 gt fdt ["self"] (SpD false (RTx C))) (hp_text : PropOf K C "text" pt gt) (b_text : Binds K fdt ["self"] []) : FnOk P w K mg base CX0 4 f fd ["self"] (SpD false (RTx C)) := by
  have nd := sc_w_str.nd
  have hTC := WC.c
  refine funD_dl F sc_w_str (by decide) (by rintro n rs K ⟨_, _, _, rfl, _⟩; exact ⟨rfl, rfl⟩) fun cdv A outer s H E hr => ?_
  have hu64 := hr.units
  refine ⟨_, (xss_one (xs_ret (x_bi (pe_callTy SkE.call_str_str (by rfl) T.str_ (by decide +kernel) (xa_cons (x_prop (pe_prop (xe_v (pv 0)) hTC hp_text F_text (hr.mono (by decide)) b_text .nil pass0 rfl) (fun _ _ _ h => h)) xa_nil)) bl_strS))), ?_⟩
  rintro n as K ⟨Pr, x, ls, rfl, hP, g, k⟩
  have pl := g.page
  walk_at "xs"
  exact ⟨fun v H h => WebJ.isI _ _ (hP v H h), Pr, x, ls, rfl, hP, g, rfl, _, _, rfl, rfl, by omega, rfl, _, nofun, k⟩
theorem sc_pairs_of : FnScope ["web", "pair", "_"] ["web"] (defScope (topS 33)) := ⟨rfl, rfl, rfl, by decide +kernel, rfl, by decide +kernel, by decide +kernel⟩
theorem ok_pairs_of {gt pt : Addr} {fdt : FuncData} (D : DefAt K mg "pairs_of" (topS 33) ["web"]) (WC : WebC K C)
    (F_ties : FnOk P w K mg base CX0 1 gt fdt ["self"] (SpD false (RTs C))) (hp_ties : PropOf K C "ties" pt gt) (b_ties : Binds K fdt ["self"] []) : C8.Cal P w K mg base 3 "pairs_of" (SpD false (RPrs C)) [] := by
  have nd := sc_pairs_of.nd
  have hTC := WC.c
  refine D.dl sc_pairs_of (by decide) (by rintro n rs K ⟨_, _, _, rfl, _⟩; exact ⟨rfl, rfl⟩) fun f cdv A outer s H E hr => ?_
  have hu64 := hr.units
  refine ⟨_, (xss_one (xs_ret (xe_lc (own := [("pair", 1), ("_", 2)]) rfl nd (xi_tup (x_prop (pe_prop (xe_v (pv 0)) hTC hp_ties F_ties (hr.mono (by decide)) b_ties .nil pass0 rfl) (fun _ _ _ h => h))) (blkOk_by (N := ["web", "pair", "_"]) (sc := defScope (topS 33)) (by decide +kernel)) (fun _ _ _ _ _ => (xg_t (pg_tup (by rfl) (xgs_cons (xg_n (pg_name (i := 1) nd rfl (.inl rfl))) (xgs_cons (xg_n (pg_name (i := 2) nd rfl (.inl rfl))) xgs_nil))))) (fun _ _ _ _ _ => xts_nil) (fun _ _ _ _ _ => (xe_v (pv 1))) (by decide)))), ?_⟩
  rintro n as K ⟨Pr, x, ls, rfl, hP, g, k⟩
  have l10 := g.l10
  walk_at "xs"
  refine lc_es ((tiS ls).map PyData.str) ?_
  refine ⟨_, rfl, Pr, rfl, fun v H h => WebJ.isI _ _ (hP v H h), Pr, x, ls, rfl, hP, rfl, ?_⟩
  walk_at "xs"
  refine ⟨by unfold tiS; rw [List.length_map, List.length_map, List.length_map], by rw [List.length_map]; omega, fun j d y hd hy => ?_, ?_⟩
  · obtain ⟨t, ht, rfl⟩ := mapget hd
    unfold tiS at hy
    rw [List.getElem?_map, List.getElem?_map, ht] at hy
    cases hy
    walk_at "xw"
    walk_at "xs"
    rfl
  walk_at "xw"
  walk_at "xs"
  exact k
theorem sc_is_one_of : FnScope ["value", "names"] ["value", "names"] (defScope (topS 16)) := ⟨rfl, rfl, rfl, by decide +kernel, rfl, by decide +kernel, by decide +kernel⟩
theorem ok_is_one_of (D : DefAt K mg "is_one_of" (topS 16) ["value", "names"]) (T : Txt mg) : C8.Cal P w K mg base 1 "is_one_of" (SpD false RIo) [] := by
  have nd := sc_is_one_of.nd
  refine D.dl sc_is_one_of (by decide) (by rintro n rs K ⟨_, _, rfl, _⟩; exact ⟨rfl, rfl⟩) fun f cdv A outer s H E hr => ?_
  have hu64 := hr.units
  refine ⟨_, (xss_one (xs_ret (xe_and (xe_isi (T := "str") (pe_callB call_isi (by rfl) T.isinstance_ (by decide +kernel) (pa_cons (xe_v (pv 0)) (pa_cons (pe_bltn (v := .ty "str") (u := .type "str") (by rfl) T.str_ (by decide +kernel) rfl) pa_nil)))) (xe_one (x_op (pe_cmpR op_in_seq (xe_v (pv 0)) (xe_v (pv 1)) (by rfl)) (ol_in (neg := false))))))), ?_⟩
  rintro n as K ⟨d, xs, rfl, hd, k⟩
  walk_at "xs"
  cases d with
  | str x =>
    refine ⟨_, true, rfl, rfl, true, rfl, iteT ⟨_, rfl, _, rfl, _, _, (_, _), rfl, rfl, rfl, ⟨rfl, hd, List.all_eq_true.mpr fun z hz => ?_⟩, rfl, 0, nofun, ?_⟩⟩
    · obtain ⟨q, _, rfl⟩ := List.mem_map.mp hz
      rfl
    · show K (.d (.bool (if false = true then _ else (xs.map PyData.str).any fun y => y.eqv (.str x)))) 0
      have e : ((xs.map PyData.str).any fun y => y.eqv (.str x)) = xs.contains x := any_strs
      rw [if_neg (by decide), e]
      exact k
  | _ => exact ⟨_, false, rfl, rfl, false, rfl, iteF ⟨rfl, 0, nofun, k⟩⟩
theorem sc_tie_index : FnScope ["web", "pair", "pairs"] ["web", "pair"] (defScope (topS 32)) := ⟨rfl, rfl, rfl, by decide +kernel, rfl, by decide +kernel, by decide +kernel⟩
theorem ok_tie_index (D : DefAt K mg "tie_index" (topS 32) ["web", "pair"]) (T : Txt mg) (cpairs_of : C8.Cal P w K mg base 3 "pairs_of" (SpD false (RPrs C)) []) (cis_one_of : C8.Cal P w K mg base 1 "is_one_of" (SpD false RIo) []) : C8.Cal P w K mg base 4 "tie_index" (SpD false (RTi C)) [] := by
  have nd := sc_tie_index.nd
  refine D.dl sc_tie_index (by decide) (by rintro n rs K ⟨_, _, _, _, _, rfl, _⟩; exact ⟨rfl, rfl⟩) fun f cdv A outer s H E hr => ?_
  have hu64 := hr.units
  refine ⟨_, (xss_cons (xs_asg (w := false) (ps_set (i := 2) nd rfl (.inl rfl) (x_call (C8.pe_c cpairs_of hr (by decide) rfl (xa_cons (xe_v (pv 0)) xa_nil)) (fun _ _ _ h => h))))
      (xss_cons (xs_if (xt_not (xt_val (x_callB (C8.pe_c cis_one_of hr (by decide) rfl (xa_cons (xe_v (pv 1)) (xa_cons (xe_v (pv 2)) xa_nil))) (fun _ _ _ h => h)))) (xss_one xs_nev) xss_nil)
      (xss_one (xs_ret (x_idx (pe_bm PySem.F.plainAttrs_list PySem.F.slot_list_index PySem.F.type_list_index mt_index (xe_v (pv 2)) (xa_cons (xe_v (pv 1)) xa_nil))))))), ?_⟩
  rintro n as K ⟨Pr, x, ls, t, j, rfl, hP, g, hj, k⟩
  have hm := List.mem_of_getElem? hj
  have l2 := g.pl hm
  walk_at "xs"
  have hc : (tiS ls).contains t.1 = true := by
    rw [List.contains_eq_mem, decide_eq_true_eq]
    exact List.mem_map.mpr ⟨t, hm, rfl⟩
  refine ⟨Pr, x, ls, rfl, hP, g, rfl, _, rfl, _, rfl, _, rfl, _, rfl, rfl, .str t.1, tiS ls, rfl, fun y hy => ?_, _, rfl, rfl, true, ?_, L2.iteF ⟨_, rfl, tiS ls, rfl, _, rfl, t.1, j, rfl, g.prs, ?_, rfl, 0, nofun, k⟩⟩
  · cases hy
    omega
  · show some (PyData.bool ((tiS ls).contains t.1)) = _
    rw [hc]
  · unfold tiS
    rw [List.getElem?_map, hj]
    rfl
theorem sc_w_stretch : FnScope ["self", "pair"] ["self", "pair"] (defScope (inClass (topS 27) 8)) := ⟨rfl, rfl, rfl, by decide +kernel, rfl, by decide +kernel, by decide +kernel⟩
theorem ok_w_stretch {f : Addr} {fd : FuncData} {q : Str} (F : FunD K "stretch" q (defArgs (inClass (topS 27) 8)) (defBody (inClass (topS 27) 8)) (defScope (inClass (topS 27) 8)) [] [] f fd) (WC : WebC K C) (T : Txt mg) (ctie_index : C8.Cal P w K mg base 4 "tie_index" (SpD false (RTi C)) []) : FnOk P w K mg base CX0 5 f fd ["self", "pair"] (SpD false (RSw C)) := by
  have nd := sc_w_stretch.nd
  refine funD_dl F sc_w_stretch (by decide) (by rintro n rs K ⟨_, _, _, _, _, rfl, _⟩; exact ⟨rfl, rfl⟩) fun cdv A outer s H E hr => ?_
  have hu64 := hr.units
  refine ⟨_, (xss_one (xs_ret (x_op (pe_ix ix_seq (x_op (pe_ix ix_seq (xe_fld (xe_v (pv 0)) WC.c WC.n2) (x_call (C8.pe_c ctie_index hr (by decide) rfl (xa_cons (xe_v (pv 0)) (xa_cons (xe_v (pv 1)) xa_nil))) (fun _ _ _ h => h)) (fun _ _ => rfl)) ol_ix) (xe_c pe_int (fun _ _ => .int _)) (fun _ _ => rfl)) ol_ix))), ?_⟩
  rintro n as K ⟨Pr, x, ls, t, j, rfl, hP, g, hj, k⟩
  walk_at "xs"
  refine ⟨Pr, _, rfl, WebJ.ts.imp hP, imm_ties, _, rfl, _, rfl, _, 0, rfl, nofun, Pr, x, ls, t, j, rfl, hP, g, hj, rfl, _, _, _, rfl, rfl, fIx_t (atI_nat (by rw [List.getElem?_map, hj]; rfl)), True.intro, _, _, _, rfl, rfl, fIx_t (atI_nat (j := 1) rfl), True.intro, rfl, 0, nofun, k⟩
end
end Cs
set_option maxHeartbeats 4000000
local macro_rules | `(tactic| walk_at "xg") => `(tactic| try dsimp only [Cs.xRet, Cs.xRetN, Cs.xOp, Cs.xUn, Cs.xV, Cs.xB, Cs.xC, Cs.xCall, Cs.xCons, Cs.xNil, Cs.xBi, Cs.xSeq, Cs.xSet, Cs.xSets, Cs.xIfS, Cs.xTest, Cs.xTup, Cs.xLst, Cs.xAndV, Cs.xOrV, Cs.xNotV, Cs.xNot, Cs.xAndT, Cs.xOrT, Cs.xIf, Cs.xSl, Cs.xNoPart, Cs.xPart, Cs.xiL, Cs.xiB, Cs.xiT, Cs.xiR1, Cs.xiR2, Cs.xiS, Cs.xiZ, Cs.xiE, Cs.xgN, Cs.xgT, Cs.xgNil, Cs.xgCons, Cs.xYes, Cs.xDrop, Cs.xApp, Cs.xPopS, Cs.xPopA, Cs.xAsg, Cs.xNext, Cs.xNev, Cs.xChain, Cs.xIsi, Cs.xRaw, Cs.okEnd, Cs.toAV, Cs.setP, Cs.aftP, Cs.xCallK, Cs.xMeth, Cs.xProp, Cs.xW, Cs.xM1, Cs.xRv, Cs.xiR3, Cs.xMethK, Cs.xLstO, Cs.xiO, Cs.elA, Cs.turnO, Cs.xWp, Cs.xFl, Cs.xTz, Cs.xWhile, Cs.toAVL, Cs.xCallL, Cs.xDct, Cs.xgU, Cs.xSlS, Cs.xiZs, Cs.xExt, Cs.xCallB, Cs.xStar, Cs.xJs, Cs.jsRun, Cs.xFld, Cs.xLenW, Cs.xStrW, Cs.xBoolW, Cs.xOwnW, Cs.xWeb, Cs.xWebK, Cs.xIdx, List.map, List.replicate, List.length_cons, List.length_nil, List.cons_append, List.nil_append, List.set_cons_succ, List.set_cons_zero, Nat.add_sub_cancel, Nat.sub_self, Nat.reduceSub, Nat.reduceAdd, eq_self, ↓reduceIte])
local macro_rules | `(tactic| walk_at "xw") => `(tactic| try dsimp only [Cs.lcTurn, Cs.wipeA, List.set_cons_succ, List.set_cons_zero])
local macro_rules | `(tactic| walk_at "x") => `(tactic| first
  | (with_reducible refine Eq.mpr (if_pos ?_) ?_; exact rfl)
  | (with_reducible refine Eq.mpr (if_neg ?_) ?_; exact Bool.false_ne_true)
  | refine ⟨_, rfl, ?_⟩
  | refine ⟨rfl, ?_⟩
  | refine ⟨_, _, rfl, rfl, True.intro, ?_⟩
  | refine ⟨_, _, _, rfl, rfl, rfl, True.intro, ?_⟩
  | refine ⟨_, rfl, by exact Nat.le_of_ble_eq_true rfl, ?_⟩
  | refine ⟨by exact Nat.le_of_ble_eq_true rfl, ?_⟩
  | refine ⟨_, _, _, _, rfl, rfl, rfl, rfl, ?_⟩
  | refine ⟨_, _, rfl, ?_⟩
  | refine ⟨⟨_, rfl⟩, ?_⟩
  | refine ⟨_, _, rfl, fun _ => rfl, ?_⟩
  | refine ⟨_, 0, rfl, (fun z => (nomatch z)), ?_⟩
  | refine ⟨_, fun _ => rfl, ?_⟩
  | refine ⟨0, (fun z => (nomatch z)), ?_⟩
  | fail "x")
local macro_rules | `(tactic| walk_at "xs") => `(tactic| repeat' (walk_at "xg"; walk_at "x"))
local macro_rules | `(tactic| walk_at "sets") => `(tactic| (intro vs σ H Q hl hq; first
  | exact (match vs, hl, hq with | [_], _, q => ⟨_, _, rfl, rfl, q⟩)
  | exact (match vs, hl, hq with | [_, _], _, q => ⟨_, _, rfl, _, _, rfl, rfl, q⟩)
  | exact (match vs, hl, hq with | [_, _, _], _, q => ⟨_, _, rfl, _, _, rfl, _, _, rfl, rfl, q⟩)
  | fail "sets"))
/-! webs as objects: made, == (TxtWeb) -/
namespace Cs
open PySem PySem.Spec L2 L2H PyProof.Rows TL
local macro_rules | `(tactic| walk_at "goD0") => `(tactic| try dsimp only [gName, tSeq, tAsg, tRet, tLst, tCons, tOp, tTup, tCall, tNil, tC, tDrop, tCB, tPar, tNext, tM1, tJs, tAndV, tFmt, tIfS, tOr, tNot, tB, tTest, tProp])
structure WebG (mg : Str → Option Value) (C : Addr) : Prop where
  v_Web : ∃ u, mg "Web" = some u ∧ RelV (.ref C) u
theorem let_ok {lo hi : Int} {x : Str} (h : isLet lo hi (.str x) = true) : PyData.strOk x = true := by
  have h2 := (isLet_inv h).2.2.1
  show x.cps.all (fun c => decide (c < 0x110000)) = true
  rw [← Array.all_toList, List.all_eq_true]
  intro c hc
  have h3 := h2 c hc
  have h4 := of_decide_eq_true (Bool.and_eq_true_iff.mp (show (decide (97 ≤ c) && decide (c ≤ 122)) = true from h3)).2
  exact decide_eq_true (by omega)
theorem WebOk.sx {x : Str} {ls : List Tie} (g : WebOk x ls) : SeqAt.shaped (.str x) = true := by
  show (PyData.canLay0 (.str x) && decide ((PyData.str x).depth ≤ 64)) = true
  have e : PyData.canLay0 (.str x) = true := let_ok g.lt
  rw [e]
  rfl
theorem WebOk.st {x : Str} {ls : List Tie} (g : WebOk x ls) : SeqAt.shaped (dTies ls) = true := by
  show (PyData.canLay0 (dTies ls) && decide ((dTies ls).depth ≤ 64)) = true
  have h1 : PyData.canLayAll0 (ls.map dTie) = true := lay_map fun t ht => by
    show (PyData.canLay0 (.str t.1) && (PyData.canLayAll0 [.int t.2.1, .int t.2.2] && true)) = true
    have e2 : PyData.canLay0 (.str t.1) = true := let_ok (tie_inv (g.tie t ht)).1
    rw [e2]
    rfl
  have h2 : PyData.depthAll (ls.map dTie) ≤ 2 := dep_map fun t _ => by
    show PyData.depth (.tuple [.str t.1, .tuple [.int t.2.1, .int t.2.2]]) ≤ 2
    simp [PyData.depth, PyData.depthAll]
  have h3 : (dTies ls).depth = PyData.depthAll (ls.map dTie) + 1 := by rw [dTies, PyData.depth]
  rw [h3, decide_eq_true (by omega), Bool.and_true]
  exact h1
/-- two webs are equal just if their places and ties are -/
def sameW (x : Str) (ls : List Tie) (x2 : Str) (ls2 : List Tie) : Bool := (PyData.str x).eqv (.str x2) && (dTies ls).eqv (dTies ls2)
def SpEqW (C : Addr) : Sp := fun vs H Q _ => (∃ (t u : Addr) (x : Str) (ls : List Tie) (x2 : Str) (ls2 : List Tie), vs = [.ref t, .ref u] ∧ WebJ C x ls (.ref t) H ∧ WebJ C x2 ls2 (.ref u) H ∧ WebOk x ls ∧ WebOk x2 ls2 ∧ Q (.bl (sameW x ls x2 ls2)) H) ∨
  ∃ (p t : Addr) (v : V) (d : PyData), vs = [.ref t, v] ∧ Rp p H v d ∧ Q (.bl false) H
/-- __init__ of right places and ties -/
def SpWO (C : Addr) : Sp := fun vs H Q _ => ∃ (p a dx : Addr) (vr : V) (x : Str) (ls : List Tie), vs = [.ref a, .str x, vr] ∧ H a = some (.ins C dx []) ∧ (∃ o, H p = some (.lst o)) ∧ Dn (fun b => b = p) H vr (dTies ls) ∧ WebOk x ls ∧
  ∀ H', (∀ b o, b ≠ a → H b = some o → H' b = some o) → H' a = some (.ins C dx [("_places", .str x), ("_ties", vr)]) → Q .non H'
theorem ps_nevH {X : Cx} {st : Stmt} : PS X st (fun _ _ _ => False) := ⟨fun _ _ _ _ _ _ h => h.elim⟩
/-- a def that is given data -/
theorem spd_of {R : DR} {vs : List V} {H : Hp} {Q : VK} {E : XK} {p : Addr} {rs : List RV} {G : RV → Prop} (hp : ∃ o, H p = some (.lst o)) (ag : ArgA p (fun a => a = p) H rs vs) (w : R.run 0 rs fun r _ => G r)
    (k : ∀ r v H', G r → Same H H' → (∀ d, r = .d d → Dn (fun a => a = p) H' v d) → Q v H') : SpD false R vs H Q E :=
  ⟨p, fun a => a = p, 0, rs, rfl, hp, fun a z => .inl z, nofun, ag, R.mono (fun r n' g v H' af rr => k r v H' g af fun d e => by subst e; exact rr) w⟩
section
variable {P : Program} {w : World} {K : PySem.W.Frag} {mg : Str → Option Value} {base : Heap} {C : Addr}
theorem sc_w_eq : FnScope ["self", "other"] ["self", "other"] (defScope (inClass (topS 27) 7)) := ⟨rfl, rfl, rfl, by decide +kernel, rfl, by decide +kernel, by decide +kernel⟩
theorem ok_w_eq {f : Addr} {fd : FuncData} {q : Str} (F : FunD K "__eq__" q (defArgs (inClass (topS 27) 7)) (defBody (inClass (topS 27) 7)) (defScope (inClass (topS 27) 7)) [] [] f fd) (WC : WebC K C) (T : Txt mg) (G : WebG mg C) (NI : NoInsW K C) : FnOk P w K mg base CX0 1 f fd ["self", "other"] (SpEqW C) := by
  refine F.ok sc_w_eq (fun vs H Q E h => by rcases h with ⟨_, _, _, _, _, _, rfl, _⟩ | ⟨_, _, _, _, rfl, _⟩ <;> rfl) fun cdv A outer s H vs Q E hr h => ?_
  have nd := sc_w_eq.nd
  have hu64 := hr.units
  refine ⟨_, PSs.nox (pss_one (ps_ret (pe_and (pe_callB call_isi (by rfl) T.isinstance_ (by decide +kernel) (pa_cons (pv 1) (pa_cons (C8.pe_gc rfl G.v_Web) pa_nil))) (pe_and (pe_cmpR (opEq hu64) (pe_fld (pv 0) rfl) (pe_fld (pv 1) rfl) (nomark _)) (pe_one (pe_cmpR (opEq hu64) (pe_fld (pv 0) rfl) (pe_fld (pv 1) rfl) (nomark _))))))), ?_⟩
  rcases h with ⟨t, u, x, ls, x2, ls2, rfl, ht, hu, td, td2, k⟩ | ⟨p, t, v, d, rfl, rv, k⟩
  · obtain ⟨_, dx, vr, e1, h1, h2, h3⟩ := ht
    obtain ⟨_, dy, wr, e2, j1, j2, j3⟩ := hu
    cases e1
    cases e2
    walk_at "goD0"
    refine ⟨_, rfl, _, _, _, .ref C, true, rfl, .own _, .base (.ins j1 WC.c WC.ha WC.hn WC.ht WC.hm), WC.ki, true, rfl, iteT ?_⟩
    refine ⟨_, rfl, t, C, dx, _, _, rfl, h1, WC.c, WC.n1, rfl, _, rfl, u, C, dy, _, _, rfl, j1, WC.c, WC.n1, rfl, ?_⟩
    refine .inr ⟨_, _, .str x, .str x2, td.sx, td2.sx, _, rfl, ?_⟩
    have fin : ∀ b, sameW x ls x2 ls2 = b → Q (.bl b) H := fun b e => e ▸ k
    cases e : (PyData.str x).eqv (.str x2) with
    | false => exact iteF (fin _ (by unfold sameW; rw [e]; rfl))
    | true =>
      refine iteT ⟨_, rfl, t, C, dx, _, vr, rfl, h1, WC.c, WC.n2, rfl, _, rfl, u, C, dy, _, wr, rfl, j1, WC.c, WC.n2, rfl, ?_⟩
      have i1 : ∀ xs, ¬ Rd H t (.tup xs) := fun xs r => by
        rcases r with r | ⟨u, r⟩ <;> (rw [h1] at r; cases r)
      exact .inr ⟨_, _, (h3.rpt i1 imm_ties).dp, (j3.rpt i1 imm_ties).dp, td.st, td2.st, fin _ (by unfold sameW; rw [e]; rfl)⟩
  · walk_at "goD0"
    exact ⟨_, rfl, _, _, _, _, false, rfl, .own _, rv.ty, NI d, false, rfl, iteF k⟩
theorem sc_w_init : FnScope ["self", "places", "ties"] ["self", "places", "ties"] (defScope (inClass (topS 27) 0)) := ⟨rfl, rfl, rfl, by decide +kernel, rfl, by decide +kernel, by decide +kernel⟩
theorem ok_w_init {f : Addr} {fd : FuncData} {q : Str} (F : FunD K "__init__" q (defArgs (inClass (topS 27) 0)) (defBody (inClass (topS 27) 0)) (defScope (inClass (topS 27) 0)) [] [] f fd) (WC : WebC K C) (TW : TxtWeb mg)
    (care_letters : C8.Cal P w K mg base 2 "are_letters" (SpD false RLet) []) (ccheck_ties : C8.Cal P w K mg base 6 "check_ties" (SpD false RWok) []) (ccheck_joined : C8.Cal P w K mg base 4 "check_joined" (SpD false RWok) []) :
    FnOk P w K mg base CX0 7 f fd ["self", "places", "ties"] (SpWO C) := by
  refine F.ok sc_w_init (fun vs H Q E h => by obtain ⟨_, _, _, _, _, _, rfl, _⟩ := h; rfl) fun cdv A outer s H vs Q E hr h => ?_
  obtain ⟨p, a, dx, vr, x, ls, rfl, ha, hp, dn, g, k⟩ := h
  refine ⟨_, PSs.nox (pss_cons (ps_if (pt_not (pt_val (C8.pe_c care_letters hr (by decide) rfl (pa_cons (pv 1) (pa_cons (C8.pe_gc rfl TW.c__LEAST_PLACES) (pa_cons (C8.pe_gc rfl TW.c_MOST_PLACES) pa_nil)))))) (pss_one ps_nevH) pss_nil)
      (pss_cons (ps_expr (C8.pe_c ccheck_ties hr (by decide) rfl (pa_cons (pv 1) (pa_cons (pv 2) pa_nil))))
      (pss_cons (ps_expr (C8.pe_c ccheck_joined hr (by decide) rfl (pa_cons (pv 1) (pa_cons (pv 2) pa_nil))))
      (pss_cons (ps_fld (pv 0) (pv 1) rfl)
      (pss_one (ps_fld (pv 0) (pv 2) rfl)))))), ?_⟩
  walk_at "goD0"
  have hx : x.length ≤ 1000 := by
    have := g.len
    omega
  have ex : ∀ H', Same H H' → ∃ o, H' p = some (.lst o) := fun H' sm => hp.imp fun _ e => sm _ _ e
  have arg : ∀ H', Same H H' → ArgA p (fun b => b = p) H' [.d (.str x), .d (dTies ls)] [.str x, vr] := fun H' sm => .cons (Dn.str x hx) (.cons (dn.go (Fit2.same sm)) .nil)
  refine ⟨_, rfl, spd_of (rs := [.d (.str x), .d (.int 2), .d (.int 6)]) (G := fun r => r = .d (.bool true)) hp (.cons (Dn.str x hx) (.cons (Dn.int 2) (.cons (Dn.int 6) .nil))) ⟨.str x, 2, 6, rfl, by decide, by decide, by rw [g.lt]⟩ fun r v H1 er s1 d1 => ?_⟩
  have d1 := d1 _ er
  cases d1
  refine ⟨true, rfl, iteF ?_⟩
  refine ⟨_, rfl, _, rfl, spd_of (G := fun _ => True) (ex H1 s1) (arg H1 s1) ⟨x, ls, rfl, g, trivial⟩ fun r v H2 _ s2 _ => ?_⟩
  have sA := s1.trans s2
  refine ⟨_, rfl, _, rfl, spd_of (G := fun _ => True) (ex H2 sA) (arg H2 sA) ⟨x, ls, rfl, g, trivial⟩ fun r v H3 _ s3 _ => ?_⟩
  have sB := sA.trans s3
  refine ⟨_, rfl, _, rfl, a, C, dx, [], rfl, sB _ _ ha, WC.c, WC.n1, by show 0 < 1000; decide, ?_⟩
  refine ⟨_, rfl, _, rfl, a, C, dx, _, rfl, upd_same, WC.c, WC.n2, by show 1 < 1000; decide, ?_⟩
  refine k _ (fun b o nb e => ?_) upd_same
  rw [upd_ne nb, upd_ne nb]
  exact sB _ _ e
end
/-! ### over data -/
theorem WebJ.stb {C : Addr} {x : Str} {ls : List Tie} {v : V} {H : Hp} {M : Addr → Prop} {p : Addr} (ml : ∀ a, M a → a = p ∨ Ls H a) (hp : ∃ o, H p = some (.lst o)) (h : WebJ C x ls v H) : Stb M H (WebJ C x ls) v := fun H' k => by
  obtain ⟨t, dx, vr, e, h1, h2, h3⟩ := h
  have nt := no_tup ml (not_tup hp)
  have nM : ¬ M t := fun m => by
    rcases ml t m with rfl | ⟨xs, q⟩ | ⟨xs, q⟩
    · obtain ⟨o, q⟩ := hp
      rw [h1] at q
      cases q
    · rw [h1] at q
      cases q
    · rw [h1] at q
      cases q
  have go : ∀ {v : V} {d : PyData}, imm d = true → Dn NF H v d → Dn NF H' v d := fun i d => (Dn.go (N := M) (N' := M) ⟨fun _ h => .inl h, k⟩ (d.imm nt i)).imm (fun _ _ _ z => z) i
  exact ⟨t, dx, vr, e, k _ _ nM h1, h2, go imm_ties h3⟩
theorem WebJ.ins {C : Addr} {x : Str} {ls : List Tie} {m : Str} (hm : ([("_places", ()), ("_ties", ())] : List (Str × Unit)).lookup m = none) : InsM C m (WebJ C x ls) := fun v H ⟨t, dx, vr, e, h1, _⟩ => ⟨t, dx, _, e, h1, by
  simp only [List.lookup] at hm ⊢
  split at hm <;> first | cases hm | skip
  split at hm <;> first | cases hm | skip
  rename_i z1 _ z2
  simp only [z1, z2]⟩
theorem WebJ.sld {C : Addr} {x : Str} {ls : List Tie} : Sld (WebJ C x ls) := fun v H H' h k => by
  obtain ⟨t, dx, vr, rfl, h1, h2, h3⟩ := h
  exact ⟨t, dx, vr, rfl, k _ _ ⟨fun xs z => (by cases z), fun xs z => (by cases z)⟩ h1, h2, dn_sld imm_ties h3 k⟩
def xOwnW (neg : Bool) (C : Addr) (a b : XE) : XE := ⟨fun ε K => a.run ε fun r ε1 => b.run ε1 fun s ε2 => ∃ P x ls z, r = .o P ∧ (∀ v H, P v H → WebJ C x ls v H) ∧ WebOk x ls ∧
    ((∃ P2 x2 ls2, s = .o P2 ∧ (∀ v H, P2 v H → WebJ C x2 ls2 v H) ∧ WebOk x2 ls2 ∧ z = sameW x ls x2 ls2) ∨ (∃ P2 d, s = .o P2 ∧ (∀ v H, P2 v H → Dn NF H v d) ∧ z = false)) ∧ K (.d (.bool (if neg then !z else z))) ε2,
  fun h q => a.mono (fun _ _ q => b.mono (fun _ _ ⟨P, cs, rs, z, e1, e2, g, e3, k⟩ => ⟨P, cs, rs, z, e1, e2, g, e3, h _ _ k⟩) q) q⟩
section
variable {X : Cx} {Ex : Expr} {C : Addr} {E : XK} {a : XA}
theorem own_eqW {neg : Bool} {ta tb : XE} {σ : L2.St} {H : Hp} {Q : VK} (h : up (xOwnW neg C ta tb) σ H Q) : tOp (rEqA neg C (SpEqW C) E) (up ta) (up tb) σ H Q := by
  obtain ⟨Γ, ε, T, R, k⟩ := h
  refine up2 R k fun r s x y ε2 T2 H2 ⟨P, cs, rs, z, e1, hP, g, e3, kk⟩ R2 s2 d1 d2 => ?_
  subst e1
  have d1 : Stb (Mx Γ ε2 T2 σ) H2 P x := d1
  have td := hP x H2 d1.now
  obtain ⟨t, dx, vr, rfl, h1, _⟩ := id td
  have fin := kk (.bl (if neg then !z else z)) T2 H2 R2 s2 (.bl _)
  rcases e3 with ⟨P2, cs2, rs2, e4, hP2, g2, e5⟩ | ⟨P2, d, e4, hP2, e5⟩
  · subst e4 e5
    have d2 : Stb (Mx Γ ε2 T2 σ) H2 P2 y := d2
    have tu := hP2 y H2 d2.now
    obtain ⟨u, dy, wr, rfl, j1, _⟩ := id tu
    exact ⟨t, dx, _, rfl, h1, .inr ⟨u, dy, _, rfl, j1⟩, .inl ⟨t, u, cs, rs, cs2, rs2, rfl, td, tu, g, g2, _, rfl, fin⟩⟩
  · subst e4 e5
    have d2 : Stb (Mx Γ ε2 T2 σ) H2 P2 y := d2
    have dn := hP2 y H2 d2.now
    obtain ⟨m, rp⟩ := dn.rpx
    exact ⟨t, dx, _, rfl, h1, .inl ⟨m, d, rp m (Nat.le_refl _)⟩, .inr ⟨m, t, y, d, rfl, rp m (Nat.le_refl _), _, rfl, fin⟩⟩
theorem x_ownW {neg : Bool} {ta tb : XE} (h : PE X Ex (tOp (rEqA neg C (SpEqW C) E) (up ta) (up tb))) : PE X Ex (up (xOwnW neg C ta tb)) := pe_wk h fun _ _ _ q => own_eqW q
theorem xt_ownW {neg : Bool} {ta tb : XE} (h : PT X Ex (tTest (tOp (rEqA neg C (SpEqW C) E) (up ta) (up tb)))) : PT X Ex (upT (xTest (xOwnW neg C ta tb))) := xt_of (tTest_wk h fun _ _ _ q => own_eqW q)
end
/-! ### Web(places, ties) -/
/-- what stands at a new address -/
theorem web_made {C p : Addr} {M : Addr → Prop} {H1 : Hp} {vr : V} {x : Str} {ls : List Tie} {Q : VK} {E : XK} {t dx : Addr} (hp : ∃ o, H1 p = some (.lst o)) (d : Dn M H1 vr (dTies ls)) (g : WebOk x ls) (hx : H1 t = none) (hd : H1 dx = none) (hne : dx ≠ t)
    (k : ∀ H2, Same H1 H2 → WebJ C x ls (.ref t) H2 → Q (.ref t) H2) : SpWO C [.ref t, .str x, vr] (upd (upd H1 dx (.own t)) t (.ins C dx [])) (fun v H2 => v = .non ∧ Q (.ref t) H2) E := by
  have s : Same H1 (upd (upd H1 dx (.own t)) t (.ins C dx [])) := fun b o hb => by
    rw [upd_ne (ne_of_none hb hx), upd_ne (ne_of_none hb hd)]
    exact hb
  have dr : Dn NF H1 vr (dTies ls) := d.imm (fun _ _ _ z => z) imm_ties
  have lx := g.len
  refine ⟨p, t, dx, vr, x, ls, rfl, upd_same, hp.imp fun _ e => s _ _ e, (dr.go (Fit2.same s)).imm (fun a xs r z => ?_) imm_ties, g, fun H2 ex ea => ⟨rfl, ?_⟩⟩
  · obtain ⟨o, e⟩ := hp
    have e' := s _ _ e
    rw [← z] at e'
    rcases r with r | ⟨u, r⟩ <;> (rw [e'] at r; cases r)
  · have s2 : Same H1 H2 := fun b o hb => ex b o (ne_of_none hb hx) (s _ _ hb)
    exact k H2 s2 ⟨t, dx, vr, rfl, ea, by omega, dr.go (Fit2.same s2)⟩
def xWeb (C : Addr) (a : XA) : XE := ⟨fun ε K => a.run ε fun rs ε1 => ∃ x ls, kas rs = some [.d (.str x), .d (dTies ls)] ∧ WebOk x ls ∧ K (.o (WebJ C x ls)) ε1, fun h q => a.mono (fun _ _ ⟨cs, rows, e, g, k⟩ => ⟨cs, rows, e, g, h _ _ k⟩) q⟩
def xWebK (C : Addr) (a : XA) : XE := ⟨fun ε K => a.run ε fun rs ε1 => ∃ x ls, kas rs = some [.d (dTies ls), .d (.str x)] ∧ WebOk x ls ∧ K (.o (WebJ C x ls)) ε1, fun h q => a.mono (fun _ _ ⟨cs, rows, e, g, k⟩ => ⟨cs, rows, e, g, h _ _ k⟩) q⟩
theorem x_web {X : Cx} {Ex : Expr} {C : Addr} {a : XA} {E : XK} (h : PE X Ex (tMake C (SpWO C) [] E (upA a))) : PE X Ex (up (xWeb C a)) :=
  pe_wk h fun σ H Q ⟨Γ, ε, T, R0, k⟩ => upA1 R0 k fun rs vs ε1 T1 H1 ⟨x, ls, e, g, kk⟩ R1 s1 d1 => fun t dx hx hd hne => by
    have ag := kas_arg R0 R1 s1 d1 e
    have R2 := R1.less (T' := T) s1.t
    obtain ⟨v, w, rfl, h1, h2⟩ := argA2 ag
    have h1 : Dn (Mx Γ ε1 T σ) H1 v (.str x) := h1
    cases h1
    exact web_made R1.hp h2 g hx hd hne fun H2 s2 hw => by
      have R3 := R2.same s2
      exact kk _ T H2 R3 (s1.drop.same s2) (WebJ.stb R3.lists R3.hp hw)
theorem x_webK {X : Cx} {Ex : Expr} {C : Addr} {a : XA} {E : XK} {n : Nat} (h : PE X Ex (tMakeK C 0 n (SpWO C) (fun vs zs => vs ++ zs.reverse) E tNil (upA a))) (hn : n = 2 := by rfl) : PE X Ex (up (xWebK C a)) :=
  pe_wk h fun σ H Q ⟨Γ, ε, T, R0, k⟩ => upA1 R0 k fun rs vs ε1 T1 H1 ⟨x, ls, e, g, kk⟩ R1 s1 d1 => by
    have ag := kas_arg R0 R1 s1 d1 e
    have R2 := R1.less (T' := T) s1.t
    obtain ⟨v, w, rfl, h2, h1⟩ := argA2 ag
    have h1 : Dn (Mx Γ ε1 T σ) H1 w (.str x) := h1
    cases h1
    refine ⟨rfl, hn.symm, fun t dx hx hd hne => ?_⟩
    exact web_made R1.hp h2 g hx hd hne fun H2 s2 hw => by
      have R3 := R2.same s2
      exact kk _ T H2 R3 (s1.drop.same s2) (WebJ.stb R3.lists R3.hp hw)
/-! ### methods of the class: Web.told(..) -/
def SpC1 (R : DR) : Sp := fun vs H Q E => ∃ c v, vs = [c, v] ∧ SpD false R [v] H Q E
def One (R : DR) : Prop := ∀ n rs K, R.run n rs K → rs.length = 1
theorem x_cmW {X : Cx} {Ex : Expr} {C : Addr} {a : XA} {E : XK} {R : DR} (o : One R) (h : PE X Ex (ClX.tCMeth C (SpC1 R) E (tC (.ref C)) (upA a))) : PE X Ex (up (xCall false R a)) :=
  pe_wk h fun σ H Q q => ⟨rfl, by
    obtain ⟨Γ, ε, T, R0, k⟩ := q
    refine call_up (E := E) (sp := fun vs H Q E => SpC1 R (.ref C :: vs) H Q E) (a := a) (B := false) (R := R) (fun vs H Q w => ?_) ⟨Γ, ε, T, R0, k⟩
    have w' := w
    obtain ⟨p, M, n, as, pm, ph, ml, pt, ag, g⟩ := w
    have l := arg_len ag
    rw [o _ _ _ g] at l
    obtain ⟨v, rfl⟩ : ∃ v, vs = [v] := List.length_eq_one_iff.mp l
    exact ⟨_, v, rfl, w'⟩⟩
theorem x_cmWK {X : Cx} {Ex : Expr} {C : Addr} {a : XA} {E : XK} {R : DR} {n : Nat} (o : One R) (h : PE X Ex (tCMethK C n (SpC1 R) (fun vs zs => vs ++ zs.reverse) E (tC (.ref C)) (upA a))) (hn : n = 1 := by rfl) : PE X Ex (up (xCall false R a)) := by
  subst hn
  exact pe_wk h fun σ H Q q => ⟨rfl, by
    obtain ⟨Γ, ε, T, R0, k⟩ := q
    refine call_up (E := E) (sp := fun vs H Q E => vs.length = 1 ∧ SpC1 R ([.ref C] ++ vs.reverse) H Q E) (a := a) (B := false) (R := R) (fun vs H Q w => ?_) ⟨Γ, ε, T, R0, k⟩
    have w' := w
    obtain ⟨p, M, n, as, pm, ph, ml, pt, ag, g⟩ := w
    have l := arg_len ag
    rw [o _ _ _ g] at l
    obtain ⟨v, rfl⟩ : ∃ v, vs = [v] := List.length_eq_one_iff.mp l
    exact ⟨rfl, _, v, rfl, w'⟩⟩
end Cs
set_option maxHeartbeats 4000000
local macro_rules | `(tactic| walk_at "xg") => `(tactic| try dsimp only [Cs.xRet, Cs.xRetN, Cs.xOp, Cs.xUn, Cs.xV, Cs.xB, Cs.xC, Cs.xCall, Cs.xCons, Cs.xNil, Cs.xBi, Cs.xSeq, Cs.xSet, Cs.xSets, Cs.xIfS, Cs.xTest, Cs.xTup, Cs.xLst, Cs.xAndV, Cs.xOrV, Cs.xNotV, Cs.xNot, Cs.xAndT, Cs.xOrT, Cs.xIf, Cs.xSl, Cs.xNoPart, Cs.xPart, Cs.xiL, Cs.xiB, Cs.xiT, Cs.xiR1, Cs.xiR2, Cs.xiS, Cs.xiZ, Cs.xiE, Cs.xgN, Cs.xgT, Cs.xgNil, Cs.xgCons, Cs.xYes, Cs.xDrop, Cs.xApp, Cs.xPopS, Cs.xPopA, Cs.xAsg, Cs.xNext, Cs.xNev, Cs.xChain, Cs.xIsi, Cs.xRaw, Cs.okEnd, Cs.toAV, Cs.setP, Cs.aftP, Cs.xCallK, Cs.xMeth, Cs.xProp, Cs.xW, Cs.xM1, Cs.xRv, Cs.xiR3, Cs.xMethK, Cs.xLstO, Cs.xiO, Cs.elA, Cs.turnO, Cs.xWp, Cs.xFl, Cs.xTz, Cs.xWhile, Cs.toAVL, Cs.xCallL, Cs.xDct, Cs.xgU, Cs.xSlS, Cs.xiZs, Cs.xExt, Cs.xCallB, Cs.xStar, Cs.xJs, Cs.jsRun, Cs.xFld, Cs.xLenW, Cs.xStrW, Cs.xBoolW, Cs.xOwnW, Cs.xWeb, Cs.xWebK, Cs.xIdx, List.map, List.replicate, List.length_cons, List.length_nil, List.cons_append, List.nil_append, List.set_cons_succ, List.set_cons_zero, Nat.add_sub_cancel, Nat.sub_self, Nat.reduceSub, Nat.reduceAdd, eq_self, ↓reduceIte])
local macro_rules | `(tactic| walk_at "xw") => `(tactic| try dsimp only [Cs.lcTurn, Cs.wipeA, List.set_cons_succ, List.set_cons_zero])
local macro_rules | `(tactic| walk_at "x") => `(tactic| first
  | (with_reducible refine Eq.mpr (if_pos ?_) ?_; exact rfl)
  | (with_reducible refine Eq.mpr (if_neg ?_) ?_; exact Bool.false_ne_true)
  | refine ⟨_, rfl, ?_⟩
  | refine ⟨rfl, ?_⟩
  | refine ⟨_, _, rfl, rfl, True.intro, ?_⟩
  | refine ⟨_, _, _, rfl, rfl, rfl, True.intro, ?_⟩
  | refine ⟨_, rfl, by exact Nat.le_of_ble_eq_true rfl, ?_⟩
  | refine ⟨by exact Nat.le_of_ble_eq_true rfl, ?_⟩
  | refine ⟨_, _, _, _, rfl, rfl, rfl, rfl, ?_⟩
  | refine ⟨_, _, rfl, ?_⟩
  | refine ⟨⟨_, rfl⟩, ?_⟩
  | refine ⟨_, _, rfl, fun _ => rfl, ?_⟩
  | refine ⟨_, 0, rfl, (fun z => (nomatch z)), ?_⟩
  | refine ⟨_, fun _ => rfl, ?_⟩
  | refine ⟨0, (fun z => (nomatch z)), ?_⟩
  | fail "x")
local macro_rules | `(tactic| walk_at "xs") => `(tactic| repeat' (walk_at "xg"; walk_at "x"))
local macro_rules | `(tactic| walk_at "sets") => `(tactic| (intro vs σ H Q hl hq; first
  | exact (match vs, hl, hq with | [_], _, q => ⟨_, _, rfl, rfl, q⟩)
  | exact (match vs, hl, hq with | [_, _], _, q => ⟨_, _, rfl, _, _, rfl, rfl, q⟩)
  | exact (match vs, hl, hq with | [_, _, _], _, q => ⟨_, _, rfl, _, _, rfl, _, _, rfl, rfl, q⟩)
  | fail "sets"))
/-! webs told of texts (TxtWeb) -/
namespace Cs
open PySem L2 L2H PyProof.Rows TL
theorem it_chars (i : Int) : ∀ c ∈ tl (it i), 45 ≤ c ∧ c ≤ 57 := fun c hc => by
  rw [tl_it] at hc
  unfold sgnL at hc
  split at hc
  · rcases List.mem_cons.mp hc with rfl | hc
    · omega
    · have := numL_digits _ c hc
      omega
  · have := numL_digits _ c hc
    omega
def wds : List (Int × Int) → List Str
  | [] => []
  | q :: qs => it q.1 :: it q.2 :: wds qs
def nums : List (Int × Int) → List Int
  | [] => []
  | q :: qs => q.1 :: q.2 :: nums qs
theorem wds_it : ∀ {qs : List (Int × Int)}, wds qs = (nums qs).map it
  | [] => rfl
  | q :: qs => by rw [wds, nums, List.map_cons, List.map_cons, wds_it]
theorem wds_len : ∀ {qs : List (Int × Int)}, (wds qs).length = 2 * qs.length
  | [] => rfl
  | q :: qs => by
    rw [wds, List.length_cons, List.length_cons, wds_len, List.length_cons]
    omega
theorem nums_len : ∀ {qs : List (Int × Int)}, (nums qs).length = 2 * qs.length
  | [] => rfl
  | q :: qs => by
    rw [nums, List.length_cons, List.length_cons, nums_len, List.length_cons]
    omega
theorem nums_at : ∀ {qs : List (Int × Int)} {k : Nat} {q : Int × Int}, qs[k]? = some q → (nums qs).drop (2 * k) = q.1 :: q.2 :: nums (qs.drop (k + 1))
  | [], k, q, h => by simp at h
  | p :: qs, 0, q, h => by
    cases h
    rfl
  | p :: qs, k + 1, q, h => by
    have := nums_at (qs := qs) (k := k) (q := q) h
    rw [show 2 * (k + 1) = 2 * k + 1 + 1 by omega, nums, List.drop_succ_cons, List.drop_succ_cons, this, List.drop_succ_cons]
theorem nums_mem : ∀ {qs : List (Int × Int)} {i : Int}, i ∈ nums qs → ∃ q ∈ qs, i = q.1 ∨ i = q.2
  | q :: qs, i, h => by
    rw [nums] at h
    rcases List.mem_cons.mp h with rfl | h
    · exact ⟨q, List.mem_cons_self, .inl rfl⟩
    · rcases List.mem_cons.mp h with rfl | h
      · exact ⟨q, List.mem_cons_self, .inr rfl⟩
      · obtain ⟨p, hp, e⟩ := nums_mem h
        exact ⟨p, List.mem_cons_of_mem _ hp, e⟩
theorem tl_sp : tl (" " : Str) = [32] := rfl
theorem tl_nl : tl ("\n" : Str) = [10] := rfl
theorem let_chars {lo hi : Int} {x : Str} (h : isLet lo hi (.str x) = true) : ∀ c ∈ tl x, 97 ≤ c ∧ c ≤ 122 := fun c hc => by
  have := (isLet_inv h).2.2.1 c hc
  unfold letterC at this
  rw [Bool.and_eq_true, decide_eq_true_eq, decide_eq_true_eq] at this
  exact this
theorem lnW_eq (t : Tie) : lnW t = Txt.join " " [t.1, it t.2.1, it t.2.2] := by
  rw [join_eq]
  show t.1 ++ ((" " : Str) ++ (it t.2.1 ++ ((" " : Str) ++ it t.2.2))) = t.1 ++ " " ++ (it t.2.1 ++ " " ++ it t.2.2)
  rw [Str.append_assoc, Str.append_assoc]
theorem split_tie {t : Tie} {x : Str} (h : isTie x (dTie t) = true) : Txt.split (lnW t) " " = [t.1, it t.2.1, it t.2.2] := by
  rw [lnW_eq]
  refine split_join tl_sp (by decide +kernel) (by simp) fun p hp z => ?_
  rcases List.mem_cons.mp hp with rfl | hp
  · have := let_chars (tie_inv h).1 32 z
    omega
  rcases List.mem_cons.mp hp with rfl | hp
  · have := it_chars _ 32 z
    omega
  cases List.mem_singleton.mp hp
  have := it_chars _ 32 z
  omega
theorem lnW_chars {t : Tie} {x : Str} (h : isTie x (dTie t) = true) : ∀ c ∈ tl (lnW t), c ≠ 10 := fun c hc => by
  unfold lnW spW at hc
  rw [tl_append, tl_append, tl_append, tl_append, tl_sp] at hc
  simp only [List.mem_append, List.mem_singleton] at hc
  rcases hc with hc | hc | hc | hc | hc
  · have := let_chars (tie_inv h).1 c hc
    omega
  · omega
  · have := it_chars _ c hc
    omega
  · omega
  · have := it_chars _ c hc
    omega
theorem split_web {x : Str} {ls : List Tie} (g : WebOk x ls) : Txt.split (pageW x ls) "\n" = x :: ls.map lnW := by
  unfold pageW
  refine split_join tl_nl (by decide +kernel) (by simp) fun p hp z => ?_
  rcases List.mem_cons.mp hp with rfl | hp
  · have := let_chars g.lt 10 z
    omega
  · obtain ⟨t, ht, rfl⟩ := List.mem_map.mp hp
    exact lnW_chars (g.tie t ht) 10 z rfl
theorem fAny_no {ds : List PyData} : fAny [.list (ds.map fun _ => .bool false)] = some (True, .d (.bool false)) := by
  have e : (ds.map fun _ => PyData.bool false) = (ds.map fun _ => false).map PyData.bool := by rw [List.map_map]; rfl
  show (boolsD _).map _ = _
  rw [e, boolsD_map]
  show some (True, RV.d (.bool ((ds.map fun _ => false).any id))) = _
  have : (ds.map fun _ => false).any id = false := by rw [List.any_eq_false]; intro x hx; obtain ⟨_, _, rfl⟩ := List.mem_map.mp hx; decide
  rw [this]
def RIt : DR := ⟨fun _ as K => ∃ i : Int, as = [.d (.str (it i))] ∧ -10000 ≤ i ∧ i ≤ 10000 ∧ K (.d (.int i)) 0, fun h ⟨i, e, a, b, k⟩ => ⟨i, e, a, b, h _ _ k⟩⟩
def RSto : DR := ⟨fun _ as K => ∃ qs : List (Int × Int), as = [.d (.list ((wds qs).map PyData.str))] ∧ qs.length ≤ 4 ∧ (∀ q ∈ qs, -10000 ≤ q.1 ∧ q.1 ≤ q.2 ∧ q.2 ≤ 10000) ∧ K (.d (.tuple (qs.map wSp))) 0, fun h ⟨qs, e, a, b, k⟩ => ⟨qs, e, a, b, h _ _ k⟩⟩
def RRtW : DR := ⟨fun _ as K => ∃ (x : Str) (t : Tie), as = [.d (.str (lnW t)), .d (.int 1)] ∧ isTie x (dTie t) = true ∧ K (.d (dTie t)) 0, fun h ⟨x, t, e, a, k⟩ => ⟨x, t, e, a, h _ _ k⟩⟩
def RToW (C : Addr) : DR := ⟨fun _ as K => ∃ (x : Str) (ls : List Tie), as = [.d (.str (pageW x ls))] ∧ WebOk x ls ∧ K (.o (WebJ C x ls)) 0, fun h ⟨x, ls, e, a, k⟩ => ⟨x, ls, e, a, h _ _ k⟩⟩
theorem rg2 (n : Nat) (h : n ≤ 4) : RgC 0 ((2 * n : Nat) : Int) 2 n := by
  have : ∀ m : Fin 5, RgC 0 ((2 * m.val : Nat) : Int) 2 m.val := by
    intro m
    refine ⟨by decide, by decide, ?_, ?_⟩
    · revert m; decide +kernel
    · revert m; decide +kernel
  exact this ⟨n, by omega⟩
structure WebAt (K : PySem.W.Frag) (mg : Str → Option Value) (C f : Addr) (fd : FuncData) : Prop where
  mkT : Mk K C f
  g : mg "Web" = some (.ref C)
  F : ∃ q, FunD K "__init__" q (defArgs (inClass (topS 27) 0)) (defBody (inClass (topS 27) 0)) (defScope (inClass (topS 27) 0)) [] [] f fd
  b : Binds K fd ["self", "places", "ties"] []
  kb : KBn K fd ["self", "places", "ties"] 1 ["ties", "places"] (fun us ws => us ++ ws.reverse) (fun vs zs => vs ++ zs.reverse)
section
variable {P : Program} {w : World} {K : PySem.W.Frag} {mg : Str → Option Value} {base : Heap} {C : Addr}
theorem sc_integer_told : FnScope ["word", "digits", "digit", "number"] ["word"] (defScope (topS 18)) := ⟨rfl, rfl, rfl, by decide +kernel, rfl, by decide +kernel, by decide +kernel⟩
theorem ok_integer_told (D : DefAt K mg "integer_told" (topS 18) ["word"]) (T : Txt mg) (TW : TxtWeb mg) (c__MOST_DIGITS : ∃ u, mg "_MOST_DIGITS" = some u ∧ RelV (.int 6) u) : C8.Cal P w K mg base 1 "integer_told" (SpD false RIt) [] := by
  have nd := sc_integer_told.nd
  refine D.dl sc_integer_told (by decide) (by rintro n rs K ⟨_, rfl, _⟩; exact ⟨rfl, rfl⟩) fun f cdv A outer s H E hr => ?_
  have hu64 := hr.units
  refine ⟨_, (xss_cons (xs_asg (w := false) (ps_set (i := 1) nd rfl (.inl rfl) (x_m1 (pe_m1 PySem.F.slot_str_removeprefix PySem.F.type_str_removeprefix mt_removeprefix (xe_v (pv 0)) (xe_c pe_str (fun _ _ => .str _ (by decide)))) ml_rmp)))
      (xss_cons (xs_if (PW.pt (xw_or (xt_not (xt_chain (pt_chain opLe opLe (xe_c pe_int (fun _ _ => .int _)) (x_bi (pe_callB call_lenA (by rfl) T.len_ (by decide +kernel) (xa_cons (xe_v (pv 1)) xa_nil)) bl_len) (xe_c (C8.pe_gc rfl c__MOST_DIGITS) (fun _ _ => .int _))) ol_le ol_le)) (xw_or1 (xt_val (x_bi (pe_callB (cr_any rfl) (by rfl) TW.any_ (by decide +kernel) (xa_cons (xe_lc (own := [("digit", 2)]) rfl nd (xi_str (xe_v (pv 1))) (blkOk_by (N := ["word", "digits", "digit", "number"]) (sc := defScope (topS 18)) (by decide +kernel)) (fun _ _ _ _ _ => (xg_n (pg_name (i := 2) nd rfl (.inl rfl)))) (fun _ _ _ _ _ => xts_nil) (fun _ _ _ _ _ => (x_op (pe_cmpR op_notIn_sign (xe_v (pv 2)) (xe_c pe_str (fun _ _ => .str _ (by decide))) (by rfl)) ol_nsign)) (by decide)) xa_nil)) bl_any))))) (xss_one (xs_ret (xe_c pe_non (fun _ _ => .non)))) xss_nil)
      (xss_cons (xs_asg (w := false) (ps_set (i := 3) nd rfl (.inl rfl) (x_bi (pe_callTy call_int_str (by rfl) T.int_ (by decide +kernel) (xa_cons (xe_v (pv 0)) xa_nil)) bl_intS)))
      (xss_one (xs_ret (xe_ifExp (xt_op (pt_cmpR (opEq hu64) (x_bi (pe_callTy call_str_int (by rfl) T.str_ (by decide +kernel) (xa_cons (xe_v (pv 3)) xa_nil)) bl_strI) (xe_v (pv 0)) (nomark _)) ol_eq) (xe_v (pv 3)) (xe_c pe_non (fun _ _ => .non)))))))), ?_⟩
  rintro n as K ⟨i, rfl, h1, h2, k⟩
  have hd := it_digits (i := i) (by omega) (by omega)
  obtain ⟨hi, hl⟩ := it_int (i := i) (by omega) (by omega)
  walk_at "xs"
  refine ⟨_, _, _, rfl, rfl, rfl, ⟨Nat.le_trans hl (by decide), by omega⟩, ?_⟩
  generalize Txt.removeprefix (it i) "-" = x at hd ⊢
  walk_at "xs"
  refine L2.ite2 (fun _ => ?_) (fun z => absurd (decide_eq_true (show (1 : Int) ≤ (x.length : Nat) by omega)) z)
  walk_at "xs"
  rw [show (!decide (((x.length : Nat) : Int) ≤ 6)) = false by rw [decide_eq_true (by omega)]; rfl]
  refine L2.iteF ?_
  walk_at "xs"
  refine lc_map (fun _ => .bool false) ?_
  walk_at "xs"
  refine ⟨by unfold chD; rw [List.length_map, ← len_tl]; omega, fun d hd2 => ?_, ?_⟩
  · unfold chD at hd2
    obtain ⟨c, hc, rfl⟩ := List.mem_map.mp hd2
    obtain ⟨c1, c2⟩ := hd.2.2 c hc
    walk_at "xw"
    walk_at "xs"
    have := sign_digit c c1 c2
    rw [this]
    exact ⟨rfl, rfl⟩
  · walk_at "xw"
    walk_at "xs"
    have hI : fIntS [.str (it i)] = some ((it i).length ≤ 640, .d (.int i)) := by
      show (intText? (it i)).map _ = _
      rw [hi]
      rfl
    have hS : fStrI [.int i] = some (i.natAbs.log2 < 1920 ∧ (it i).length ≤ 1000, .d (.str (it i))) := rfl
    have hE : fEq (.str (it i)) (.str (it i)) = some (True, .d (.bool true)) := by
      show some (True, RV.d (.bool (decide (it i = it i)))) = _
      rw [decide_eq_true rfl]
    refine ⟨_, _, rfl, fAny_no, True.intro, _, rfl, L2.iteF ?_⟩
    refine ⟨_, rfl, _, _, rfl, hI, by omega, _, rfl, _, rfl, _, _, rfl, hS, ⟨lg_small (by omega) (by omega), by omega⟩, _, rfl, _, _, _, rfl, rfl, hE, True.intro, _, rfl, L2.iteT ?_⟩
    exact ⟨_, rfl, rfl, _, (fun z => nomatch z), k⟩
theorem sc_stretches_told : FnScope ["words", "numbers", "word", "at"] ["words"] (defScope (topS 19)) := ⟨rfl, rfl, rfl, by decide +kernel, rfl, by decide +kernel, by decide +kernel⟩
theorem ok_stretches_told (D : DefAt K mg "stretches_told" (topS 19) ["words"]) (T : Txt mg) (cinteger_told : C8.Cal P w K mg base 1 "integer_told" (SpD false RIt) []) : C8.Cal P w K mg base 2 "stretches_told" (SpD false RSto) [] := by
  have nd := sc_stretches_told.nd
  refine D.dl sc_stretches_told (by decide) (by rintro n rs K ⟨_, rfl, _⟩; exact ⟨rfl, rfl⟩) fun f cdv A outer s H E hr => ?_
  have hu64 := hr.units
  refine ⟨_, (xss_cons (xs_asg (w := false) (ps_set (i := 1) nd rfl (.inr rfl) (xe_lc (own := [("word", 2)]) rfl nd (xi_look (xe_v (pv 0))) (blkOk_by (N := ["words", "numbers", "word", "at"]) (sc := defScope (topS 19)) (by decide +kernel)) (fun _ _ _ _ _ => (xg_n (pg_name (i := 2) nd rfl (.inl rfl)))) (fun _ _ _ _ _ => xts_nil) (fun _ _ _ _ _ => (x_call (C8.pe_c cinteger_told hr (by decide) rfl (xa_cons (xe_v (pv 2)) xa_nil)) (fun _ _ _ h => h))) (by decide))))
      (xss_one (xs_ret (x_bi (pe_callTy call_tuple_of (by rfl) T.tuple_ (by decide +kernel) (xa_cons (xe_lc (own := [("at", 3)]) rfl nd (xi_rng3 rfl T.range_ (xa_cons (xe_c pe_int (fun _ _ => .int _)) (xa_cons (x_bi (pe_callB call_lenA (by rfl) T.len_ (by decide +kernel) (xa_cons (xe_v (pv 1)) xa_nil)) bl_len) (xa_cons (xe_c pe_int (fun _ _ => .int _)) xa_nil)))) (blkOk_by (N := ["words", "numbers", "word", "at"]) (sc := defScope (topS 19)) (by decide +kernel)) (fun _ _ _ _ _ => (xg_n (pg_name (i := 3) nd rfl (.inl rfl)))) (fun _ _ _ _ _ => xts_nil) (fun _ _ _ _ _ => (x_bi (pe_callTy call_tuple_of (by rfl) T.tuple_ (by decide +kernel) (xa_cons (xe_slice slTwo (xe_v (pv 1)) (xo_some (xe_v (pv 3))) (xo_some (x_op (pe_op opAddD (xe_v (pv 3)) (xe_c pe_int (fun _ _ => .int _))) ol_add))) xa_nil)) bl_tuple)) (by decide)) xa_nil)) bl_tuple)))), ?_⟩
  rintro n as K ⟨qs, rfl, h4, hq, k⟩
  walk_at "xs"
  refine lc_es ((nums qs).map PyData.int) ?_
  walk_at "xs"
  refine ⟨by rw [wds_it, List.length_map, List.length_map, List.length_map], by rw [List.length_map, wds_len]; omega, fun j d x hd hx => ?_, ?_⟩
  · obtain ⟨i, hi, rfl⟩ := mapget hx
    rw [wds_it, List.getElem?_map, List.getElem?_map, hi] at hd
    cases hd
    obtain ⟨q, hq1, hq2⟩ := nums_mem (List.mem_of_getElem? hi)
    have := hq q hq1
    walk_at "xw"
    walk_at "xs"
    refine ⟨by omega, by omega, ?_⟩
    walk_at "xs"
    rfl
  · walk_at "xw"
    walk_at "xs"
    refine lc_es (qs.map wSp) ?_
    walk_at "xs"
    refine ⟨0, ((2 * qs.length : Nat) : Int), 2, qs.length, by rw [List.length_map, nums_len]; rfl, rg2 _ h4, ?_, ?_, fun m d x hd hx => ?_, ?_⟩
    · unfold rgC
      rw [List.length_map, List.length_map, List.length_range]
    · unfold rgC
      rw [List.length_map, List.length_range]
      omega
    · obtain ⟨q, hq, rfl⟩ := mapget hx
      unfold rgC at hd
      obtain ⟨m', hm, rfl⟩ := mapget hd
      have hm2 := (List.getElem?_eq_some_iff.mp hm).2
      rw [List.getElem_range] at hm2
      subst hm2
      have lm : m < qs.length := (List.getElem?_eq_some_iff.mp hq).1
      have e1 : (0 + ((m : Nat) : Int) * 2) = ((2 * m : Nat) : Int) := by omega
      have e2 : (0 + ((m : Nat) : Int) * 2) + 2 = ((2 * m + 2 : Nat) : Int) := by omega
      walk_at "xw"
      walk_at "xs"
      rw [e2, e1]
      have hc : cutD ((nums qs).map PyData.int) (some ((2 * m : Nat) : Int)) (some ((2 * m + 2 : Nat) : Int)) = [.int q.1, .int q.2] := by
        unfold cutD
        have ll := nums_len (qs := qs)
        rw [HT.sIx_nat, HT.sIx_nat, List.length_map, Nat.min_eq_left (by omega), Nat.min_eq_left (by omega), ← List.map_drop, nums_at hq, show 2 * m + 2 - 2 * m = 2 by omega]
        rfl
      have hs : fSl (.list ((nums qs).map PyData.int)) (some ((2 * m : Nat) : Int)) (some ((2 * m + 2 : Nat) : Int)) = some (.f [.int q.1, .int q.2]) := by
        show some (RV.f (cutD _ _ _)) = _
        rw [hc]
      exact ⟨_, _, rfl, hs, _, _, rfl, rfl, True.intro, _, rfl, rfl, rfl⟩
    · walk_at "xw"
      walk_at "xs"
      exact k
theorem sc_row_told : FnScope ["line", "many", "words"] ["line", "many"] (defScope (topS 20)) := ⟨rfl, rfl, rfl, by decide +kernel, rfl, by decide +kernel, by decide +kernel⟩
theorem ok_row_told (D : DefAt K mg "row_told" (topS 20) ["line", "many"]) (T : Txt mg) (cstretches_told : C8.Cal P w K mg base 2 "stretches_told" (SpD false RSto) []) : C8.Cal P w K mg base 3 "row_told" (SpD false RRtW) [] := by
  have nd := sc_row_told.nd
  refine D.dl sc_row_told (by decide) (by rintro n rs K ⟨_, _, rfl, _⟩; exact ⟨rfl, rfl⟩) fun f cdv A outer s H E hr => ?_
  have hu64 := hr.units
  refine ⟨_, (xss_cons (xs_asg (w := false) (ps_set (i := 2) nd rfl (.inl rfl) (x_m1 (pe_m1 PySem.F.slot_str_split PySem.F.type_str_split mt_split (xe_v (pv 0)) (xe_c pe_str (fun _ _ => .str _ (by decide)))) ml_split)))
      (xss_one (xs_ret (xe_tup (xa_star (xe_slice slTwo (xe_v (pv 2)) xo_none (xo_some (xe_v (pv 1)))) (xa_star (x_call (C8.pe_c cstretches_told hr (by decide) rfl (xa_cons (xe_slice slTwo (xe_v (pv 2)) (xo_some (xe_v (pv 1))) xo_none) xa_nil)) (fun _ _ _ h => h)) xa_nil)))))), ?_⟩
  rintro n as K ⟨x, t, rfl, ht, k⟩
  have g := tie_inv ht
  have t2 := (isLet_inv g.1).2.1
  have sl := spW_len g.2.2
  have l3 : ((" " : Str)).length = 1 := by decide
  have ll : (lnW t).length ≤ 16 := by unfold lnW; rw [Str.length_append, Str.length_append]; omega
  have hS : fSplit (.str (lnW t)) (.str " ") = some ((((" " : Str).length == 0) = false ∧ (lnW t).length ≤ 900), .f ([t.1, it t.2.1, it t.2.2].map PyData.str)) := by
    show some (_, RV.f ((Txt.split (lnW t) " ").map PyData.str)) = _
    rw [split_tie ht]
  walk_at "xs"
  refine ⟨_, _, _, rfl, rfl, hS, ⟨by decide, by omega⟩, ?_⟩
  walk_at "xs"
  have c1 : fSl (.list [.str t.1, .str (it t.2.1), .str (it t.2.2)]) none (some 1) = some (.f [.str t.1]) := rfl
  have c2 : fSl (.list [.str t.1, .str (it t.2.1), .str (it t.2.2)]) (some 1) none = some (.f [.str (it t.2.1), .str (it t.2.2)]) := rfl
  refine ⟨_, _, rfl, c1, _, .inl rfl, _, rfl, _, rfl, _, rfl, _, _, rfl, c2, _, 0, rfl, nofun, [t.2], rfl, Nat.le_of_ble_eq_true rfl, fun q hq => ?_, rfl, _, .inr rfl, _, rfl, Nat.le_of_ble_eq_true rfl, rfl, 0, nofun, k⟩
  cases List.mem_singleton.mp hq
  omega
theorem sc_web_told : FnScope ["text", "lines", "ties", "line"] ["text"] (defScope (topS 28)) := ⟨rfl, rfl, rfl, by decide +kernel, rfl, by decide +kernel, by decide +kernel⟩
theorem ok_web_told {fI : Addr} {fdI : FuncData} (D : DefAt K mg "web_told" (topS 28) ["text"]) (T : Txt mg) (WA : WebAt K mg C fI fdI) (FIo : FnOk P w K mg base CX0 7 fI fdI ["self", "places", "ties"] (SpWO C)) (crow_told : C8.Cal P w K mg base 3 "row_told" (SpD false RRtW) []) : C8.Cal P w K mg base 9 "web_told" (SpD false (RToW C)) [] := by
  have nd := sc_web_told.nd
  refine D.dl sc_web_told (by decide) (by rintro n rs K ⟨_, _, rfl, _⟩; exact ⟨rfl, rfl⟩) fun f cdv A outer s H E hr => ?_
  have hu64 := hr.units
  refine ⟨_, (xss_cons (xs_if (xt_not (xt_val (xe_isi (T := "str") (pe_callB call_isi (by rfl) T.isinstance_ (by decide +kernel) (pa_cons (xe_v (pv 0)) (pa_cons (pe_bltn (v := .ty "str") (u := .type "str") (by rfl) T.str_ (by decide +kernel) rfl) pa_nil)))))) (xss_one xs_nev) xss_nil)
      (xss_cons (xs_asg (w := false) (ps_set (i := 1) nd rfl (.inl rfl) (x_m1 (pe_m1 PySem.F.slot_str_split PySem.F.type_str_split mt_split (xe_v (pv 0)) (xe_c pe_str (fun _ _ => .str _ (by decide)))) ml_split)))
      (xss_cons (xs_asg (w := false) (ps_set (i := 2) nd rfl (.inl rfl) (x_bi (pe_callTy call_tuple_of (by rfl) T.tuple_ (by decide +kernel) (xa_cons (xe_lc (own := [("line", 3)]) rfl nd (xi_look (xe_slice slTwo (xe_v (pv 1)) (xo_some (xe_c pe_int (fun _ _ => .int _))) xo_none)) (blkOk_by (N := ["text", "lines", "ties", "line"]) (sc := defScope (topS 28)) (by decide +kernel)) (fun _ _ _ _ _ => (xg_n (pg_name (i := 3) nd rfl (.inl rfl)))) (fun _ _ _ _ _ => xts_nil) (fun _ _ _ _ _ => (x_call (C8.pe_c crow_told hr (by decide) rfl (xa_cons (xe_v (pv 3)) (xa_cons (xe_c pe_int (fun _ _ => .int _)) xa_nil))) (fun _ _ _ h => h))) (by decide)) xa_nil)) bl_tuple)))
      (xss_one (xs_thru (xss_one (xs_ret (x_web (pe_make WA.mkT FIo (hr.mono (by decide)) rfl WA.g WA.b .nil pass0 (xa_cons (x_op (pe_ix ix_seq (xe_v (pv 1)) (xe_c pe_int (fun _ _ => .int _)) (fun _ _ => rfl)) ol_ix) (xa_cons (xe_v (pv 2)) xa_nil))))))))))), ?_⟩
  rintro n as K ⟨x, ls, rfl, g, k⟩
  have pl := g.page
  have l10 := g.l10
  have hS : fSplit (.str (pageW x ls)) (.str "\n") = some ((((("\n" : Str)).length == 0) = false ∧ (pageW x ls).length ≤ 900), .f ((x :: ls.map lnW).map PyData.str)) := by
    show some (_, RV.f ((Txt.split (pageW x ls) "\n").map PyData.str)) = _
    rw [split_web g]
  have hc : fSl (.list ((x :: ls.map lnW).map PyData.str)) (some 1) none = some (.f ((ls.map lnW).map PyData.str)) := by
    show some (RV.f (cutD _ _ _)) = _
    unfold cutD
    rw [HT.sIx_none, show (1 : Int) = ((1 : Nat) : Int) from rfl, HT.sIx_nat, List.length_map, List.length_cons, Nat.min_eq_left (by omega), List.map_cons, List.drop_succ_cons, List.drop_zero, List.take_of_length_le (by rw [List.length_map]; omega)]
  walk_at "xs"
  refine ⟨_, _, rfl, rfl, _, rfl, L2.iteF ?_⟩
  walk_at "xs"
  refine ⟨_, _, _, rfl, rfl, hS, ⟨by decide, by omega⟩, ?_⟩
  walk_at "xs"
  refine lc_es (ls.map dTie) ?_
  walk_at "xs"
  refine ⟨_, _, rfl, hc, ?_⟩
  walk_at "xs"
  refine ⟨by rw [List.length_map, List.length_map, List.length_map], by rw [List.length_map, List.length_map]; omega, fun m d y hd hx => ?_, ?_⟩
  · obtain ⟨t, ht, rfl⟩ := mapget hx
    rw [List.getElem?_map, List.getElem?_map, ht] at hd
    cases hd
    have gt := g.tie t (List.mem_of_getElem? ht)
    walk_at "xw"
    walk_at "xs"
    exact ⟨x, t, rfl, gt, rfl, _, rfl, rfl, rfl⟩
  · walk_at "xw"
    walk_at "xs"
    exact ⟨_, _, _, rfl, rfl, fIx_l (atI_nat (j := 0) rfl), True.intro, _, rfl, x, ls, rfl, g, rfl, 0, nofun, k⟩
theorem sc_w_told : FnScope ["cls", "text"] ["cls", "text"] (defScope (inClass (topS 27) 1)) := ⟨rfl, rfl, rfl, by decide +kernel, rfl, by decide +kernel, by decide +kernel⟩
theorem ok_w_told {f : Addr} {fd : FuncData} {q : Str} (F : FunD K "told" q (defArgs (inClass (topS 27) 1)) (defBody (inClass (topS 27) 1)) (defScope (inClass (topS 27) 1)) [] [] f fd) (cweb_told : C8.Cal P w K mg base 9 "web_told" (SpD false (RToW C)) []) : FnOk P w K mg base CX0 10 f fd ["cls", "text"] (SpC1 (RToW C)) := by
  refine F.ok sc_w_told (fun vs H Q E h => by obtain ⟨_, _, rfl, _⟩ := h; rfl) fun cdv A outer s H vs Q E hr h => ?_
  obtain ⟨c, v, rfl, k⟩ := h
  have nd := sc_w_told.nd
  refine ⟨_, PSs.nox (pss_one (ps_ret (C8.pe_c cweb_told hr (by decide) rfl (pa_cons (pv 1) pa_nil)))), ?_⟩
  dsimp only [tRet, tCall, tCons, tNil]
  exact ⟨_, rfl, k⟩
end
end Cs
set_option maxHeartbeats 4000000
/-! what is drawn (the well) -/
namespace Cs
open PySem L2 PyProof.Rows
def SpDraw : Sp := fun vs H Q _ => ∃ (p : Addr) (m : Int) (n : Nat), vs = [.ref p, .int m] ∧ 0 < m ∧ m < 1073741824 ∧ PailAt H p n ∧
  ∀ (r : Int) (H' : Hp), 0 ≤ r → r < m → ExB p H H' → PailAt H' p n → Q (.int r) H'
def SpWell (K : PySem.W.Frag) : Sp := fun vs H Q _ => ∃ (a : Addr) (ns : List Int) (i : Nat), vs = [.ref a, .int (i : Nat)] ∧ SqL K H a (ns.map V.int) ∧ ns.length ≤ 1000 ∧ i ≤ 1 ∧
  ∀ p n H', H p = none → Same H H' → PailAt H' p n → Q (.ref p) H'
def RDraw : DR := ⟨fun n as K => ∃ m : Nat, as = [.p, .d (.int (m : Nat))] ∧ 0 < m ∧ m < 1000000 ∧ ∀ j : Nat, j < m → K (.d (.int (j : Nat))) n, fun h ⟨m, e, a, b, k⟩ => ⟨m, e, a, b, fun j x => h _ _ (k j x)⟩⟩
theorem ad_draw {vs : List V} {H : Hp} {Q : VK} {E : XK} (h : SpD true RDraw vs H Q E) : SpDraw vs H Q E := by
  obtain ⟨p, M, n, as, pm, ph, ml, pt, ag, m, rfl, h1, h2, k⟩ := h
  obtain ⟨v, w, rfl, a1, a2⟩ := argA2 ag
  cases a1
  cases a2
  refine ⟨p, m, n, rfl, by omega, by omega, pt rfl, fun r H' r0 r1 ex hp => ?_⟩
  obtain ⟨j, rfl⟩ : ∃ j : Nat, r = (j : Nat) := ⟨r.toNat, by omega⟩
  exact k j (by omega) _ H' ⟨ex, hp⟩ (.int _)
section
variable {P : Program} {w : World} {K : PySem.W.Frag} {mg : Str → Option Value} {base : Heap}
theorem sc__law_draw : FnScope ["_law_well_here", "_law_many", "_law_figure"] ["_law_well_here", "_law_many"] (defScope (topS 40)) := ⟨rfl, rfl, rfl, by decide +kernel, rfl, by decide +kernel, by decide +kernel⟩
theorem ok__law_draw (D : DefAt K mg "_law_draw" (topS 40) ["_law_well_here", "_law_many"]) (T : Txt mg) : C8.Cal P w K mg base 1 "_law_draw" SpDraw [] := by
  refine D.cal sc__law_draw (fun vs H Q E h => by obtain ⟨p, m, n, rfl, _⟩ := h; rfl) fun f cdv A outer s H vs Q E hr h => ?_
  obtain ⟨p, m, n, rfl, m0, m1, ⟨a, b, c, c0, c1, hp⟩, k⟩ := h
  have nd := sc__law_draw.nd
  refine ⟨_, (pss_cons (ps_asg (pe_op op_mod (pe_callTy call_int1 (by rfl) T.int_ (by decide +kernel) (pa_cons (pe_op opAdd (pe_op opMul pe_int (pe_ix ix_seq (pv 0) pe_int (fun _ _ => rfl))) pe_int) pa_nil)) pe_int) (pg_sub (pv 0) pe_int set_list))
      (pss_cons (ps_asg (pe_op op_mod (pe_callTy call_int1 (by rfl) T.int_ (by decide +kernel) (pa_cons (pe_op opAdd (pe_op opMul pe_int (pe_ix ix_seq (pv 0) pe_int (fun _ _ => rfl))) pe_int) pa_nil)) pe_int) (pg_sub (pv 0) pe_int set_list))
      (pss_cons (ps_if (pt_cmpR op_gt (pe_ix ix_seq (pv 0) pe_int (fun _ _ => rfl)) pe_int (nomark _)) (pss_cons (ps_asg (pe_callB call_divmod (by rfl) T.divmod_ (by decide +kernel) (pa_cons (pe_ix ix_seq (pv 0) pe_int (fun _ _ => rfl)) (pa_cons (pv 1) pa_nil))) (pg_tup (by rfl) (pgs_cons (pg_sub (pv 0) pe_int set_list) (pgs_cons (pg_name (i := 2) nd rfl (.inl rfl)) pgs_nil))))
      (pss_one (ps_ret (pv 2)))) pss_nil)
      (pss_one (ps_ret (pe_op op_mod (pe_callTy call_int1 (by rfl) T.int_ (by decide +kernel) (pa_cons (pe_op op_fdiv (pe_op op_mod (pe_callTy call_int1 (by rfl) T.int_ (by decide +kernel) (pa_cons (pe_op op_sub (pe_ix ix_seq (pv 0) pe_int (fun _ _ => rfl)) (pe_ix ix_seq (pv 0) pe_int (fun _ _ => rfl))) pa_nil)) pe_int) pe_int) pa_nil)) (pv 1))))))), ?_⟩
  walk_at "es"
  refine ite2 (fun e1 => ?_) (fun e1 => ?_)
  · walk_at "es"
    intro t ht
    walk_at "es"
    refine k _ _ (Int.emod_nonneg _ (by omega)) (Int.emod_lt_of_pos _ m0) (fun b o nb e => ?_) ⟨_, _, _, Int.ediv_nonneg c0 (by omega), Int.le_trans (Int.ediv_le_self _ c0) c1, L2.upd_same⟩
    rw [upd_ne nb]
    refine upd_old ht ?_
    rw [upd_ne nb, upd_ne nb]
    exact e
  · walk_at "es"
    refine k _ _ (Int.emod_nonneg _ (by omega)) (Int.emod_lt_of_pos _ m0) (fun b o nb e => ?_) ⟨_, _, _, c0, c1, L2.upd_same⟩
    rw [upd_ne nb, upd_ne nb]
    exact e
theorem sc__law_well : FnScope ["_law_script", "_law_k", "_law_cell", "_law_part", "_law_low", "_law_high", "_law_well_here", "_law_turn"] ["_law_script", "_law_k"] (defScope (topS 39)) := ⟨rfl, rfl, rfl, by decide +kernel, rfl, by decide +kernel, by decide +kernel⟩
theorem ok__law_well (D : DefAt K mg "_law_well" (topS 39) ["_law_script", "_law_k"]) (T : Txt mg) (c_law_draw : C8.Cal P w K mg base 1 "_law_draw" SpDraw []) : C8.Cal P w K mg base 2 "_law_well" (SpWell K) [] := by
  refine D.cal sc__law_well (fun vs H Q E h => by obtain ⟨a, ns, i, rfl, _⟩ := h; rfl) fun f cdv A outer s H vs Q E hr h => ?_
  obtain ⟨a, ns, i, rfl, hq, hl, hi, k⟩ := h
  have nd := sc__law_well.nd
  have tail : ∃ tt, PSs (cxOf CX0 P w K mg base ["_law_script", "_law_k", "_law_cell", "_law_part", "_law_low", "_law_high", "_law_well_here", "_law_turn"] "_law_well" (defScope (topS 39)) f cdv A outer s H E).nox ((defBody (topS 39)).drop 2) tt ∧
      ∀ (c : Int) (u : Option V) (H' : Hp), Same H H' → tt { nx := fun _ H' => Q .non H', rt := Q } [some (.ref a), some (.int (i : Nat)), some (.int c), u, none, none, none, none] H' := by
    refine ⟨_, (pss_cons (ps_set (i := 4) nd rfl (.inl rfl) (pe_op op_mod (pe_callTy call_int1 (by rfl) T.int_ (by decide +kernel) (pa_cons (pe_op op_pow (pe_op opAdd (pe_op opAdd (pe_op op_mod (pe_callTy call_int1 (by rfl) T.int_ (by decide +kernel) (pa_cons (pv 2) pa_nil)) pe_int) (pe_op opMul pe_int (pv 1))) pe_int) pe_int) pa_nil)) pe_int))
      (pss_cons (ps_set (i := 5) nd rfl (.inl rfl) (pe_op op_mod (pe_callTy call_int1 (by rfl) T.int_ (by decide +kernel) (pa_cons (pe_op op_pow (pe_op opAdd (pe_op opAdd (pe_op op_mod (pe_callTy call_int1 (by rfl) T.int_ (by decide +kernel) (pa_cons (pv 2) pa_nil)) pe_int) (pe_op opMul pe_int (pv 1))) pe_int) pe_int) pa_nil)) pe_int))
      (pss_cons (ps_set (i := 6) nd rfl (.inl rfl) (pe_lst (pa_cons (pv 4) (pa_cons (pv 5) (pa_cons pe_int pa_nil)))))
      (pss_cons (ps_for PassesOwn.never rfl (pi_range1 rfl T.range_ (pa_cons pe_int pa_nil)) (pg_name (i := 7) nd rfl (.inl rfl)) (pss_one (ps_expr (C8.pe_c c_law_draw hr (by decide) rfl (pa_cons (pv 6) (pa_cons pe_int pa_nil))))))
      (pss_cons (ps_asg (pe_ifExp (pt_cmpR op_ge (pe_callB call_abs (by rfl) T.abs_ (by decide +kernel) (pa_cons (pv 2) pa_nil)) (pe_op op_pow pe_int pe_int) (nomark _)) (pe_callB call_abs (by rfl) T.abs_ (by decide +kernel) (pa_cons (pv 2) pa_nil)) pe_int) (pg_sub (pv 6) pe_int set_list))
      (pss_one (ps_ret (pv 6)))))))), fun c u H' sm => ?_⟩
    have b1 := Int.emod_nonneg c (b := 2147483563) (by decide)
    have b2 := Int.emod_lt_of_pos c (b := 2147483563) (by decide)
    have b3 := Int.emod_nonneg c (b := 2147483399) (by decide)
    have b4 := Int.emod_lt_of_pos c (b := 2147483399) (by decide)
    walk_at "e"
    walk_at "e"
    walk_at "e"
    walk_at "e"
    walk_at "e"
    walk_at "e"
    walk_at "e"
    walk_at "e"
    walk_at "e"
    refine ⟨_, _, rfl, rfl, ⟨by decide, by decide, by omega⟩, ?_⟩
    dsimp only
    generalize (c % 2147483563 + 3 * ((i : Nat) : Int) + 1) ^ (5 : Int).toNat = y1
    walk_at "e"
    walk_at "e"
    walk_at "e"
    walk_at "e"
    walk_at "e"
    walk_at "e"
    walk_at "e"
    walk_at "e"
    walk_at "e"
    walk_at "e"
    walk_at "e"
    walk_at "e"
    refine ⟨_, _, rfl, rfl, ⟨by decide, by decide, by omega⟩, ?_⟩
    dsimp only
    generalize (c % 2147483399 + 7 * ((i : Nat) : Int) + 2) ^ (5 : Int).toNat = y2
    walk_at "e"
    walk_at "e"
    walk_at "e"
    walk_at "e"
    refine ⟨_, rfl, len_le (n := 3) rfl (by decide), fun l hl0 => ?_⟩
    refine ⟨3, rfl, by decide, by decide, for_range (n := 3) (fun j σ H2 => ∃ u7, σ = [some (.ref a), some (.int (i : Nat)), some (.int c), u, some (.int (y1 % 2147483563)), some (.int (y2 % 2147483399)), some (.ref l), u7] ∧ (∀ b o, b ≠ l → H' b = some o → H2 b = some o) ∧ PailAt H2 l 0)
      ⟨none, rfl, fun b o nb e => by rw [upd_ne nb]; exact e, y1 % 2147483563, y2 % 2147483399, 0, by decide, by decide, upd_same⟩ ?_ ?_⟩
    · rintro j σ H2 hj ⟨u7, rfl, ex, hp⟩
      exact ⟨_, rfl, l, 2, 0, rfl, by decide, by decide, hp, fun r H3 _ _ e2 h2 => ⟨some (.int (0 + j)), rfl, fun b o nb e => e2 b o nb (ex b o nb e), h2⟩⟩
    · rintro σ H2 ⟨u7, rfl, ex, a1, b1, c1, c0, cn, hl1⟩
      have fin : ∀ z : Int, 0 ≤ z → Q (.ref l) (upd H2 l (.lst [.int a1, .int b1, .int z])) := fun z z0 => k l z.toNat _ (sm.free hl0) (fun b o e => by
        have nb := ne_of_none (sm b o e) hl0
        rw [upd_ne nb]
        exact ex b o nb (sm b o e)) ⟨a1, b1, z, z0, by omega, upd_same⟩
      refine ⟨_, rfl, c, rfl, 10, 18, rfl, rfl, ⟨by decide, by decide, by decide⟩, _, _, rfl, rfl, _, rfl, ite2 (fun _ => ?_) (fun _ => ?_)⟩
      · exact ⟨_, rfl, c, rfl, _, rfl, l, _, 2, 2, rfl, rfl, hl1, rfl, _, rfl, fin _ (by split <;> omega)⟩
      · exact ⟨_, rfl, l, _, 2, 2, rfl, rfl, hl1, rfl, _, rfl, fin 0 (by omega)⟩
  obtain ⟨tt, ht, tail⟩ := tail
  refine ⟨_, pss_cons (ps_set (i := 2) nd rfl (.inl rfl) (pe_ifExp (pt_cmpR opLt (pv 1) (pe_callB call_lenA (by rfl) T.len_ (by decide +kernel) (pa_cons (pv 0) pa_nil)) (nomark _)) (pe_ix ix_seq (pv 0) (pv 1) (fun _ _ => rfl)) (pe_op opAdd (pe_op opMul pe_int (pv 1)) pe_int))) (pss_cons (ps_if (pt_cmpR op_ge (pv 1) (pe_callB call_lenA (by rfl) T.len_ (by decide +kernel) (pa_cons (pv 0) pa_nil)) (nomark _)) (pss_one (ps_for PassesOwn.never rfl (pi_list (pe_slice slAny (pv 0) po_none (po_some pe_int))) (pg_name (i := 3) nd rfl (.inl rfl)) (pss_one (ps_set (i := 2) nd rfl (.inl rfl) (pe_op op_mod (pe_callTy call_int1 (by rfl) T.int_ (by decide +kernel) (pa_cons (pe_op opAdd (pe_op opMul (pv 2) pe_int) (pv 3)) pa_nil)) pe_int))))) pss_nil) ht), ?_⟩
  have hl2 : (List.map V.int ns).length = ns.length := List.length_map ..
  walk_at "e"
  walk_at "e"
  refine .inl ⟨a, _, rfl, .inl hq, ?_⟩
  refine .inl ⟨_, _, rfl, rfl, _, rfl, ?_⟩
  refine ite2 (fun e1 => ?_) (fun e1 => ?_)
  · have e2 : i < ns.length := by
      have z := of_decide_eq_true e1
      rw [hl2] at z
      omega
    walk_at "e"
    walk_at "e"
    refine .inl ⟨a, _, _, .int ns[i], rfl, rfl, hq, atI_nat (by rw [List.getElem?_map, List.getElem?_eq_getElem e2]; rfl), ?_⟩
    refine ⟨_, rfl, _, rfl, .inl ⟨a, _, rfl, .inl hq, ⟨_, _, rfl, rfl, _, rfl, ite2 (fun e3 => ?_) (fun _ => tail _ none H (Same.refl _))⟩⟩⟩
    have z := of_decide_eq_true e3
    rw [hl2] at z
    omega
  · walk_at "e"
    walk_at "e"
    walk_at "e"
    walk_at "e"
    generalize 1009 * ((i : Nat) : Int) + 77 = cell
    refine ⟨_, rfl, _, rfl, .inl ⟨a, _, rfl, .inl hq, ⟨_, _, rfl, rfl, _, rfl, ite2 (fun _ => ?_) (fun e3 => ?_)⟩⟩⟩
    · refine ⟨_, rfl, 3, rfl, .inl ⟨a, _, rfl, hq, fun l hl0 => ?_⟩⟩
      have s0 : Same H (upd H l (.lst (cutV (ns.map V.int) none (some 3)))) := same_new hl0
      have hcut : ∃ ms : List Int, cutV (ns.map V.int) none (some 3) = ms.map V.int := ⟨ns.take 3, by
        unfold cutV
        rw [HT.sIx_none, List.drop_zero, List.map_take]
        by_cases h6 : 3 ≤ ns.length
        · rw [show (3 : Int) = ((3 : Nat) : Int) from rfl, HT.sIx_nat, List.length_map, Nat.min_eq_left h6, Nat.sub_zero]
        · rw [show (3 : Int) = ((3 : Nat) : Int) from rfl, HT.sIx_nat, List.length_map, Nat.min_eq_right (by omega), Nat.sub_zero, List.take_of_length_le (by rw [List.length_map]; omega), List.take_of_length_le (by rw [List.length_map]; omega)]⟩
      obtain ⟨ms, hcut⟩ := hcut
      rw [hcut] at s0 ⊢
      refine ⟨l, rfl, ⟨_, SqL.of upd_same⟩, for_list (xs := ms.map V.int) (fun j σ H' => ∃ m u, σ = [some (.ref a), some (.int (i : Nat)), some (.int m), u, none, none, none, none] ∧ Same (upd H l (.lst (ms.map V.int))) H')
        ⟨_, none, rfl, Same.refl _⟩ (fun j σ H' _ ⟨_, _, _, sm⟩ => SqL.of (sm _ _ upd_same)) ?_ ?_⟩
      · rintro j x σ H' hx ⟨m, u, rfl, sm⟩
        rw [List.getElem?_map] at hx
        obtain ⟨y, hy, rfl⟩ := Option.map_eq_some_iff.mp hx
        walk_at "es"
        exact sm
      · rintro σ H' ⟨m, u, rfl, sm⟩
        exact tail m u H' (s0.trans sm)
    · rw [hl2] at e1 e3
      exact absurd (decide_eq_true (Int.not_lt.mp fun z => e1 (decide_eq_true z))) e3
end
end Cs
set_option maxHeartbeats 4000000
local macro_rules | `(tactic| walk_at "xg") => `(tactic| try dsimp only [Cs.xRet, Cs.xRetN, Cs.xOp, Cs.xUn, Cs.xV, Cs.xB, Cs.xC, Cs.xCall, Cs.xCons, Cs.xNil, Cs.xBi, Cs.xSeq, Cs.xSet, Cs.xSets, Cs.xIfS, Cs.xTest, Cs.xTup, Cs.xLst, Cs.xAndV, Cs.xOrV, Cs.xNotV, Cs.xNot, Cs.xAndT, Cs.xOrT, Cs.xIf, Cs.xSl, Cs.xNoPart, Cs.xPart, Cs.xiL, Cs.xiB, Cs.xiT, Cs.xiR1, Cs.xiR2, Cs.xiS, Cs.xiZ, Cs.xiE, Cs.xgN, Cs.xgT, Cs.xgNil, Cs.xgCons, Cs.xYes, Cs.xDrop, Cs.xApp, Cs.xPopS, Cs.xPopA, Cs.xAsg, Cs.xNext, Cs.xNev, Cs.xChain, Cs.xIsi, Cs.xRaw, Cs.okEnd, Cs.toAV, Cs.setP, Cs.aftP, Cs.xCallK, Cs.xMeth, Cs.xProp, Cs.xW, Cs.xM1, Cs.xRv, Cs.xiR3, Cs.xMethK, Cs.xLstO, Cs.xiO, Cs.elA, Cs.turnO, Cs.xWp, Cs.xFl, Cs.xTz, Cs.xWhile, Cs.toAVL, Cs.xCallL, Cs.xDct, Cs.xgU, Cs.xSlS, Cs.xiZs, Cs.xExt, Cs.xCallB, Cs.xStar, Cs.xJs, Cs.jsRun, Cs.xFld, Cs.xLenW, Cs.xStrW, Cs.xBoolW, Cs.xOwnW, Cs.xWeb, Cs.xWebK, Cs.xIdx, List.map, List.replicate, List.length_cons, List.length_nil, List.cons_append, List.nil_append, List.set_cons_succ, List.set_cons_zero, Nat.add_sub_cancel, Nat.sub_self, Nat.reduceSub, Nat.reduceAdd, eq_self, ↓reduceIte])
local macro_rules | `(tactic| walk_at "xw") => `(tactic| try dsimp only [Cs.lcTurn, Cs.wipeA, List.set_cons_succ, List.set_cons_zero])
local macro_rules | `(tactic| walk_at "x") => `(tactic| first
  | (with_reducible refine Eq.mpr (if_pos ?_) ?_; exact rfl)
  | (with_reducible refine Eq.mpr (if_neg ?_) ?_; exact Bool.false_ne_true)
  | refine ⟨_, rfl, ?_⟩
  | refine ⟨rfl, ?_⟩
  | refine ⟨_, _, rfl, rfl, True.intro, ?_⟩
  | refine ⟨_, _, _, rfl, rfl, rfl, True.intro, ?_⟩
  | refine ⟨_, rfl, by exact Nat.le_of_ble_eq_true rfl, ?_⟩
  | refine ⟨by exact Nat.le_of_ble_eq_true rfl, ?_⟩
  | refine ⟨_, _, _, _, rfl, rfl, rfl, rfl, ?_⟩
  | refine ⟨_, _, rfl, ?_⟩
  | refine ⟨⟨_, rfl⟩, ?_⟩
  | refine ⟨_, _, rfl, fun _ => rfl, ?_⟩
  | refine ⟨_, 0, rfl, (fun z => (nomatch z)), ?_⟩
  | refine ⟨_, fun _ => rfl, ?_⟩
  | refine ⟨0, (fun z => (nomatch z)), ?_⟩
  | fail "x")
local macro_rules | `(tactic| walk_at "xs") => `(tactic| repeat' (walk_at "xg"; walk_at "x"))
local macro_rules | `(tactic| walk_at "sets") => `(tactic| (intro vs σ H Q hl hq; first
  | exact (match vs, hl, hq with | [_], _, q => ⟨_, _, rfl, rfl, q⟩)
  | exact (match vs, hl, hq with | [_, _], _, q => ⟨_, _, rfl, _, _, rfl, rfl, q⟩)
  | exact (match vs, hl, hq with | [_, _, _], _, q => ⟨_, _, rfl, _, _, rfl, _, _, rfl, rfl, q⟩)
  | fail "sets"))
/-! stretches drawn, pages (the law's own) -/
namespace Cs
open PySem PySem.Spec L2 L2H PyProof.Rows TL
def SpanOk (q : Int × Int) : Prop := 0 ≤ q.1 ∧ q.1 ≤ q.2 ∧ q.2 ≤ 1000
def RStr : DR := ⟨fun n as K => as = [.p] ∧ ∀ q : Int × Int, SpanOk q → K (.d (wSp q)) n, fun h ⟨e, k⟩ => ⟨e, fun q z => h _ _ (k q z)⟩⟩
def RPgW : DR := ⟨fun _ as K => ∃ (x : Str) (ls : List Tie), as = [.d (.str x), .d (dTies ls)] ∧ WebOk x ls ∧ K (.d (.str (pageW x ls))) 0, fun h ⟨x, ls, e, a, k⟩ => ⟨x, ls, e, a, h _ _ k⟩⟩
theorem pick4 {j : Nat} (h : j < 4) : ∃ z : Int, 0 ≤ z ∧ z ≤ 6 ∧ fIx (.list [.int 0, .int 1, .int 2, .int 6]) (.int (j : Nat)) = some (True, .d (.int z)) := by
  match j, h with
  | 0, _ => exact ⟨0, by decide, by decide, fIx_l (atI_nat (j := 0) rfl)⟩
  | 1, _ => exact ⟨1, by decide, by decide, fIx_l (atI_nat (j := 1) rfl)⟩
  | 2, _ => exact ⟨2, by decide, by decide, fIx_l (atI_nat (j := 2) rfl)⟩
  | 3, _ => exact ⟨6, by decide, by decide, fIx_l (atI_nat (j := 3) rfl)⟩
theorem pick2 {j : Nat} (h : j < 2) : ∃ q : Int × Int, SpanOk q ∧ fIx (.list [.tuple [.int 0, .int 1000], .tuple [.int 1000, .int 1000]]) (.int (j : Nat)) = some (True, .d (wSp q)) := by
  match j, h with
  | 0, _ => exact ⟨(0, 1000), ⟨by decide, by decide, by decide⟩, fIx_l (atI_nat (j := 0) rfl)⟩
  | 1, _ => exact ⟨(1000, 1000), ⟨by decide, by decide, by decide⟩, fIx_l (atI_nat (j := 1) rfl)⟩
section
variable {P : Program} {w : World} {K : PySem.W.Frag} {mg : Str → Option Value} {base : Heap}
theorem sc__law_stretch : FnScope ["_law_well_here", "_law_low", "_law_wide"] ["_law_well_here"] (defScope (topS 42)) := ⟨rfl, rfl, rfl, by decide +kernel, rfl, by decide +kernel, by decide +kernel⟩
theorem ok__law_stretch (D : DefAt K mg "_law_stretch" (topS 42) ["_law_well_here"]) (T : Txt mg) (c_law_draw : C8.Cal P w K mg base 1 "_law_draw" SpDraw []) : C8.Cal P w K mg base 2 "_law_stretch" (SpD true RStr) [] := by
  have nd := sc__law_stretch.nd
  refine D.dl sc__law_stretch (by decide) (by rintro n rs K ⟨rfl, _⟩; exact ⟨rfl, rfl⟩) fun f cdv A outer s H E hr => ?_
  have hu64 := hr.units
  refine ⟨_, (xss_cons (xs_par (w1 := false) (w2 := false) (ps_par (i := 1) (j := 2) (by rfl) nd rfl rfl (by decide) rfl rfl (xa_cons (x_call (C8.pe_c c_law_draw hr (by decide) rfl (xa_cons (xe_v (pv 0)) (xa_cons (xe_c pe_int (fun _ _ => .int _)) xa_nil))) (fun _ _ _ => ad_draw)) (xa_cons (x_op (pe_ix ix_seq (xe_lst (xa_cons (xe_c pe_int (fun _ _ => .int _)) (xa_cons (xe_c pe_int (fun _ _ => .int _)) (xa_cons (xe_c pe_int (fun _ _ => .int _)) (xa_cons (xe_c pe_int (fun _ _ => .int _)) xa_nil))))) (x_call (C8.pe_c c_law_draw hr (by decide) rfl (xa_cons (xe_v (pv 0)) (xa_cons (xe_c pe_int (fun _ _ => .int _)) xa_nil))) (fun _ _ _ => ad_draw)) (fun _ _ => rfl)) ol_ix) xa_nil)) (by rfl)))
      (xss_one (xs_ret (xe_ifExp (PW.pt (xw_and (xt_op (pt_cmpR opLt (xe_v (pv 1)) (xe_c pe_int (fun _ _ => .int _)) (nomark _)) ol_lt) (xw_and1 (xt_op (pt_cmpR (opEq hu64) (x_call (C8.pe_c c_law_draw hr (by decide) rfl (xa_cons (xe_v (pv 0)) (xa_cons (xe_c pe_int (fun _ _ => .int _)) xa_nil))) (fun _ _ _ => ad_draw)) (xe_c pe_int (fun _ _ => .int _)) (nomark _)) ol_eq)))) (x_op (pe_ix ix_seq (xe_lst (xa_cons (xe_tup (xa_cons (xe_c pe_int (fun _ _ => .int _)) (xa_cons (xe_c pe_int (fun _ _ => .int _)) xa_nil))) (xa_cons (xe_tup (xa_cons (xe_c pe_int (fun _ _ => .int _)) (xa_cons (xe_c pe_int (fun _ _ => .int _)) xa_nil))) xa_nil))) (xe_v (pv 1)) (fun _ _ => rfl)) ol_ix) (xe_tup (xa_cons (xe_v (pv 1)) (xa_cons (x_op (pe_op opAddD (xe_v (pv 1)) (xe_v (pv 2))) ol_add) xa_nil))))))), ?_⟩
  rintro n as K ⟨rfl, k⟩
  walk_at "xs"
  intro j hj
  walk_at "xs"
  intro j2 h2
  obtain ⟨z, z0, z6, hz⟩ := pick4 h2
  walk_at "xs"
  refine ⟨_, _, _, rfl, rfl, hz, True.intro, ?_⟩
  walk_at "xs"
  refine L2.ite2 (fun c1 => ?_) (fun c1 => ?_)
  · have c1 := of_decide_eq_true c1
    walk_at "xs"
    intro j3 h3
    walk_at "xs"
    refine L2.ite2 (fun c2 => ?_) (fun c2 => ?_)
    · walk_at "xs"
      obtain ⟨q, qo, hq⟩ := pick2 (j := j) (by omega)
      exact ⟨_, _, _, rfl, rfl, hq, True.intro, rfl, _, fun _ => rfl, k q qo⟩
    · walk_at "xs"
      exact k ((j : Nat), (j : Nat) + z) ⟨by omega, by omega, by omega⟩
  · walk_at "xs"
    exact k ((j : Nat), (j : Nat) + z) ⟨by omega, by omega, by omega⟩
theorem sc__law_page : FnScope ["_law_spots", "_law_links", "_law_two", "_law_low", "_law_high"] ["_law_spots", "_law_links"] (defScope (topS 43)) := ⟨rfl, rfl, rfl, by decide +kernel, rfl, by decide +kernel, by decide +kernel⟩
theorem ok__law_page (D : DefAt K mg "_law_page" (topS 43) ["_law_spots", "_law_links"]) (T : Txt mg) : C8.Cal P w K mg base 1 "_law_page" (SpD false RPgW) [] := by
  have nd := sc__law_page.nd
  refine D.dl sc__law_page (by decide) (by rintro n rs K ⟨_, _, rfl, _⟩; exact ⟨rfl, rfl⟩) fun f cdv A outer s H E hr => ?_
  have hu64 := hr.units
  refine ⟨_, (xss_one (xs_ret (x_m1 (pe_m1 PySem.F.slot_str_join PySem.F.type_str_join mt_join (xe_c pe_str (fun _ _ => .str _ (by decide))) (x_op (pe_op opAddD (xe_lst (xa_cons (xe_v (pv 0)) xa_nil)) (xe_lc (own := [("_law_two", 2), ("_law_low", 3), ("_law_high", 4)]) rfl nd (xi_tup (xe_v (pv 1))) (blkOk_by (N := ["_law_spots", "_law_links", "_law_two", "_law_low", "_law_high"]) (sc := defScope (topS 43)) (by decide +kernel)) (fun _ _ _ _ _ => (xg_t (pg_tup (by rfl) (xgs_cons (xg_n (pg_name (i := 2) nd rfl (.inl rfl))) (xgs_cons (xg_t (pg_tup (by rfl) (xgs_cons (xg_n (pg_name (i := 3) nd rfl (.inl rfl))) (xgs_cons (xg_n (pg_name (i := 4) nd rfl (.inl rfl))) xgs_nil)))) xgs_nil))))) (fun _ _ _ _ _ => xts_nil) (fun _ _ _ _ _ => (x_op (pe_op opAddD (x_op (pe_op opAddD (x_op (pe_op opAddD (x_op (pe_op opAddD (xe_v (pv 2)) (xe_c pe_str (fun _ _ => .str _ (by decide)))) ol_add) (x_bi (pe_callTy call_str_int (by rfl) T.str_ (by decide +kernel) (xa_cons (xe_v (pv 3)) xa_nil)) bl_strI)) ol_add) (xe_c pe_str (fun _ _ => .str _ (by decide)))) ol_add) (x_bi (pe_callTy call_str_int (by rfl) T.str_ (by decide +kernel) (xa_cons (xe_v (pv 4)) xa_nil)) bl_strI)) ol_add)) (by decide))) ol_add)) ml_join))), ?_⟩
  rintro n as K ⟨x, ls, rfl, g, k⟩
  have l10 := g.l10
  have lx := g.len
  have l3 : ((" " : Str)).length = 1 := by decide
  walk_at "xs"
  refine lc_es ((ls.map lnW).map PyData.str) ?_
  walk_at "xs"
  refine ⟨by rw [List.length_map, List.length_map, List.length_map], by rw [List.length_map]; omega, fun j d y hd hy => ?_, ?_⟩
  · obtain ⟨t, ht, rfl⟩ := mapget hd
    rw [List.getElem?_map, List.getElem?_map, ht] at hy
    cases hy
    have gt := tie_inv (g.tie t (List.mem_of_getElem? ht))
    have t2 := (isLet_inv gt.1).2.1
    walk_at "xw"
    refine ⟨_, rfl, _, _, rfl, _, _, rfl, _, rfl, _, _, rfl, _, _, rfl, rfl, rfl, ?_⟩
    walk_at "xs"
    have m1 := (it_int (i := t.2.1) (by omega) (by omega)).2
    have m2 := (it_int (i := t.2.2) (by omega) (by omega)).2
    have eL : t.1 ++ ((" " : Str)) ++ it t.2.1 ++ ((" " : Str)) ++ it t.2.2 = lnW t := by
      unfold lnW spW
      rw [Str.append_assoc, Str.append_assoc, Str.append_assoc]
    have g1 : t.2.1.natAbs.log2 < 1920 := lg_small (by omega) (by omega)
    have g2 : t.2.2.natAbs.log2 < 1920 := lg_small (by omega) (by omega)
    have hS : ∀ i : Int, fStrI [.int i] = some (i.natAbs.log2 < 1920 ∧ (it i).length ≤ 1000, .d (.str (it i))) := fun _ => rfl
    have hA : ∀ a b : Str, fAdd (.str a) (.str b) = some (a.length + b.length ≤ 1000, .d (.str (a ++ b))) := fun _ _ => rfl
    refine ⟨_, _, _, rfl, rfl, hA _ _, by rw [l3]; omega, _, rfl, _, _, rfl, hS _, ⟨g1, by omega⟩, _, _, _, rfl, rfl, hA _ _, by rw [Str.length_append, l3]; omega, _, _, _, rfl, rfl, hA _ _, by rw [Str.length_append, Str.length_append, l3]; omega, _, rfl, _, _, rfl, hS _, ⟨g2, by omega⟩, _, _, _, rfl, rfl, hA _ _, by rw [Str.length_append, Str.length_append, Str.length_append, l3]; omega, _, rfl, ?_, rfl⟩
    rw [eL]
  walk_at "xw"
  walk_at "xs"
  have hJ : ∀ (a : Str) (xs : List Str), fJoin (.str a) (.list (xs.map PyData.str)) = some (a.length ≤ 10 ∧ (Txt.join a xs).length ≤ 1000, .d (.str (Txt.join a xs))) := fun a xs => by
    show (strsO (xs.map PyData.str)).map _ = _
    rw [strsO_map]
    rfl
  have pl := g.page
  refine ⟨_, _, _, rfl, rfl, rfl, (by show 1 + ((ls.map lnW).map PyData.str).length ≤ 1000; rw [List.length_map, List.length_map]; omega), _, _, _, rfl, rfl, hJ "\n" (x :: ls.map lnW), ⟨by decide, by show (pageW x ls).length ≤ 1000; omega⟩, rfl, _, nofun, k⟩
end
end Cs
set_option maxHeartbeats 4000000
/-! drawn webs are webs -/
namespace Cs
open PySem PySem.Spec L2 L2H PyProof.Rows
abbrev Ent : Type := (Nat × Nat) × Addr × (Int × Int)
def kxL (L : List Nat) (p : Nat × Nat) : Str := ⟨#[L.getD p.1 0, L.getD p.2 0]⟩
structure EsOk (L : List Nat) (es : List Ent) : Prop where
  ix : ∀ e ∈ es, e.1.1 < e.1.2 ∧ e.1.2 < L.length
  nd : (es.map (fun e : Ent => e.1)).Nodup
  sp : ∀ e ∈ es, SpanOk e.2.2
def Tree (m : Nat) (es : List Ent) : Prop := ∀ k, 1 ≤ k → k < m → ∃ e ∈ es, e.1.2 = k
structure LetL (L : List Nat) (mo : Nat) : Prop where
  as : L.Pairwise (· < ·)
  lt : ∀ c ∈ L, 97 ≤ c ∧ c ≤ 122
  l2 : 2 ≤ L.length
  l6 : L.length ≤ mo
theorem getD_at {L : List Nat} {i : Nat} (h : i < L.length) : L.getD i 0 = L[i] := by
  rw [List.getD_eq_getElem?_getD, List.getElem?_eq_getElem h]
  rfl
theorem getD_mem {L : List Nat} {i : Nat} (h : i < L.length) : L.getD i 0 ∈ L := by
  rw [getD_at h]
  exact List.getElem_mem h
theorem getD_lt {L : List Nat} {i j : Nat} (a : L.Pairwise (· < ·)) (h : i < j) (hj : j < L.length) : L.getD i 0 < L.getD j 0 := by
  rw [getD_at (by omega), getD_at hj]
  exact List.pairwise_iff_getElem.mp a i j (by omega) hj h
theorem getD_inj {L : List Nat} {i j : Nat} (a : L.Pairwise (· < ·)) (hi : i < L.length) (hj : j < L.length) (e : L.getD i 0 = L.getD j 0) : i = j := by
  rcases Nat.lt_trichotomy i j with z | z | z
  · have := getD_lt a z hj
    omega
  · exact z
  · have := getD_lt a z hi
    omega
theorem kx_inj {L : List Nat} {p q : Nat × Nat} (a : L.Pairwise (· < ·)) (hp : p.1 < p.2 ∧ p.2 < L.length) (hq : q.1 < q.2 ∧ q.2 < L.length) (e : kxL L p = kxL L q) : p = q := by
  unfold kxL at e
  injection e with e
  have e := congrArg Array.toList e
  injection e with e1 e2
  injection e2 with e2 _
  exact Prod.ext (getD_inj a (by omega) (by omega) e1) (getD_inj a hp.2 hq.2 e2)
theorem Ent.ks_nd {L : List Nat} {es : List Ent} (a : L.Pairwise (· < ·)) (g : EsOk L es) : (es.map fun e => kxL L e.1).Nodup := by
  have : ∀ {es : List Ent}, (∀ e ∈ es, e.1.1 < e.1.2 ∧ e.1.2 < L.length) → (es.map (fun e : Ent => e.1)).Nodup → (es.map fun e => kxL L e.1).Nodup := by
    intro es
    induction es with
    | nil => exact fun _ _ => .nil
    | cons e es ih =>
      intro h n
      rw [List.map_cons, List.nodup_cons] at n ⊢
      refine ⟨fun m => ?_, ih (fun f hf => h f (List.mem_cons_of_mem _ hf)) n.2⟩
      obtain ⟨f, hf, ef⟩ := List.mem_map.mp m
      refine n.1 (List.mem_map.mpr ⟨f, hf, ?_⟩)
      exact kx_inj a (h f (List.mem_cons_of_mem _ hf)) (h e List.mem_cons_self) ef
  exact this g.ix g.nd
theorem EsOk.perm {L : List Nat} {es fs : List Ent} (g : EsOk L es) (p : fs.Perm es) : EsOk L fs :=
  ⟨fun e h => g.ix e (p.mem_iff.mp h), (p.map _).nodup_iff.mpr g.nd, fun e h => g.sp e (p.mem_iff.mp h)⟩
theorem Tree.perm {m : Nat} {es fs : List Ent} (g : Tree m es) (p : fs.Perm es) : Tree m fs := fun k a b => by
  obtain ⟨e, h, x⟩ := g k a b
  exact ⟨e, p.mem_iff.mpr h, x⟩
theorem Tree.mono {m : Nat} {es fs : List Ent} (g : Tree m es) (h : ∀ e ∈ es, e ∈ fs) : Tree m fs := fun k a b => by
  obtain ⟨e, he, x⟩ := g k a b
  exact ⟨e, h e he, x⟩
theorem perm_map_inv {α β : Type} {f : α → β} {l1 l2 : List β} (h : l1.Perm l2) : ∀ {xs : List α}, l2 = xs.map f → ∃ ys : List α, ys.Perm xs ∧ l1 = ys.map f := by
  induction h with
  | nil => intro xs e; exact ⟨xs, .refl _, e⟩
  | cons a h ih =>
    intro xs e
    cases xs with
    | nil => cases e
    | cons x xs =>
      rw [List.map_cons] at e
      injection e with e1 e2
      obtain ⟨ys, p, e3⟩ := ih e2
      exact ⟨x :: ys, p.cons x, by rw [List.map_cons, e1, e3]⟩
  | swap a b l =>
    intro xs e
    match xs, e with
    | x :: y :: xs, e =>
      rw [List.map_cons, List.map_cons] at e
      injection e with e1 e2
      injection e2 with e2 e3
      exact ⟨y :: x :: xs, .swap _ _ _, by rw [List.map_cons, List.map_cons, e1, e2, e3]⟩
  | trans h1 h2 ih1 ih2 =>
    intro xs e
    obtain ⟨ys, p, e1⟩ := ih2 e
    obtain ⟨zs, q, e2⟩ := ih1 e1
    exact ⟨zs, q.trans p, e2⟩
def tieE (L : List Nat) (e : Ent) : Tie := (kxL L e.1, e.2.2)
theorem tree_reach {L : List Nat} {es : List Ent} (a : L.Pairwise (· < ·)) (g : EsOk L es) (t : Tree L.length es) (h1 : 1 ≤ L.length) : ∀ n k : Nat, k < L.length → k ≤ n → L.getD k 0 ∈ rchN L ((es.map (tieE L)).map (·.1)) n (L.take 1)
  | 0, k, hk, h0 => by
    obtain rfl : k = 0 := by omega
    show L.getD 0 0 ∈ L.take 1
    cases L with
    | nil => cases hk
    | cons c L => exact List.mem_cons_self
  | n + 1, k, hk, hn => by
    rw [rchN_succ]
    unfold stpR
    by_cases hz : k ≤ n
    · exact List.mem_append_left _ (tree_reach a g t h1 n k hk hz)
    obtain rfl : k = n + 1 := by omega
    obtain ⟨e, he, ek⟩ := t (n + 1) (by omega) hk
    have gi := g.ix e he
    have ho := tree_reach a g t h1 n e.1.1 (by omega) (by omega)
    have lt := getD_lt a gi.1 gi.2
    rw [ek] at lt
    by_cases hc : L.getD (n + 1) 0 ∈ rchN L ((es.map (tieE L)).map (·.1)) n (L.take 1)
    · exact List.mem_append_left _ hc
    · refine List.mem_append_right _ (List.mem_filter.mpr ⟨getD_mem hk, ?_⟩)
      rw [Bool.and_eq_true]
      refine ⟨by simpa using hc, ?_⟩
      unfold besC
      rw [List.any_eq_true]
      refine ⟨_, ho, ?_⟩
      rw [List.contains_eq_mem, decide_eq_true_eq]
      unfold prC
      rw [if_neg (by omega)]
      refine List.mem_map.mpr ⟨tieE L e, List.mem_map.mpr ⟨e, he, rfl⟩, ?_⟩
      show kxL L e.1 = _
      unfold kxL
      rw [ek]
theorem let_kx {L : List Nat} {p : Nat × Nat} {mo : Nat} (g : LetL L mo) (h : p.1 < p.2 ∧ p.2 < L.length) : isLet 2 2 (.str (kxL L p)) = true := by
  have b1 := g.lt _ (getD_mem (L := L) (i := p.1) (by omega))
  have b2 := g.lt _ (getD_mem (L := L) (i := p.2) h.2)
  have lt := getD_lt g.as h.1 h.2
  show ((decide ((2 : Int) ≤ (((kxL L p).length : Nat) : Int)) && decide ((((kxL L p).length : Nat) : Int) ≤ 2)) && ((kxL L p).cps.toList.all letterC && ascL (kxL L p).cps.toList)) = true
  have e1 : (kxL L p).length = 2 := rfl
  have e2 : (kxL L p).cps.toList = [L.getD p.1 0, L.getD p.2 0] := rfl
  rw [e1, e2]
  generalize L.getD p.1 0 = a at *
  generalize L.getD p.2 0 = b at *
  show (true && ((letterC a && (letterC b && true)) && (decide (a < b) && true))) = true
  unfold letterC
  rw [decide_eq_true b1.1, decide_eq_true b1.2, decide_eq_true b2.1, decide_eq_true b2.2, decide_eq_true lt]
  rfl
theorem let_L {L : List Nat} {mo : Nat} (g : LetL L mo) (h : mo ≤ 6) : isLet 2 6 (.str ⟨L.toArray⟩) = true := by
  have e1 : ((⟨L.toArray⟩ : Str)).length = L.length := rfl
  have e2 : ((⟨L.toArray⟩ : Str)).cps.toList = L := rfl
  have l2 := g.l2
  have l6 := g.l6
  show ((decide ((2 : Int) ≤ ((((⟨L.toArray⟩ : Str)).length : Nat) : Int)) && decide (((((⟨L.toArray⟩ : Str)).length : Nat) : Int) ≤ 6)) && (((⟨L.toArray⟩ : Str)).cps.toList.all letterC && ascL ((⟨L.toArray⟩ : Str)).cps.toList)) = true
  rw [e1, e2, decide_eq_true (by omega), decide_eq_true (by omega), asc_of g.as]
  simp only [Bool.and_true, Bool.true_and]
  rw [List.all_eq_true]
  intro c hc
  unfold letterC
  rw [decide_eq_true (g.lt c hc).1, decide_eq_true (g.lt c hc).2]
  rfl
theorem web_done {L : List Nat} {es : List Ent} {mo : Nat} (gL : LetL L mo) (h6 : mo ≤ 6) (g : EsOk L es) (t : Tree L.length es) (h10 : es.length ≤ 10) (o : (es.map (tieE L)).Pairwise (fun e f => ¬ f.1.cps.toList < e.1.cps.toList)) : WebOk ⟨L.toArray⟩ (es.map (tieE L)) := by
  have l2 := gL.l2
  refine ⟨let_L gL h6, ?_, by rw [List.length_map]; exact h10, fun q hq => ?_, ?_, fun c hc => ?_⟩
  · obtain ⟨e, he, _⟩ := t 1 (by omega) (by omega)
    rw [List.length_map]
    exact List.length_pos_of_mem he
  · obtain ⟨e, he, rfl⟩ := List.mem_map.mp hq
    have gi := g.ix e he
    have gs := g.sp e he
    show ((isLet 2 2 (.str (kxL L e.1)) && ((kxL L e.1).cps.toList.all fun c => L.contains c)) && isLen (wSp e.2.2)) = true
    rw [let_kx gL gi]
    have e2 : (kxL L e.1).cps.toList = [L.getD e.1.1 0, L.getD e.1.2 0] := rfl
    rw [e2]
    have m1 : L.contains (L.getD e.1.1 0) = true := by rw [List.contains_eq_mem, decide_eq_true_eq]; exact getD_mem (by omega)
    have m2 : L.contains (L.getD e.1.2 0) = true := by rw [List.contains_eq_mem, decide_eq_true_eq]; exact getD_mem gi.2
    have e3 : isLen (wSp e.2.2) = true := by
      show (decide ((0 : Int) ≤ e.2.2.1) && (decide (e.2.2.1 ≤ e.2.2.2) && decide (e.2.2.2 ≤ 1000))) = true
      rw [decide_eq_true gs.1, decide_eq_true gs.2.1, decide_eq_true gs.2.2]
      rfl
    rw [e3]
    show (true && (L.contains _ && (L.contains _ && true)) && true) = true
    rw [m1, m2]
    rfl
  · have nd := Ent.ks_nd gL.as g
    rw [List.map_map]
    have e : (es.map ((fun x : Tie => x.1) ∘ tieE L)) = es.map fun e => kxL L e.1 := rfl
    rw [e]
    have nd2 : (es.map fun e => kxL L e.1).Pairwise (· ≠ ·) := nd
    have o2 : (es.map fun e => kxL L e.1).Pairwise (fun x y => ¬ y.cps.toList < x.cps.toList) := by
      rw [List.pairwise_map] at o ⊢
      exact o
    refine (nd2.and o2).imp fun {x y} h => ?_
    obtain ⟨h1, h2⟩ := h
    show x.cps.toList < y.cps.toList
    rw [List.not_lt] at h2
    refine Classical.byContradiction fun h3 => ?_
    rw [List.not_lt] at h3
    have e := List.le_antisymm h2 h3
    apply h1
    obtain ⟨⟨x⟩⟩ := x
    obtain ⟨⟨y⟩⟩ := y
    exact congrArg (fun l => (⟨⟨l⟩⟩ : Str)) e
  · have hc : c ∈ L := hc
    obtain ⟨k, hk, e⟩ := List.getElem_of_mem hc
    have := tree_reach gL.as g t (by omega) L.length k hk (by omega)
    rw [getD_at hk, e] at this
    exact this
/-! growing -/
theorem EsOk.add {L : List Nat} {es : List Ent} {i j : Nat} {b : Addr} {q : Int × Int} (g : EsOk L es) (h1 : i < j) (h2 : j < L.length) (n : (i, j) ∉ es.map (fun e : Ent => e.1)) (s : SpanOk q) : EsOk L (es ++ [((i, j), b, q)]) := by
  refine ⟨fun e he => ?_, ?_, fun e he => ?_⟩
  · rcases List.mem_append.mp he with he | he
    · exact g.ix e he
    · cases List.mem_singleton.mp he
      exact ⟨h1, h2⟩
  · rw [List.map_append, List.nodup_append]
    refine ⟨g.nd, by simp, fun a ha b hb e => ?_⟩
    cases List.mem_singleton.mp hb
    have e : a = (i, j) := e
    rw [← e] at n
    exact n ha
  · rcases List.mem_append.mp he with he | he
    · exact g.sp e he
    · cases List.mem_singleton.mp he
      exact s
/-- what stands in the dict -/
def entD (L : List Nat) (es : List Ent) : List (L2.Key × V) := es.map fun e => (Sum.inr (kxL L e.1), V.ref e.2.1)
theorem entD_val {L : List Nat} {es : List Ent} {p : Nat × Nat} (a : L.Pairwise (· < ·)) (g : ∀ e ∈ es, e.1.1 < e.1.2 ∧ e.1.2 < L.length) (hp : p.1 < p.2 ∧ p.2 < L.length) : (valV (entD L es) (Sum.inr (kxL L p))).isSome = decide (p ∈ es.map (fun e : Ent => e.1)) := by
  induction es with
  | nil => rfl
  | cons e es ih =>
    have ge := g e List.mem_cons_self
    have ih := ih fun f hf => g f (List.mem_cons_of_mem _ hf)
    show (valV ((Sum.inr (kxL L e.1), V.ref e.2.1) :: entD L es) _).isSome = decide (p ∈ e.1 :: es.map (fun e : Ent => e.1))
    by_cases z : e.1 = p
    · rw [valV_pos (by rw [z]), decide_eq_true (by rw [z]; exact List.mem_cons_self)]
      rfl
    · rw [valV_neg (fun h => z (kx_inj a ge hp (by injection h))), ih]
      refine decide_eq_decide.mpr ?_
      rw [List.mem_cons]
      exact ⟨.inr, fun h => h.resolve_left fun h => z h.symm⟩
theorem entD_put {L : List Nat} {es : List Ent} {p : Nat × Nat} {b : Addr} {q : Int × Int} (a : L.Pairwise (· < ·)) (g : ∀ e ∈ es, e.1.1 < e.1.2 ∧ e.1.2 < L.length) (hp : p.1 < p.2 ∧ p.2 < L.length) (n : p ∉ es.map (fun e : Ent => e.1)) : putK (entD L es) (Sum.inr (kxL L p)) (.ref b) = entD L (es ++ [(p, b, q)]) := by
  unfold putK
  rw [if_neg]
  · unfold entD
    rw [List.map_append]
    rfl
  · rw [List.any_eq_true]
    rintro ⟨x, hx, e⟩
    obtain ⟨y, hy, rfl⟩ := List.mem_map.mp hx
    have e : (Sum.inr (kxL L y.1) : L2.Key) = Sum.inr (kxL L p) := of_decide_eq_true e
    injection e with e
    exact n (List.mem_map.mpr ⟨y, hy, kx_inj a (g y hy) hp e⟩)
end Cs
set_option maxHeartbeats 4000000
/-! a web drawn -/
namespace Cs
open PySem PySem.Spec L2 L2H PyProof.Rows
def rNotInK : R2 := fun x y H Q => ∃ (a : Addr) (kvs : List (L2.Key × V)) (k : L2.Key), y = .ref a ∧ x = kV k ∧ H a = some (.dK kvs) ∧ Q (.bl (!(valV kvs k).isSome)) H
theorem op_notInK {X : Cx} (hu : X.A.units + 1 < cLine) : OpR X (compareOp .NotIn) rNotInK := by
  intro pins s σ H x y v u Q I rx ry h
  obtain ⟨a, kvs, k, rfl, rfl, ha, q⟩ := h
  cases ry
  exact d_notIn hu I (DGet.k ha) rx fun s' I' => ⟨.bl _, H, I', rfl, q⟩
def SpWebD : Sp := fun vs H Q _ => ∃ (p : Addr) (n mo cap : Nat), vs = [.ref p, .int (mo : Nat), .int (cap : Nat)] ∧ 2 ≤ mo ∧ mo ≤ 6 ∧ mo - 1 ≤ cap ∧ cap ≤ 10 ∧ PailAt H p n ∧
  ∀ (v : V) (x : Str) (ls : List Tie) (H' : Hp), WebOk x ls → x.length ≤ mo → ls.length ≤ cap → RpT p H' v (.tuple [.str x, dTies ls]) → ExB p H H' → PailAt H' p n → Q v H'
def RWeb : DR := ⟨fun n as K => ∃ mo cap : Nat, as = [.p, .d (.int (mo : Nat)), .d (.int (cap : Nat))] ∧ 2 ≤ mo ∧ mo ≤ 6 ∧ mo - 1 ≤ cap ∧ cap ≤ 10 ∧ ∀ (x : Str) (ls : List Tie), WebOk x ls → x.length ≤ mo → ls.length ≤ cap → K (.d (.tuple [.str x, dTies ls])) n,
  fun h ⟨mo, cap, e, a, b, c, d, k⟩ => ⟨mo, cap, e, a, b, c, d, fun x ls p q r => h _ _ (k x ls p q r)⟩⟩
theorem exb_ntW {M : Addr → Prop} {p : Addr} {H H' : Hp} {n : Nat} (ml : ∀ a, M a → a = p ∨ Ls H a) (ex : ExB p H H') (hp : PailAt H' p n) : ∀ a xs, Rd H' a (.tup xs) → ¬ M a := by
  refine no_tup (p := p) (fun a m => ?_) (not_tup hp.lst)
  by_cases z : a = p
  · exact .inl z
  · rcases ml a m with q | q
    · exact .inl q
    · exact .inr (q.exb z ex)
theorem ad_web {vs : List V} {H : Hp} {Q : VK} {E : XK} (h : SpD true RWeb vs H Q E) : SpWebD vs H Q E := by
  obtain ⟨p, M, n, as, pm, ph, ml, pt, ag, mo, cap, rfl, h1, h2, h3, h4, k⟩ := h
  obtain ⟨v, w, u, rfl, a1, a2, a3⟩ := argA3 ag
  cases a1
  cases a2
  cases a3
  exact ⟨p, n, mo, cap, rfl, h1, h2, h3, h4, pt rfl, fun v x ls H' g l1 l2 rv ex hp => k x ls g l1 l2 v H' ⟨ex, hp⟩ (RpT.dn (fun a xs _ => exb_ntW ml ex hp a xs) rv)⟩
/-- a stretch is drawn -/
theorem str_call {p : Addr} {n : Nat} {H : Hp} {Q : VK} {E : XK} (hp : PailAt H p n) (k : ∀ (b : Addr) (q : Int × Int) (H' : Hp), SpanOk q → RpT p H' (.ref b) (wSp q) → ExB p H H' → PailAt H' p n → Q (.ref b) H') : SpD true RStr [.ref p] H Q E :=
  ⟨p, fun a => a = p, n, [.p], rfl, hp.lst, fun a e => .inl e, fun _ => hp, .cons rfl .nil, rfl, fun q qo v H' af d => by
    have d : Dn _ H' v (wSp q) := d
    have r := d.rpt (p := p) (not_tup af.2.lst) rfl
    have r2 := r
    cases r2
    exact k _ q H' qo r af.1 af.2⟩
theorem abc_at {a : Nat} (h : a < 26) : atI (("abcdefghijklmnopqrstuvwxyz" : Str)).cps.toList ((a : Nat) : Int) = some (97 + a) := by
  have : ∀ f : Fin 26, atI (("abcdefghijklmnopqrstuvwxyz" : Str)).cps.toList ((f.val : Nat) : Int) = some (97 + f.val) := by decide +kernel
  exact this ⟨a, h⟩
/-- what stands while a web is drawn -/
structure Bas (p D : Addr) (n : Nat) (H H' : Hp) (L : List Nat) (es : List Ent) : Prop where
  hp : PailAt H' p n
  ex : ExB p H H'
  hd : H' D = some (.dK (entD L es))
  rs : ∀ e ∈ es, RpT p H' (.ref e.2.1) (wSp e.2.2)
section
variable {p D : Addr} {n : Nat} {H H' H2 : Hp} {L : List Nat} {es : List Ent}
theorem Bas.nil {L2 : List Nat} (b : Bas p D n H H' L []) : Bas p D n H H' L2 [] := ⟨b.hp, b.ex, b.hd, fun e he => by cases he⟩
theorem Bas.draw (b : Bas p D n H H' L es) (ne : D ≠ p) (ex : ExB p H' H2) (hp : PailAt H2 p n) : Bas p D n H H2 L es :=
  ⟨hp, b.ex.trans ex, ex _ _ ne b.hd, fun e he => (b.rs e he).keep (ExT.of ex)⟩
theorem ext_dk {o : HO} {kvs : List (L2.Key × V)} (h : H D = some (.dK kvs)) : ExT p H (upd H D o) := fun c ys nc e => rd_keep (fun u q => by
  rw [upd_ne (fun z => by
    rw [z] at e
    rcases e with e | ⟨o', e⟩ <;> (rw [h] at e; cases e))]
  exact q) e
theorem Bas.put (b : Bas p D n H H' L es) (ne : D ≠ p) (h0 : H D = none) (a : L.Pairwise (· < ·)) (g : ∀ e ∈ es, e.1.1 < e.1.2 ∧ e.1.2 < L.length) {i j : Nat} {t : Addr} {q : Int × Int} (hi : i < j ∧ j < L.length) (nm : (i, j) ∉ es.map (fun e : Ent => e.1)) (r : RpT p H' (.ref t) (wSp q)) :
    Bas p D n H (upd H' D (.dK (putK (entD L es) (Sum.inr (kxL L (i, j))) (.ref t)))) L (es ++ [((i, j), t, q)]) := by
  refine ⟨b.hp.put ne, fun c o nc e => ?_, ?_, fun e he => ?_⟩
  · rw [upd_ne (ne_of_none e h0)]
    exact b.ex c o nc e
  · rw [upd_same, entD_put (p := (i, j)) (q := q) a g hi nm]
  · have k := ext_dk (p := p) (o := .dK (putK (entD L es) (Sum.inr (kxL L (i, j))) (.ref t))) b.hd
    rcases List.mem_append.mp he with he | he
    · exact (b.rs e he).keep k
    · cases List.mem_singleton.mp he
      exact r.keep k
theorem str_app1 {c : Nat} : (⟨L.toArray⟩ : Str) ++ (⟨#[c]⟩ : Str) = ⟨(L ++ [c]).toArray⟩ := by
  show (⟨L.toArray ++ #[c]⟩ : Str) = _
  congr 1
  simp
theorem put_kx {kvs : List (L2.Key × V)} {x y : Nat} {v : V} (h : H D = some (.dK kvs)) (hl : kvs.length < sizeLine) : DPut H D (V.str ((⟨#[x]⟩ : Str) ++ (⟨#[y]⟩ : Str))) v (upd H D (.dK (putK kvs (Sum.inr (⟨#[x, y]⟩ : Str)) v))) := by
  have e : (⟨#[x]⟩ : Str) ++ (⟨#[y]⟩ : Str) = ⟨#[x, y]⟩ := by
    show (⟨#[x] ++ #[y]⟩ : Str) = _
    congr 1
  rw [e]
  exact DPut.k (k := Sum.inr (⟨#[x, y]⟩ : Str)) h hl
theorem kx_key {p : Nat × Nat} : V.str ((⟨#[L.getD p.1 0]⟩ : Str) ++ (⟨#[L.getD p.2 0]⟩ : Str)) = kV (Sum.inr (kxL L p)) := by
  show V.str _ = V.str _
  congr 1
theorem rows_rp : ∀ {ps : List (Addr × Str × Addr)} {fs : List Ent}, ps.map (fun z => z.2) = fs.map (fun e : Ent => (kxL L e.1, e.2.1)) → (∀ z ∈ ps, z.1 ≠ p ∧ H z.1 = some (.tup [.str z.2.1, .ref z.2.2])) → (∀ e ∈ fs, RpT p H (.ref e.2.1) (wSp e.2.2)) → RpTA p H (ps.map fun z => V.ref z.1) ((fs.map (tieE L)).map dTie)
  | [], [], _, _, _ => .nil
  | [], _ :: _, e, _, _ => by cases e
  | _ :: _, [], e, _, _ => by cases e
  | z :: ps, f :: fs, e, h1, h2 => by
    rw [List.map_cons, List.map_cons] at e
    injection e with e1 e2
    obtain ⟨a1, a2⟩ := h1 z List.mem_cons_self
    rw [e1] at a2
    refine .cons (.tup a1 (.inl a2) (by exact Nat.le_of_ble_eq_true rfl) (.cons (.str _ (by exact Nat.le_of_ble_eq_true rfl)) (.cons (h2 f List.mem_cons_self) .nil))) (rows_rp e2 (fun y hy => h1 y (List.mem_cons_of_mem _ hy)) fun y hy => h2 y (List.mem_cons_of_mem _ hy))
theorem at_L {i : Nat} (h : i < L.length) : atI ((⟨L.toArray⟩ : Str)).cps.toList ((i : Nat) : Int) = some (L.getD i 0) := by
  show atI L _ = _
  rw [getD_at h]
  exact atI_nat (List.getElem?_eq_getElem h)
end
section
variable {P : Program} {w : World} {K : PySem.W.Frag} {mg : Str → Option Value} {base : Heap}
theorem sc__law_web : FnScope ["_law_well_here", "_law_most", "_law_cap", "_law_spots", "_law_at", "_law_found", "_law_k", "_law_j"] ["_law_well_here", "_law_most", "_law_cap"] (defScope (topS 41)) := ⟨rfl, rfl, rfl, by decide +kernel, rfl, by decide +kernel, by decide +kernel⟩
theorem ok__law_web (D : DefAt K mg "_law_web" (topS 41) ["_law_well_here", "_law_most", "_law_cap"]) (T : Txt mg) (TW : TxtWeb mg) (c_law_draw : C8.Cal P w K mg base 1 "_law_draw" SpDraw []) (c_law_stretch : C8.Cal P w K mg base 2 "_law_stretch" (SpD true RStr) []) : C8.Cal P w K mg base 3 "_law_web" SpWebD [] := by
  refine D.cal sc__law_web (fun vs H Q E h => by obtain ⟨_, _, _, _, rfl, _⟩ := h; rfl) fun f cdv A outer s H vs Q E hr h => ?_
  obtain ⟨p, n, mo, cap, rfl, m2, m6, c1, c10, hp, k⟩ := h
  have nd := sc__law_web.nd
  have hu64 := hr.units
  refine ⟨_, (pss_cons (ps_par3 (i := 3) (j := 4) (l := 5) (by rfl) nd rfl rfl rfl (by decide) (by decide) (by decide) rfl rfl rfl (pa_cons pe_str (pa_cons (C8.pe_c c_law_draw hr (by decide) rfl (pa_cons (pv 0) (pa_cons pe_int pa_nil))) (pa_cons pe_dnewK pa_nil))) (by rfl))
      (pss_cons (ps_for PassesOwn.never rfl (pi_range1 rfl T.range_ (pa_cons (pe_op op_add pe_int (C8.pe_c c_law_draw hr (by decide) rfl (pa_cons (pv 0) (pa_cons (pe_op op_sub (pv 1) pe_int) pa_nil)))) pa_nil)) (pg_name (i := 6) nd rfl (.inl rfl)) (pss_cons (ps_set (i := 3) nd rfl (.inl rfl) (pe_op op_add_str (pv 3) (pe_ix ix_str pe_str (pv 4) (fun _ _ => rfl))))
      (pss_one (ps_set (i := 4) nd rfl (.inl rfl) (pe_op op_add (pe_op op_add (pv 4) pe_int) (C8.pe_c c_law_draw hr (by decide) rfl (pa_cons (pv 0) (pa_cons pe_int pa_nil))))))))
      (pss_cons (ps_for PassesOwn.never rfl (pi_range2 rfl T.range_ (pa_cons pe_int (pa_cons (pe_callB call_lenA (by rfl) T.len_ (by decide +kernel) (pa_cons (pv 3) pa_nil)) pa_nil))) (pg_name (i := 6) nd rfl (.inl rfl)) (pss_one (ps_asg (C8.pe_c c_law_stretch hr (by decide) rfl (pa_cons (pv 0) pa_nil)) (pg_sub (pv 5) (pe_op op_add_str (pe_ix ix_str (pv 3) (C8.pe_c c_law_draw hr (by decide) rfl (pa_cons (pv 0) (pa_cons (pv 6) pa_nil))) (fun _ _ => rfl)) (pe_ix ix_str (pv 3) (pv 6) (fun _ _ => rfl))) (L2.set_dict (Nat.lt_of_le_of_lt (Nat.add_le_add_left (by decide) _) hu64))))))
      (pss_cons (ps_for PassesOwn.never rfl (pi_range1 rfl T.range_ (pa_cons (pe_callB call_lenA (by rfl) T.len_ (by decide +kernel) (pa_cons (pv 3) pa_nil)) pa_nil)) (pg_name (i := 6) nd rfl (.inl rfl)) (pss_one (ps_for PassesOwn.never rfl (pi_range1 rfl T.range_ (pa_cons (pv 6) pa_nil)) (pg_name (i := 7) nd rfl (.inl rfl)) (pss_one (ps_if (PW.pt (pw_and (pt_cmpR (op_notInK (Nat.lt_of_le_of_lt (Nat.add_le_add_left (by decide) _) hu64)) (pe_op op_add_str (pe_ix ix_str (pv 3) (pv 7) (fun _ _ => rfl)) (pe_ix ix_str (pv 3) (pv 6) (fun _ _ => rfl))) (pv 5) (by rfl)) (pw_and (pt_cmpR opLt (pe_callB call_lenD (by rfl) T.len_ (by decide +kernel) (pa_cons (pv 5) pa_nil)) (pv 2) (nomark _)) (pw_and1 (pt_cmpR (opEq hu64) (C8.pe_c c_law_draw hr (by decide) rfl (pa_cons (pv 0) (pa_cons pe_int pa_nil))) pe_int (nomark _)))))) (pss_one (ps_asg (C8.pe_c c_law_stretch hr (by decide) rfl (pa_cons (pv 0) pa_nil)) (pg_sub (pv 5) (pe_op op_add_str (pe_ix ix_str (pv 3) (pv 7) (fun _ _ => rfl)) (pe_ix ix_str (pv 3) (pv 6) (fun _ _ => rfl))) (L2.set_dict (Nat.lt_of_le_of_lt (Nat.add_le_add_left (by decide) _) hu64))))) pss_nil)))))
      (pss_one (ps_ret (pe_tup (pa_cons (pv 3) (pa_cons (pe_callTy call_tuple_of (by rfl) T.tuple_ (by decide +kernel) (pa_cons (pe_callB (cr_sortedK rfl) (by rfl) TW.sorted_ (by decide +kernel) (pa_cons (pe_bm0 PySem.F.plainAttrs_dict PySem.F.slot_dict_items PySem.F.type_dict_items mt_itemsK (pv 5)) pa_nil)) pa_nil)) pa_nil))))))))), ?_⟩
  refine ⟨_, rfl, p, 4, n, rfl, by decide, by decide, hp, fun a0 H1 z0 z1 e1 hp1 => ?_⟩
  intro D hD
  have nD : D ≠ p := hp1.has.ne hD
  have hD0 : H D = none := by
    cases e : H D with
    | none => rfl
    | some o =>
      have := e1 D o nD e
      rw [hD] at this
      cases this
  refine ⟨_, _, _, rfl, ?_⟩
  refine ⟨_, rfl, _, rfl, _, _, rfl, rfl, p, _, n, rfl, by omega, by omega, hp1.put nD, fun r H2 r0 r1 e2 hp2 => ?_⟩
  obtain ⟨r, rfl⟩ : ∃ rr : Nat, r = (rr : Nat) := ⟨r.toNat, by omega⟩
  obtain ⟨a0, rfl⟩ : ∃ rr : Nat, a0 = (rr : Nat) := ⟨a0.toNat, by omega⟩
  have em : (2 + ((r : Nat) : Int)).toNat = 2 + r := by omega
  refine ⟨_, _, rfl, rfl, _, rfl, by omega, by omega, ?_⟩
  rw [em]
  have b0 : Bas p D n H H2 [] [] := ⟨hp2, fun b o nb e => e2 b o nb (by rw [upd_ne (ne_of_none (e1 b o nb e) hD)]; exact e1 b o nb e), e2 D _ nD upd_same, fun e he => by cases he⟩
  refine for_range (n := 2 + r) (fun i σ H' => ∃ (L : List Nat) (ap : Nat) (u6 : Option V), σ = [some (.ref p), some (.int (mo : Nat)), some (.int (cap : Nat)), some (.str ⟨L.toArray⟩), some (.int (ap : Nat)), some (.ref D), u6, none] ∧ L.length = i ∧ L.Pairwise (· < ·) ∧ (∀ c ∈ L, 97 ≤ c ∧ c < 97 + ap ∧ c ≤ 96 + 4 * i) ∧ ap ≤ 3 + 4 * i ∧ Bas p D n H H' L [])
    ⟨[], a0, none, rfl, rfl, .nil, (fun c hc => absurd hc List.not_mem_nil), by omega, b0⟩ ?_ ?_
  · rintro i σ H' hi ⟨L, ap, u6, rfl, hL, hA, hc, hap, b⟩
    refine ⟨_, rfl, _, rfl, _, _, _, rfl, rfl, sz1000 (by decide), abc_at (by omega), _, _, rfl, rfl, sz1000 (by show L.length + 1 ≤ 1000; omega), _, rfl, _, _, rfl, rfl, _, rfl, p, 4, n, rfl, by decide, by decide, b.hp, fun r H2 r0 r1 e2 hp2 => ?_⟩
    obtain ⟨r, rfl⟩ : ∃ rr : Nat, r = (rr : Nat) := ⟨r.toNat, by omega⟩
    refine ⟨_, _, rfl, rfl, L ++ [97 + ap], ap + 1 + r, some (.int (0 + i)), ?_, by rw [List.length_append, hL]; rfl, ?_, fun c h => ?_, by omega, ?_⟩
    · rw [str_app1]
      rfl
    · rw [List.pairwise_append]
      refine ⟨hA, .cons (fun _ h => by cases h) .nil, fun x hx y hy => ?_⟩
      cases List.mem_singleton.mp hy
      exact (hc x hx).2.1
    · rcases List.mem_append.mp h with h | h
      · have := hc c h
        omega
      · cases List.mem_singleton.mp h
        omega
    · exact (b.draw nD e2 hp2).nil
  · rintro σ H' ⟨L, ap, u6, rfl, hL, hA, hc, hap, b⟩
    have gL : LetL L mo := ⟨hA, fun c h => by have := hc c h; omega, by omega, by omega⟩
    have eL : ((⟨L.toArray⟩ : Str)).length = L.length := rfl
    have em2 : (((((⟨L.toArray⟩ : Str)).length : Nat) : Int) - 1).toNat = L.length - 1 := by rw [eL]; omega
    refine ⟨_, rfl, .inr ⟨_, rfl, sz1000 (by rw [eL]; omega), _, _, rfl, ⟨by decide, by decide, by rw [eL]; omega, by rw [eL]; omega⟩, ?_⟩⟩
    rw [em2]
    refine for_range (n := L.length - 1) (fun i σ H' => ∃ (es : List Ent) (u6 : Option V), σ = [some (.ref p), some (.int (mo : Nat)), some (.int (cap : Nat)), some (.str ⟨L.toArray⟩), some (.int (ap : Nat)), some (.ref D), u6, none] ∧ EsOk L es ∧ es.length = i ∧ (∀ e ∈ es, e.1.2 ≤ i) ∧ Tree (i + 1) es ∧ Bas p D n H H' L es)
      ⟨[], u6, rfl, ⟨fun e h => (by cases h), .nil, fun e h => (by cases h)⟩, rfl, (fun e h => absurd h List.not_mem_nil), fun k a b => by omega, b⟩ ?_ ?_
    · rintro i σ H' hi ⟨es, u6, rfl, g, hl, hx, ht, b⟩
      refine ⟨_, rfl, str_call (E := C8.E0) b.hp fun t q H2 qo rq e2 hp2 => ?_⟩
      have b2 := b.draw nD e2 hp2
      refine ⟨_, rfl, _, rfl, _, rfl, _, rfl, p, _, n, rfl, by omega, by omega, hp2, fun d H3 d0 d1 e3 hp3 => ?_⟩
      obtain ⟨d, rfl⟩ : ∃ rr : Nat, d = (rr : Nat) := ⟨d.toNat, by omega⟩
      have b3 := b2.draw nD e3 hp3
      have r3 := rq.keep (ExT.of e3)
      have ei : (1 : Int) + ((i : Nat) : Int) = ((1 + i : Nat) : Int) := by omega
      have nm : (d, 1 + i) ∉ es.map (fun e : Ent => e.1) := fun h => by
        obtain ⟨e, he, ee⟩ := List.mem_map.mp h
        have := hx e he
        rw [ee] at this
        have this : 1 + i ≤ i := this
        omega
      refine ⟨_, _, _, rfl, rfl, sz1000 (by rw [eL]; omega), at_L (i := d) (by omega), _, rfl, _, rfl, _, _, _, rfl, rfl, sz1000 (by rw [eL]; omega), by rw [ei]; exact at_L (i := 1 + i) (by omega), _, _, rfl, rfl, sz1000 (by exact Nat.le_of_ble_eq_true rfl), D, _, rfl, put_kx b3.hd (Nat.lt_of_lt_of_le (show (entD L es).length < 1000 by unfold entD; rw [List.length_map]; omega) (by decide)), ?_⟩
      refine ⟨es ++ [((d, 1 + i), t, q)], some (.int (1 + i)), rfl, g.add (by omega) (by omega) nm qo, by rw [List.length_append, hl]; rfl, fun e he => ?_, fun k a c => ?_, b3.put nD hD0 hA g.ix ⟨by omega, by omega⟩ nm r3⟩
      · rcases List.mem_append.mp he with he | he
        · have := hx e he
          omega
        · cases List.mem_singleton.mp he
          show 1 + i ≤ i + 1
          omega
      · by_cases z : k < i + 1
        · obtain ⟨e, he, ee⟩ := ht k a z
          exact ⟨e, List.mem_append_left _ he, ee⟩
        · exact ⟨_, List.mem_append_right _ (List.mem_singleton.mpr rfl), by show 1 + i = k; omega⟩
    · rintro σ H' ⟨es, u6, rfl, g, hl, hx, ht, b⟩
      have ht : Tree L.length es := by
        have : L.length - 1 + 1 = L.length := by omega
        rw [this] at ht
        exact ht
      refine ⟨_, rfl, .inr ⟨_, rfl, sz1000 (by rw [eL]; omega), _, rfl, by rw [eL]; omega, by rw [eL]; omega, ?_⟩⟩
      have em3 : ((((⟨L.toArray⟩ : Str)).length : Nat) : Int).toNat = L.length := by rw [eL]; omega
      rw [em3]
      refine for_range (n := L.length) (fun i σ H' => ∃ (es : List Ent) (u6 u7 : Option V), σ = [some (.ref p), some (.int (mo : Nat)), some (.int (cap : Nat)), some (.str ⟨L.toArray⟩), some (.int (ap : Nat)), some (.ref D), u6, u7] ∧ EsOk L es ∧ es.length ≤ cap ∧ Tree L.length es ∧ Bas p D n H H' L es)
        ⟨es, u6, none, rfl, g, by omega, ht, b⟩ ?_ ?_
      · rintro i σ H' hi ⟨es, u6, u7, rfl, g, hl, ht, b⟩
        have ei : (0 : Int) + ((i : Nat) : Int) = ((i : Nat) : Int) := by omega
        refine ⟨_, rfl, _, rfl, by omega, by omega, ?_⟩
        rw [show ((0 : Int) + ((i : Nat) : Int)).toNat = i by omega, ei]
        refine for_range (n := i) (fun j σ H' => ∃ (es : List Ent) (u7 : Option V), σ = [some (.ref p), some (.int (mo : Nat)), some (.int (cap : Nat)), some (.str ⟨L.toArray⟩), some (.int (ap : Nat)), some (.ref D), some (.int (i : Nat)), u7] ∧ EsOk L es ∧ es.length ≤ cap ∧ Tree L.length es ∧ Bas p D n H H' L es)
          ⟨es, u7, rfl, g, hl, ht, b⟩ ?_ ?_
        · rintro j σ H' hj ⟨es, u7, rfl, g, hl, ht, b⟩
          have ej : (0 : Int) + ((j : Nat) : Int) = ((j : Nat) : Int) := by omega
          rw [ej]
          have hij : j < i ∧ i < L.length := ⟨hj, hi⟩
          have skip : ∀ H2, Bas p D n H H2 L es → ∃ (es' : List Ent) (u7 : Option V), [some (V.ref p), some (.int (mo : Nat)), some (.int (cap : Nat)), some (.str ⟨L.toArray⟩), some (.int (ap : Nat)), some (.ref D), some (.int (i : Nat)), some (.int (j : Nat))] = [some (.ref p), some (.int (mo : Nat)), some (.int (cap : Nat)), some (.str ⟨L.toArray⟩), some (.int (ap : Nat)), some (.ref D), some (.int (i : Nat)), u7] ∧ EsOk L es' ∧ es'.length ≤ cap ∧ Tree L.length es' ∧ Bas p D n H H2 L es' := fun H2 b => ⟨es, _, rfl, g, hl, ht, b⟩
          have ev := entD_val (p := (j, i)) hA g.ix hij
          refine ⟨_, rfl, _, rfl, _, _, _, rfl, rfl, sz1000 (by rw [eL]; omega), at_L (i := j) (by omega), _, rfl, _, rfl, _, _, _, rfl, rfl, sz1000 (by rw [eL]; omega), at_L (i := i) (by omega), _, _, rfl, rfl, sz1000 (by exact Nat.le_of_ble_eq_true rfl), _, rfl, D, _, _, rfl, kx_key (p := (j, i)), b.hd, _, rfl, ?_⟩
          rw [ev]
          refine ite2 (fun c => ?_) (fun _ => ?_)
          · have nm : (j, i) ∉ es.map (fun e : Ent => e.1) := fun h => by
              rw [decide_eq_true h] at c
              cases c
            refine ⟨_, rfl, D, _, rfl, b.hd, _, rfl, .inl ⟨_, _, rfl, rfl, _, rfl, ite2 (fun c2 => ?_) (fun _ => ?_)⟩⟩
            · have c2 : es.length < cap := by
                have := of_decide_eq_true c2
                unfold entD at this
                rw [List.length_map] at this
                omega
              refine ⟨_, rfl, p, 2, n, rfl, by decide, by decide, b.hp, fun r H2 r0 r1 e2 hp2 => ?_⟩
              have b2 := b.draw nD e2 hp2
              refine .inl ⟨rfl, _, rfl, ite2 (fun _ => ?_) (fun _ => skip _ b2)⟩
              refine ⟨_, rfl, str_call (E := C8.E0) b2.hp fun t q H3 qo rq e3 hp3 => ?_⟩
              have b3 := b2.draw nD e3 hp3
              refine ⟨_, rfl, _, rfl, _, rfl, _, _, _, rfl, rfl, sz1000 (by rw [eL]; omega), at_L (i := j) (by omega), _, rfl, _, rfl, _, _, _, rfl, rfl, sz1000 (by rw [eL]; omega), at_L (i := i) (by omega), _, _, rfl, rfl, sz1000 (by exact Nat.le_of_ble_eq_true rfl), D, _, rfl, put_kx b3.hd (Nat.lt_of_lt_of_le (show (entD L es).length < 1000 by unfold entD; rw [List.length_map]; omega) (by decide)), ?_⟩
              exact ⟨es ++ [((j, i), t, q)], _, rfl, g.add hj hi nm qo, by rw [List.length_append]; show es.length + 1 ≤ cap; omega, ht.mono fun e he => List.mem_append_left _ he, b3.put nD hD0 hA g.ix hij nm rq⟩
            · exact skip _ b
          · exact skip _ b
        · rintro σ H' ⟨es, u7, rfl, g, hl, ht, b⟩
          exact ⟨es, _, u7, rfl, g, hl, ht, b⟩
      · rintro σ H' ⟨es, u6, u7, rfl, g, hl, ht, b⟩
        refine ⟨_, rfl, _, rfl, .inr (.inr (.inl ⟨rfl, .inl ⟨_, b.hd⟩⟩)), D, _, rfl, rfl, b.hd, fun I hI => ?_⟩
        have eks : entD L es = (es.map fun e : Ent => (kxL L e.1, e.2.1)).map entS := by
          unfold entD
          rw [List.map_map]
          rfl
        have nDI : D ≠ I := ne_of_none b.hd hI
        refine ⟨I, D, es.map fun e : Ent => (kxL L e.1, e.2.1), rfl, upd_same, by rw [upd_ne nDI, ← eks]; exact b.hd, by rw [List.map_map]; exact Ent.ks_nd hA g, fun H3 l ps ex3 perm ord hl0 hl3 hps => ?_⟩
        obtain ⟨fs, pf, ef⟩ := perm_map_inv perm rfl
        refine ⟨l, _, rfl, .inl ⟨SqL.of hl3, fun tt htt => ?_⟩⟩
        refine ⟨by exact Nat.le_of_ble_eq_true rfl, fun t0 ht0 => ?_⟩
        have sA : Same H' (upd H' I (L2.DX.itemsO I D)) := same_new hI
        have sB := sA.trans ex3
        have sC : Same H3 (upd H3 tt (.tup (ps.map fun z => V.ref z.1))) := same_new htt
        have sD := sC.trans (same_new (o := .tup [.str ⟨L.toArray⟩, .ref tt]) ht0)
        have sF := sB.trans sD
        have ptt : tt ≠ p := (b.hp.keep sB).has.ne htt
        have pt0 : t0 ≠ p := (b.hp.keep (sB.trans sC)).has.ne ht0
        have gf := g.perm pf
        have o2 : (fs.map (tieE L)).Pairwise (fun e f => ¬ f.1.cps.toList < e.1.cps.toList) := by
          have o3 := ord
          rw [ef, List.pairwise_map] at o3
          rw [List.pairwise_map]
          exact o3
        have W := web_done gL m6 gf (ht.perm pf) (by rw [pf.length_eq]; omega) o2
        have lps : ps.length = fs.length := by
          have := congrArg List.length ef
          rw [List.length_map, List.length_map] at this
          exact this
        have lfs : fs.length ≤ 10 := by rw [pf.length_eq]; omega
        refine k _ ⟨L.toArray⟩ (fs.map (tieE L)) _ W (by rw [eL]; omega) (by rw [List.length_map, pf.length_eq]; exact hl) (.tup pt0 (.inl upd_same) (by exact Nat.le_of_ble_eq_true rfl) (.cons (.str _ (by rw [eL]; omega)) (.cons (.tup ptt (.inl (by rw [upd_ne (ne_of_none (upd_same (H := H3)) ht0)]; exact upd_same)) (by rw [List.length_map]; omega) (rows_rp ef (fun z hz => ?_) fun e he => ?_)) .nil))) (b.ex.trans (ExB.of sF)) (b.hp.keep sF)
        · obtain ⟨q1, q2⟩ := hps z hz
          exact ⟨(b.hp.keep sA).has.ne q1, sD _ _ q2⟩
        · exact (b.rs e (pf.mem_iff.mp he)).keep (ExT.of (ExB.of sF))
end
end Cs
set_option maxHeartbeats 4000000
/-! How long data are when shown. -/
namespace Cs
open PySem L2 PyProof.Rows
/-- d may be shown within n characters, is at most k deep and holds no list -/
structure Shw (d : PyData) (n k : Nat) : Prop where
  sh : d.showable = true
  dp : d.depth ≤ k
  ln : d.shown.length ≤ n
  nl : noL d = true
theorem Shw.up {d : PyData} {n k n' k' : Nat} (h : Shw d n k) (a : n ≤ n') (b : k ≤ k') : Shw d n' k' := ⟨h.sh, Nat.le_trans h.dp b, Nat.le_trans h.ln a, h.nl⟩
theorem join_len {sep : Str} : ∀ {xs : List Str} {n : Nat}, (∀ x ∈ xs, x.length ≤ n) → (Str.join sep xs).length ≤ (n + sep.length) * xs.length
  | [], n, _ => by simp [Str.join]; decide
  | [x], n, h => by
    have := h x List.mem_cons_self
    show x.length ≤ (n + sep.length) * 1
    omega
  | x :: y :: xs, n, h => by
    have ih := join_len (sep := sep) (xs := y :: xs) (n := n) fun z hz => h z (List.mem_cons_of_mem _ hz)
    have h1 := h x List.mem_cons_self
    show (x ++ sep ++ Str.join sep (y :: xs)).length ≤ _
    rw [Str.length_append, Str.length_append, List.length_cons, Nat.mul_succ]
    omega
theorem from_len : ∀ {xs : List Str} {n k : Nat} {acc : Str}, (∀ x ∈ xs, x.length ≤ n) → (textFrom k acc xs).length ≤ acc.length + (n + 2) * xs.length
  | [], n, k, acc, _ => Nat.le_refl _
  | x :: xs, n, k, acc, h => by
    have h1 := h x List.mem_cons_self
    have c1 : ((", " : Str)).length = 2 := by decide
    have c2 : (("" : Str)).length = 0 := by decide
    have ih := from_len (xs := xs) (n := n) (k := k + 1) (acc := acc ++ (if k > 0 then ", " else "" : String) ++ x) fun z hz => h z (List.mem_cons_of_mem _ hz)
    have l : (acc ++ (if k > 0 then ", " else "" : String) ++ x).length ≤ acc.length + 2 + x.length := by
      rw [Str.length_append, Str.length_append]
      by_cases z : k > 0
      · rw [if_pos z]
        omega
      · rw [if_neg z]
        omega
    show (textFrom (k + 1) (acc ++ (if k > 0 then ", " else "" : String) ++ x) xs).length ≤ _
    rw [List.length_cons, Nat.mul_succ]
    omega
theorem shows_mem : ∀ {es : List PyData} {n k : Nat}, (∀ e ∈ es, Shw e n k) → PyData.showableAll es = true ∧ PyData.depthAll es ≤ k ∧ (∀ x ∈ PyData.shownAll es, x.length ≤ n) ∧ (PyData.shownAll es).length = es.length ∧ noLs es = true
  | [], n, k, _ => ⟨rfl, Nat.zero_le _, (fun _ h => by cases h), rfl, rfl⟩
  | e :: es, n, k, h => by
    obtain ⟨a1, a2, a3, a4, a5⟩ := shows_mem (es := es) fun z hz => h z (List.mem_cons_of_mem _ hz)
    have h1 := h e List.mem_cons_self
    refine ⟨?_, ?_, fun x hx => ?_, ?_, ?_⟩
    · show (e.showable && PyData.showableAll es) = true
      rw [h1.sh, a1]
      rfl
    · rw [PyData.depthAll]
      exact Nat.max_le.mpr ⟨h1.dp, a2⟩
    · rcases List.mem_cons.mp hx with rfl | hx
      · exact h1.ln
      · exact a3 x hx
    · show (e.shown :: PyData.shownAll es).length = _
      rw [List.length_cons, a4, List.length_cons]
    · show (noL e && noLs es) = true
      rw [h1.nl, a5]
      rfl
theorem tup_shw {es : List PyData} {n k m : Nat} (h : ∀ e ∈ es, Shw e n k) (hm : es.length ≤ m) : Shw (.tuple es) ((n + 2) * m + 3) (k + 1) := by
  obtain ⟨a1, a2, a3, a4, a5⟩ := shows_mem h
  refine ⟨a1, by rw [PyData.depth]; omega, ?_, a5⟩
  have j := join_len (sep := (", " : Str)) a3
  have c1 : ((", " : Str)).length = 2 := by decide
  have c2 : (("(" : Str)).length = 1 := by decide
  have c3 : ((",)" : Str)).length = 2 := by decide
  have c4 : ((")" : Str)).length = 1 := by decide
  rw [c1, a4] at j
  have mm := Nat.mul_le_mul_left (n + 2) hm
  show (("(" : Str) ++ Str.join ", " (PyData.shownAll es) ++ (if (PyData.shownAll es).length == 1 then ",)" else ")" : String)).length ≤ _
  rw [Str.length_append, Str.length_append, c2]
  by_cases z : (PyData.shownAll es).length == 1
  · rw [if_pos z, c3]
    omega
  · rw [if_neg z, c4]
    omega
/-- a list at the top -/
theorem lst_show {es : List PyData} {n k m : Nat} (h : ∀ e ∈ es, Shw e n k) (hm : es.length ≤ m) (hk : k < 60) (hn : (n + 2) * m + 2 ≤ 1000000) :
    (PyData.list es).showable = true ∧ topSafe (.list es) = true ∧ (PyData.list es).depth ≤ 60 ∧ (PyData.list es).shown.length ≤ sizeLine := by
  obtain ⟨a1, a2, a3, a4, a5⟩ := shows_mem h
  refine ⟨a1, ?_, by rw [PyData.depth]; omega, ?_⟩
  · show (!PyData.hasDictAll es || noLs es) = true
    rw [a5, Bool.or_true]
  · have j := from_len (k := 0) (acc := ("[" : Str)) a3
    have c2 : (("[" : Str)).length = 1 := by decide
    have c4 : (("]" : Str)).length = 1 := by decide
    have mm := Nat.mul_le_mul_left (n + 2) hm
    rw [c2, a4] at j
    refine Nat.le_trans (m := 1000000) ?_ (by decide)
    show (textFrom 0 "[" (PyData.shownAll es) ++ "]").length ≤ _
    rw [Str.length_append, c4]
    omega
theorem bl_shw (b : Bool) : Shw (.bool b) 5 0 := by cases b <;> exact ⟨rfl, Nat.le_refl 0, by decide, rfl⟩
theorem int_shw {a : Int} (h1 : -1000000000 < a) (h2 : a < 1000000000) : Shw (.int a) 10 0 := by
  refine ⟨?_, by simp [PyData.depth], ?_, rfl⟩
  · show decide (a.natAbs.log2 < 1920) = true
    refine decide_eq_true ?_
    by_cases h0 : a.natAbs = 0
    · rw [h0]
      decide
    · exact (Nat.log2_lt h0).mpr (Nat.lt_of_lt_of_le (show a.natAbs < 2 ^ 30 by omega) (Nat.pow_le_pow_right (by decide) (by decide)))
  · have e := int_text_length_le10 (a := a) (k := 9) (by decide) (by omega)
    show (Str.ofString (toString a)).length ≤ 10
    rw [PySem.ofString_length]
    exact e
end Cs
set_option maxHeartbeats 4000000
local macro_rules | `(tactic| walk_at "xg") => `(tactic| try dsimp only [Cs.xRet, Cs.xRetN, Cs.xOp, Cs.xUn, Cs.xV, Cs.xB, Cs.xC, Cs.xCall, Cs.xCons, Cs.xNil, Cs.xBi, Cs.xSeq, Cs.xSet, Cs.xSets, Cs.xIfS, Cs.xTest, Cs.xTup, Cs.xLst, Cs.xAndV, Cs.xOrV, Cs.xNotV, Cs.xNot, Cs.xAndT, Cs.xOrT, Cs.xIf, Cs.xSl, Cs.xNoPart, Cs.xPart, Cs.xiL, Cs.xiB, Cs.xiT, Cs.xiR1, Cs.xiR2, Cs.xiS, Cs.xiZ, Cs.xiE, Cs.xgN, Cs.xgT, Cs.xgNil, Cs.xgCons, Cs.xYes, Cs.xDrop, Cs.xApp, Cs.xPopS, Cs.xPopA, Cs.xAsg, Cs.xNext, Cs.xNev, Cs.xChain, Cs.xIsi, Cs.xRaw, Cs.okEnd, Cs.toAV, Cs.setP, Cs.aftP, Cs.xCallK, Cs.xMeth, Cs.xProp, Cs.xW, Cs.xM1, Cs.xRv, Cs.xiR3, Cs.xMethK, Cs.xLstO, Cs.xiO, Cs.elA, Cs.turnO, Cs.xWp, Cs.xFl, Cs.xTz, Cs.xWhile, Cs.toAVL, Cs.xCallL, Cs.xDct, Cs.xgU, Cs.xSlS, Cs.xiZs, Cs.xExt, Cs.xCallB, Cs.xStar, Cs.xJs, Cs.jsRun, Cs.xFld, Cs.xLenW, Cs.xStrW, Cs.xBoolW, Cs.xOwnW, Cs.xWeb, Cs.xWebK, Cs.xIdx, List.map, List.replicate, List.length_cons, List.length_nil, List.cons_append, List.nil_append, List.set_cons_succ, List.set_cons_zero, Nat.add_sub_cancel, Nat.sub_self, Nat.reduceSub, Nat.reduceAdd, eq_self, ↓reduceIte])
local macro_rules | `(tactic| walk_at "xw") => `(tactic| try dsimp only [Cs.lcTurn, Cs.wipeA, List.set_cons_succ, List.set_cons_zero])
local macro_rules | `(tactic| walk_at "x") => `(tactic| first
  | (with_reducible refine Eq.mpr (if_pos ?_) ?_; exact rfl)
  | (with_reducible refine Eq.mpr (if_neg ?_) ?_; exact Bool.false_ne_true)
  | refine ⟨_, rfl, ?_⟩
  | refine ⟨rfl, ?_⟩
  | refine ⟨_, _, rfl, rfl, True.intro, ?_⟩
  | refine ⟨_, _, _, rfl, rfl, rfl, True.intro, ?_⟩
  | refine ⟨_, rfl, by exact Nat.le_of_ble_eq_true rfl, ?_⟩
  | refine ⟨by exact Nat.le_of_ble_eq_true rfl, ?_⟩
  | refine ⟨_, _, _, _, rfl, rfl, rfl, rfl, ?_⟩
  | refine ⟨_, _, rfl, ?_⟩
  | refine ⟨⟨_, rfl⟩, ?_⟩
  | refine ⟨_, _, rfl, fun _ => rfl, ?_⟩
  | refine ⟨_, 0, rfl, (fun z => (nomatch z)), ?_⟩
  | refine ⟨_, fun _ => rfl, ?_⟩
  | refine ⟨0, (fun z => (nomatch z)), ?_⟩
  | fail "x")
local macro_rules | `(tactic| walk_at "xs") => `(tactic| repeat' (walk_at "xg"; walk_at "x"))
local macro_rules | `(tactic| walk_at "sets") => `(tactic| (intro vs σ H Q hl hq; first
  | exact (match vs, hl, hq with | [_], _, q => ⟨_, _, rfl, rfl, q⟩)
  | exact (match vs, hl, hq with | [_, _], _, q => ⟨_, _, rfl, _, _, rfl, rfl, q⟩)
  | exact (match vs, hl, hq with | [_, _, _], _, q => ⟨_, _, rfl, _, _, rfl, _, _, rfl, rfl, q⟩)
  | fail "sets"))
/-! k53: three webs right -/
namespace Cs
open PySem PySem.Spec L2 L2H PyProof.Rows TL
def nearW (q : Int × Int) : Int × Int := if q.2 < 1000 then (q.1, q.2 + 1) else if 0 < q.1 then (q.1 - 1, q.2) else (q.1, q.2 - 1)
theorem nearW_ok {q : Int × Int} (h : SpanOk q) : SpanOk (nearW q) ∧ nearW q ≠ q := by
  obtain ⟨a, b⟩ := q
  unfold nearW SpanOk at *
  dsimp only at h ⊢
  split
  · refine ⟨by dsimp only; omega, fun e => ?_⟩
    injection e with _ e
    omega
  · split
    · refine ⟨by dsimp only; omega, fun e => ?_⟩
      injection e with e _
      omega
    · refine ⟨by dsimp only; omega, fun e => ?_⟩
      injection e with _ e
      omega
def bentW (ls : List Tie) (y : Str) (q : Int × Int) : List Tie := ls.map fun t => (t.1, if t.1 = y then q else t.2)
theorem bentW_fst {ls : List Tie} {y : Str} {q : Int × Int} : (bentW ls y q).map (fun x : Tie => x.1) = ls.map (fun x : Tie => x.1) := by
  unfold bentW
  rw [List.map_map]
  rfl
theorem bentW_ok {x : Str} {ls : List Tie} {y : Str} {q : Int × Int} (g : WebOk x ls) (h : SpanOk q) : WebOk x (bentW ls y q) := by
  refine ⟨g.lt, by unfold bentW; rw [List.length_map]; exact g.l1, by unfold bentW; rw [List.length_map]; exact g.l10, fun t ht => ?_, ?_, ?_⟩
  · obtain ⟨u, hu, rfl⟩ := List.mem_map.mp ht
    have gu := g.tie u hu
    split
    · have gu : ((isLet 2 2 (.str u.1) && (u.1.cps.toList.all fun c => x.cps.toList.contains c)) && isLen (wSp u.2)) = true := gu
      show ((isLet 2 2 (.str u.1) && (u.1.cps.toList.all fun c => x.cps.toList.contains c)) && isLen (wSp q)) = true
      rw [(Bool.and_eq_true_iff.mp gu).1]
      show (true && (decide ((0 : Int) ≤ q.1) && (decide (q.1 ≤ q.2) && decide (q.2 ≤ 1000)))) = true
      rw [decide_eq_true h.1, decide_eq_true h.2.1, decide_eq_true h.2.2]
      rfl
    · exact gu
  · rw [bentW_fst]
    exact g.asc
  · rw [bentW_fst]
    exact g.jn
theorem bentW_ne {ls : List Tie} {y : Str} {q : Int × Int} {t : Tie} (ht : t ∈ ls) (e : t.1 = y) (ne : q ≠ t.2) : PyData.eqvAll (ls.map dTie) ((bentW ls y q).map dTie) = false := by
  induction ls with
  | nil => cases ht
  | cons u ls ih =>
    have sh : PyData.eqvAll ((u :: ls).map dTie) ((bentW (u :: ls) y q).map dTie) = ((dTie u).eqv (dTie (u.1, if u.1 = y then q else u.2)) && PyData.eqvAll (ls.map dTie) ((bentW ls y q).map dTie)) := rfl
    rw [sh]
    rcases List.mem_cons.mp ht with rfl | ht
    · rw [if_pos e]
      cases z : (dTie t).eqv (dTie (t.1, q)) with
      | false => rfl
      | true =>
        have h5 : (PyData.eqv (.str t.1) (.str t.1) && (((t.2.1 == q.1) && ((t.2.2 == q.2) && true)) && true)) = true := z
        have h6 := (Bool.and_eq_true_iff.mp (Bool.and_eq_true_iff.mp h5).2).1
        obtain ⟨a1, a2⟩ := Bool.and_eq_true_iff.mp h6
        have a3 := (Bool.and_eq_true_iff.mp a2).1
        exact absurd (Prod.ext (eq_of_beq a1).symm (eq_of_beq a3).symm) ne
    · rw [ih ht, Bool.and_false]
theorem bent_neW {x : Str} {ls : List Tie} {y : Str} {q : Int × Int} {t : Tie} (ht : t ∈ ls) (e : t.1 = y) (ne : q ≠ t.2) : sameW x ls x (bentW ls y q) = false := by
  unfold sameW
  have : (dTies ls).eqv (dTies (bentW ls y q)) = false := bentW_ne ht e ne
  rw [this, Bool.and_false]
theorem same_reflW {x : Str} {ls : List Tie} (g : WebOk x ls) : sameW x ls x ls = true := by
  unfold sameW
  rw [eqv_refl (Bool.and_eq_true_iff.mp g.sx).1, eqv_refl (Bool.and_eq_true_iff.mp g.st).1]
  rfl
theorem x_sbt {X : Cx} {e : Expr} {t t' : XE} (h : PE X e (up t)) (hr : ∀ ε K, t'.run ε K → t.run ε K) : PE X e (up t') := pe_wk h fun σ H Q ⟨Γ, ε, T, R, k⟩ => ⟨Γ, ε, T, R, hr _ _ k⟩
/-- the near stretch, of the numbers in slots i and j -/
def xNearW (i j : Nat) : XE := ⟨fun ε K => ∃ q : Int × Int, ε[i]? = some (.d (.int q.1)) ∧ ε[j]? = some (.d (.int q.2)) ∧ K (.d (wSp (nearW q))) ε, fun h ⟨q, e1, e2, k⟩ => ⟨q, e1, e2, h _ _ k⟩⟩
theorem nearW_run {i j : Nat} : ∀ ε K, (xNearW i j).run ε K → (xIf (xTest (xOp fLt (xV j) (xC (.int 1000)))) (xTup (xCons (xV i) (xCons (xOp fAdd (xV j) (xC (.int 1))) xNil))) (xIf (xTest (xOp fGt (xV i) (xC (.int 0)))) (xTup (xCons (xOp fSub (xV i) (xC (.int 1))) (xCons (xV j) xNil))) (xTup (xCons (xV i) (xCons (xOp fSub (xV j) (xC (.int 1))) xNil))))).run ε K := by
  rintro ε K ⟨⟨a, b⟩, h1, h2, k⟩
  have ri : rdV ε i = some (.d (.int a), ε) := by unfold rdV; rw [h1]
  have rj : rdV ε j = some (.d (.int b), ε) := by unfold rdV; rw [h2]
  unfold nearW at k
  dsimp only at k
  refine ⟨_, rj, _, _, _, rfl, rfl, rfl, True.intro, _, rfl, L2.ite2 (fun c => ?_) (fun c => ?_)⟩
  · rw [if_pos (of_decide_eq_true c)] at k
    exact ⟨_, ri, _, rj, _, _, _, rfl, rfl, rfl, True.intro, _, rfl, by exact Nat.le_of_ble_eq_true rfl, k⟩
  · rw [if_neg (fun z => c (decide_eq_true z))] at k
    refine ⟨_, ri, _, _, _, rfl, rfl, rfl, True.intro, _, rfl, L2.ite2 (fun c => ?_) (fun c => ?_)⟩
    · rw [if_pos (of_decide_eq_true c)] at k
      exact ⟨_, ri, _, _, _, rfl, rfl, rfl, True.intro, _, rj, _, rfl, by exact Nat.le_of_ble_eq_true rfl, k⟩
    · rw [if_neg (fun z => c (decide_eq_true z))] at k
      exact ⟨_, ri, _, rj, _, _, _, rfl, rfl, rfl, True.intro, _, rfl, by exact Nat.le_of_ble_eq_true rfl, k⟩
theorem x_nrW {X : Cx} {e : Expr} {i j : Nat} (h : PE X e (up (xIf (xTest (xOp fLt (xV j) (xC (.int 1000)))) (xTup (xCons (xV i) (xCons (xOp fAdd (xV j) (xC (.int 1))) xNil))) (xIf (xTest (xOp fGt (xV i) (xC (.int 0)))) (xTup (xCons (xOp fSub (xV i) (xC (.int 1))) (xCons (xV j) xNil))) (xTup (xCons (xV i) (xCons (xOp fSub (xV j) (xC (.int 1))) xNil))))))) : PE X e (up (xNearW i j)) := x_sbt h nearW_run
/-! what is shown -/
theorem let_shw {lo hi : Int} {x : Str} (h : isLet lo hi (.str x) = true) (hl : x.length ≤ 8) : Shw (.str x) 82 0 := by
  refine ⟨rfl, by simp [PyData.depth], ?_, rfl⟩
  have := StrLaws.reprText_len x fun c hc => by
    have := let_chars h c hc
    exact Nat.lt_of_le_of_lt this.2 (by decide)
  show (reprText x).length ≤ 82
  omega
theorem lnW_small {t : Tie} {x : Str} (h : isTie x (dTie t) = true) : ∀ c ∈ tl (lnW t), c < 128 := fun c hc => by
  unfold lnW spW at hc
  rw [tl_append, tl_append, tl_append, tl_append, tl_sp] at hc
  simp only [List.mem_append, List.mem_singleton] at hc
  rcases hc with hc | hc | hc | hc | hc
  · have := let_chars (tie_inv h).1 c hc
    omega
  · omega
  · have := it_chars _ c hc
    omega
  · omega
  · have := it_chars _ c hc
    omega
theorem join_chars {y : Str} {p : Nat → Prop} (hy : ∀ c ∈ tl y, p c) : ∀ {xs : List Str}, (∀ x ∈ xs, ∀ c ∈ tl x, p c) → ∀ c ∈ tl (Str.join y xs), p c
  | [], _, c, hc => by cases hc
  | [x], h, c, hc => h x List.mem_cons_self c hc
  | x :: z :: r, h, c, hc => by
    have hc : c ∈ tl (x ++ y ++ Str.join y (z :: r)) := hc
    rw [tl_append, tl_append, List.mem_append, List.mem_append] at hc
    rcases hc with (hc | hc) | hc
    · exact h x List.mem_cons_self c hc
    · exact hy c hc
    · exact join_chars hy (fun w hw => h w (List.mem_cons_of_mem _ hw)) c hc
theorem WebOk.chars {x : Str} {ls : List Tie} (g : WebOk x ls) : ∀ c ∈ tl (pageW x ls), c < 128 := by
  unfold pageW
  rw [join_eq]
  refine join_chars (by decide) fun y hy => ?_
  rcases List.mem_cons.mp hy with rfl | hy
  · intro c hc
    have := let_chars g.lt c hc
    omega
  · obtain ⟨t, ht, rfl⟩ := List.mem_map.mp hy
    exact lnW_small (g.tie t ht)
theorem WebOk.page_shw {x : Str} {ls : List Tie} (g : WebOk x ls) : Shw (.str (pageW x ls)) 2000 0 := by
  have hl := g.page
  refine ⟨rfl, by simp [PyData.depth], ?_, rfl⟩
  have := StrLaws.reprText_len (pageW x ls) fun c hc => Nat.lt_trans (g.chars c hc) (by decide)
  show (reprText (pageW x ls)).length ≤ 2000
  omega
theorem wsp_shw {q : Int × Int} (h : 0 ≤ q.1 ∧ q.1 ≤ q.2 ∧ q.2 ≤ 1000) : Shw (wSp q) 27 1 := tup_shw (n := 10) (m := 2) (k := 0) (fun e he => by
  rcases List.mem_cons.mp he with rfl | he
  · exact int_shw (by omega) (by omega)
  · rw [List.mem_singleton.mp he]
    exact int_shw (by omega) (by omega)) (Nat.le_refl 2)
theorem WebOk.ties_shw {x : Str} {ls : List Tie} (g : WebOk x ls) : Shw (dTies ls) 1733 3 := tup_shw (n := 171) (m := 10) (k := 2) (fun e he => by
  obtain ⟨t, ht, rfl⟩ := List.mem_map.mp he
  have gt := tie_inv (g.tie t ht)
  exact tup_shw (n := 82) (m := 2) (k := 1) (fun e he => by
    rcases List.mem_cons.mp he with rfl | he
    · exact (let_shw gt.1 (by have := isLet_inv gt.1; omega)).up (by decide) (by decide)
    · rw [List.mem_singleton.mp he]
      exact (wsp_shw gt.2.2).up (by decide) (by decide)) (Nat.le_refl 2)) (by rw [List.length_map]; exact g.l10)
def toldW (x : Str) (ls : List Tie) : List PyData := [.str x, dTies ls, .str (pageW x ls), .str (pageW x ls), .int (ls.length : Nat), .bool true]
theorem WebOk.told {x : Str} {ls : List Tie} (g : WebOk x ls) : ∃ (P : Prop) (s : Str), fRepr [.list (toldW x ls)] = some (P, .b (.str s)) ∧ P := by
  have l10 := g.l10
  have lx := g.len
  obtain ⟨a1, a2, a3, a4⟩ := lst_show (es := toldW x ls) (n := 2000) (k := 3) (m := 6) (fun e he => by
    unfold toldW at he
    rcases List.mem_cons.mp he with rfl | he
    · exact (let_shw g.lt (by omega)).up (by decide) (by decide)
    rcases List.mem_cons.mp he with rfl | he
    · exact (g.ties_shw).up (by decide) (by decide)
    rcases List.mem_cons.mp he with rfl | he
    · exact (g.page_shw).up (by decide) (by decide)
    rcases List.mem_cons.mp he with rfl | he
    · exact (g.page_shw).up (by decide) (by decide)
    rcases List.mem_cons.mp he with rfl | he
    · exact (int_shw (by omega) (by omega)).up (by decide) (by decide)
    · rw [List.mem_singleton.mp he]
      exact (bl_shw true).up (by decide) (by decide)) (Nat.le_refl 6) (by decide) (by decide)
  exact ⟨_, _, rfl, a1, a2, a3, a4, fun y => nofun⟩
theorem WebOk.sps {x : Str} {ls : List Tie} (g : WebOk x ls) : ∃ (P : Prop) (s : Str), fRepr [.list (ls.map fun t => wSp t.2)] = some (P, .b (.str s)) ∧ P := by
  obtain ⟨a1, a2, a3, a4⟩ := lst_show (es := ls.map fun t => wSp t.2) (n := 27) (k := 1) (m := 10) (fun e he => by
    obtain ⟨t, ht, rfl⟩ := List.mem_map.mp he
    exact wsp_shw (tie_inv (g.tie t ht)).2.2) (by rw [List.length_map]; exact g.l10) (by decide) (by decide)
  exact ⟨_, _, rfl, a1, a2, a3, a4, fun y => nofun⟩
theorem WebOk.three {x : Str} {ls : List Tie} (g : WebOk x ls) : ∃ (P : Prop) (s : Str), fRepr [.list [dTies ls, dTies ls, dTies ls]] = some (P, .b (.str s)) ∧ P := by
  obtain ⟨a1, a2, a3, a4⟩ := lst_show (es := [dTies ls, dTies ls, dTies ls]) (n := 1733) (k := 3) (m := 3) (fun e he => by
    have : e = dTies ls := by simpa using he
    rw [this]
    exact g.ties_shw) (Nat.le_refl 3) (by decide) (by decide)
  exact ⟨_, _, rfl, a1, a2, a3, a4, fun y => nofun⟩
theorem fNe_str (s : Str) : fNe (.str s) (.str s) = some (True, .d (.bool false)) := by
  show some (True, RV.d (.bool (!decide (s = s)))) = _
  rw [decide_eq_true rfl]
  rfl
theorem atI_last {α : Type} {xs : List α} (h : 1 ≤ xs.length) : L2.atI xs (-1) = xs[xs.length - 1]? := by
  unfold L2.atI L2.ixN
  rw [if_neg (by decide), if_pos (by omega)]
  show xs[(-1 + (xs.length : Int)).toNat]? = _
  rw [show (-1 + (xs.length : Int)).toNat = xs.length - 1 by omega]
theorem wsp_sh {q : Int × Int} : ShD 1 (wSp q) := ShD.tup (b := 0) fun d hd => by
  rcases List.mem_cons.mp hd with rfl | hd
  · exact ShD.int
  · rw [List.mem_singleton.mp hd]; exact ShD.int
theorem memN {α : Type} {a x : α} {n : Nat} (h : x ∈ List.replicate n a) : x = a := (List.mem_replicate.mp h).2
theorem mem3 {α : Type} {a x : α} (h : x ∈ [a, a, a]) : x = a := by simpa using h
theorem mem5 {α : Type} {a x : α} (h : x ∈ [a, a, a, a, a]) : x = a := by simpa using h
def RRiW : DR := ⟨fun n as K => as = [.p] ∧ K (.d (.bool true)) n, fun h ⟨e, k⟩ => ⟨e, h _ _ k⟩⟩
theorem DefAt.calG {P : Program} {w : World} {K : PySem.W.Frag} {mg : Str → Option Value} {base : Heap} {x : Str} {st : Stmt} {N ps : List Str} {k : Nat} {sp : Sp} (D : DefAt K mg x st ps) (S : FnScope N ps (defScope st)) (len : ∀ vs H Q E, sp vs H Q E → vs.length = ps.length)
    (hbody : ∀ (f : Addr) (cdv : Value) (A : Around) (outer : List Env) (s : Shared) (H : Hp) (vs : List V) (Q : VK) (E : XK), A.guards = some [] → Room k (A.deeper (envOfC x (defScope st) s.heap.objs.size f cdv)) → sp vs H Q E →
      ∃ t, PSs (cxOf CX0 P w K mg base N x (defScope st) f cdv A outer s H E).nox (defBody st) t ∧ t { nx := fun _ H' => Q .non H', rt := Q } (start N vs) H) : CalG P w K mg base (k + 1) x sp := by
  obtain ⟨f, fd, F, g, b⟩ := D.ex
  refine ⟨f, fd, ps, ?_, g, F.kp, b⟩
  obtain ⟨oc, od, dV, kV, doc, pm, an, cdv, ct, osl, rfl, lk, hcd, _, _⟩ := F.ex
  refine fn_ofG lk hcd S len fun A outer s H vs Q E hg hr h => ?_
  obtain ⟨t, h1, h2⟩ := hbody f cdv A outer s H vs Q E hg hr h
  exact ⟨t, h1.nox, h2⟩
def tG (sp : Sp) (t : TA) : TE := fun σ H Q => t σ H fun vs H1 => sp vs H1 Q fun _ _ _ => False
theorem pe_cG2 {X : Cx} {k j : Nat} {sp : Sp} {x : Str} {q pos : Pos} {e : Expr} {es : List Expr} {t : TA} (c : CalG X.prog X.w X.K X.mg X.base k x sp) (hG : X.A.guards = some []) (hr : Room j X.A) (hk : k ≤ j) (hg : Gl X x) (ha : PA X (e :: es) t)
    (hdb : (x == ("__debug__" : Str)) = false := by rfl) (he : starEach (e :: es) X.env = (false, eval e X.env) :: starEach es X.env := by rfl) (hpl : ((backTo pos (starEach es X.env)).any fun x => x.1) = false := by rfl) :
    PE X (.Call (.Name x q) (e :: es) [] pos) (tG sp t) := pe_cG c hG hr hk hg ha hdb he hpl
theorem stretch_len {C : Addr} : ∀ k rs K, (RSw C).run k rs K → rs.length = 1 + 1 := by
  rintro k rs K ⟨P, x, ls, t, j, rfl, _⟩
  rfl
theorem o1_told {C : Addr} : One (RToW C) := by
  rintro n rs K ⟨x, ls, rfl, _⟩
  rfl
section
variable {P : Program} {w : World} {K : PySem.W.Frag} {mg : Str → Option Value} {base : Heap} {C : Addr}
theorem DefAt.dlG {x : Str} {st : Stmt} {N ps : List Str} {k : Nat} {B : Bool} {R : DR} (D : DefAt K mg x st ps) (S : FnScope N ps (defScope st)) (hN : ps.length ≤ N.length) (hR : ∀ n rs K, R.run n rs K → rs.length = ps.length ∧ (B || noP rs) = true)
    (hbody : ∀ (f : Addr) (cdv : Value) (A : Around) (outer : List Env) (s : Shared) (H : Hp) (E : XK), (A.deeper (envOfC x (defScope st) s.heap.objs.size f cdv)).guards = some [] → Room k (A.deeper (envOfC x (defScope st) s.heap.objs.size f cdv)) →
      ∃ t, PSs (cxOf CX0 P w K mg base N x (defScope st) f cdv A outer s H E).nox (defBody st) (upS t) ∧ ∀ n rs K, R.run n rs K → t.run (okEnd B K) (rs.map (toAV n) ++ List.replicate (N.length - rs.length) .u)) : CalG P w K mg base (k + 1) x (SpD B R) := by
  refine D.calG S (fun vs H Q E h => ?_) fun f cdv A outer s H vs Q E hg hr h => ?_
  · obtain ⟨p, M, n, rs, _, _, _, _, ag, q⟩ := h
    rw [arg_len ag, (hR _ _ _ q).1]
  obtain ⟨t, h1, h2⟩ := hbody f cdv A outer s H E hg hr
  refine ⟨_, h1, enter h ?_ (fun n rs K q => (hR n rs K q).2) h2⟩
  obtain ⟨p, M, n, rs, _, _, _, _, ag, q⟩ := h
  rw [arg_len ag, (hR _ _ _ q).1]
  exact hN
end
end Cs
set_option maxHeartbeats 4000000
local macro_rules | `(tactic| walk_at "xg") => `(tactic| try dsimp only [Cs.xRet, Cs.xRetN, Cs.xOp, Cs.xUn, Cs.xV, Cs.xB, Cs.xC, Cs.xCall, Cs.xCons, Cs.xNil, Cs.xBi, Cs.xSeq, Cs.xSet, Cs.xSets, Cs.xIfS, Cs.xTest, Cs.xTup, Cs.xLst, Cs.xAndV, Cs.xOrV, Cs.xNotV, Cs.xNot, Cs.xAndT, Cs.xOrT, Cs.xIf, Cs.xSl, Cs.xNoPart, Cs.xPart, Cs.xiL, Cs.xiB, Cs.xiT, Cs.xiR1, Cs.xiR2, Cs.xiS, Cs.xiZ, Cs.xiE, Cs.xgN, Cs.xgT, Cs.xgNil, Cs.xgCons, Cs.xYes, Cs.xDrop, Cs.xApp, Cs.xPopS, Cs.xPopA, Cs.xAsg, Cs.xNext, Cs.xNev, Cs.xChain, Cs.xIsi, Cs.xRaw, Cs.okEnd, Cs.toAV, Cs.setP, Cs.aftP, Cs.xCallK, Cs.xMeth, Cs.xProp, Cs.xW, Cs.xM1, Cs.xRv, Cs.xiR3, Cs.xMethK, Cs.xLstO, Cs.xiO, Cs.elA, Cs.turnO, Cs.xWp, Cs.xFl, Cs.xTz, Cs.xWhile, Cs.toAVL, Cs.xCallL, Cs.xDct, Cs.xgU, Cs.xSlS, Cs.xiZs, Cs.xExt, Cs.xCallB, Cs.xStar, Cs.xJs, Cs.jsRun, Cs.xFld, Cs.xLenW, Cs.xStrW, Cs.xBoolW, Cs.xOwnW, Cs.xWeb, Cs.xWebK, Cs.xIdx, List.map, List.replicate, List.length_cons, List.length_nil, List.cons_append, List.nil_append, List.set_cons_succ, List.set_cons_zero, Nat.add_sub_cancel, Nat.sub_self, Nat.reduceSub, Nat.reduceAdd, eq_self, ↓reduceIte])
local macro_rules | `(tactic| walk_at "xw") => `(tactic| try dsimp only [Cs.lcTurn, Cs.wipeA, List.set_cons_succ, List.set_cons_zero])
local macro_rules | `(tactic| walk_at "x") => `(tactic| first
  | (with_reducible refine Eq.mpr (if_pos ?_) ?_; exact rfl)
  | (with_reducible refine Eq.mpr (if_neg ?_) ?_; exact Bool.false_ne_true)
  | refine ⟨_, rfl, ?_⟩
  | refine ⟨rfl, ?_⟩
  | refine ⟨_, _, rfl, rfl, True.intro, ?_⟩
  | refine ⟨_, _, _, rfl, rfl, rfl, True.intro, ?_⟩
  | refine ⟨_, rfl, by exact Nat.le_of_ble_eq_true rfl, ?_⟩
  | refine ⟨by exact Nat.le_of_ble_eq_true rfl, ?_⟩
  | refine ⟨_, _, _, _, rfl, rfl, rfl, rfl, ?_⟩
  | refine ⟨_, _, rfl, ?_⟩
  | refine ⟨⟨_, rfl⟩, ?_⟩
  | refine ⟨_, _, rfl, fun _ => rfl, ?_⟩
  | refine ⟨_, 0, rfl, (fun z => (nomatch z)), ?_⟩
  | refine ⟨_, fun _ => rfl, ?_⟩
  | refine ⟨0, (fun z => (nomatch z)), ?_⟩
  | fail "x")
local macro_rules | `(tactic| walk_at "xs") => `(tactic| repeat' (walk_at "xg"; walk_at "x"))
local macro_rules | `(tactic| walk_at "sets") => `(tactic| (intro vs σ H Q hl hq; first
  | exact (match vs, hl, hq with | [_], _, q => ⟨_, _, rfl, rfl, q⟩)
  | exact (match vs, hl, hq with | [_, _], _, q => ⟨_, _, rfl, _, _, rfl, rfl, q⟩)
  | exact (match vs, hl, hq with | [_, _, _], _, q => ⟨_, _, rfl, _, _, rfl, _, _, rfl, rfl, q⟩)
  | fail "sets"))
/-! k53: three webs right -/
namespace Cs
open PySem PySem.Spec L2 L2H PyProof.Rows TL
section
variable {P : Program} {w : World} {K : PySem.W.Frag} {mg : Str → Option Value} {base : Heap} {C : Addr}
theorem sc__law_right : FnScope ["_law_well_here", "_law_turn", "_law_spots", "_law_links", "_law_mine", "_law_page_here", "_law_told", "_law_two", "_law_length", "_law_mates", "_law_mate", "_law_low", "_law_high", "_law_near", "_law_bent", "_law_each", "_law_others"] ["_law_well_here"] (defScope (topS 44)) := ⟨rfl, rfl, rfl, by decide +kernel, rfl, by decide +kernel, by decide +kernel⟩
theorem ok__law_right {fI gp pp gi pi gt pt fs fl fst fe ptold ft : Addr} {fdI fdp fdi fdx fds fdl fdst fde fdt : FuncData} {mc : Value} {gg1 gg2 gg3 : List Value → List Value → List Value} (D : DefAt K mg "_law_right" (topS 44) ["_law_well_here"]) (T : Txt mg) (TW : TxtWeb mg) (WC : WebC K C) (WG : WebG mg C) (WA : WebAt K mg C fI fdI) (WS : SpcW K C fl fst fe) (FIo : FnOk P w K mg base CX0 7 fI fdI ["self", "places", "ties"] (SpWO C))
    (kb_init : KBn K fdI ["self", "places", "ties"] 1 ["ties", "places"] gg1 (fun vs zs => vs ++ zs.reverse))
    (F_places : FnOk P w K mg base CX0 1 gp fdp ["self"] (SpD false (RPl C))) (hp_places : PropOf K C "places" pp gp) (b_places : Binds K fdp ["self"] [])
    (F_ties : FnOk P w K mg base CX0 1 gi fdi ["self"] (SpD false (RTs C))) (hp_ties : PropOf K C "ties" pi gi) (b_ties : Binds K fdi ["self"] [])
    (F_text : FnOk P w K mg base CX0 2 gt fdx ["self"] (SpD false (RTx C))) (hp_text : PropOf K C "text" pt gt) (b_text : Binds K fdx ["self"] [])
    (F_stretch : FnOk P w K mg base CX0 5 fs fds ["self", "pair"] (SpD false (RSw C))) (hm_stretch : Meth K C "stretch" fs) (b_stretch : Binds K fds ["self", "pair"] []) (kb_stretch : KBn K fds ["self", "pair"] 1 ["pair"] gg2 (fun vs zs => vs ++ zs.reverse))
    (F___len__ : FnOk P w K mg base CX0 1 fl fdl ["self"] (SpD false (RLnW C))) (b___len__ : Binds K fdl ["self"] []) (F___str__ : FnOk P w K mg base CX0 4 fst fdst ["self"] (SpD false (RTx C))) (b___str__ : Binds K fdst ["self"] [])
    (F___eq__ : FnOk P w K mg base CX0 1 fe fde ["self", "other"] (SpEqW C)) (b___eq__ : Binds K fde ["self", "other"] [])
    (RT : ClX.CRead K C mc) (CT : ClX.CMet K C mc "told" ptold ft) (F_told : FnOk P w K mg base CX0 10 ft fdt ["cls", "text"] (SpC1 (RToW C))) (FR_told : FnR P w K mg base CX0 10 ft (SpC1 (RToW C))) (kb_told : KBn K fdt ["cls", "text"] 1 ["text"] gg3 (fun vs zs => vs ++ zs.reverse))
    (c_law_web : C8.Cal P w K mg base 3 "_law_web" SpWebD []) (c_law_draw : C8.Cal P w K mg base 1 "_law_draw" SpDraw []) (c_law_page : C8.Cal P w K mg base 1 "_law_page" (SpD false RPgW) []) :
    CalG P w K mg base 12 "_law_right" (SpD true RRiW) := by
  have nd := sc__law_right.nd
  have hTC := WC.c
  refine D.dlG sc__law_right (by decide) (by rintro n rs K ⟨rfl, _⟩; exact ⟨rfl, rfl⟩) fun f cdv A outer s H E hG hr => ?_
  have hu64 := hr.units
  refine ⟨_, (xss_cons (xs_for PassesOwn.never rfl (xi_rng1 rfl T.range_ (xa_cons (xe_c pe_int (fun _ _ => .int _)) xa_nil)) (xg_n (pg_name (i := 1) nd rfl (.inl rfl))) (pss_wp [1, 2, 3, 4, 5, 6, 7, 9, 11, 12, 13, 14, 16] (xss_cons (xs_tgt (ps_asg (x_call (C8.pe_c c_law_web hr (by decide) rfl (xa_cons (xe_v (pv 0)) (xa_cons (xe_c pe_int (fun _ _ => .int _)) (xa_cons (xe_c pe_int (fun _ _ => .int _)) xa_nil)))) (fun _ _ _ => ad_web)) (xg_t (pg_tup (by rfl) (xgs_cons (xg_n (pg_name (i := 2) nd rfl (.inl rfl))) (xgs_cons (xg_n (pg_name (i := 3) nd rfl (.inl rfl))) xgs_nil))))))
      (xss_cons (xs_pars (is := [(false, 4), (false, 5)]) (ps_asg (pe_tup (xa_cons (x_web (pe_make WA.mkT FIo (hr.mono (by decide)) rfl WA.g WA.b .nil pass0 (xa_cons (xe_v (pv 2)) (xa_cons (xe_v (pv 3)) xa_nil)))) (xa_cons (x_call (C8.pe_c c_law_page hr (by decide) rfl (xa_cons (xe_v (pv 2)) (xa_cons (xe_v (pv 3)) xa_nil))) (fun _ _ _ h => h)) xa_nil))) (pg_tup (n := 2) (by rfl) (pgs_cons (pg_name (i := 4) nd rfl (.inr rfl)) (pgs_cons (pg_name (i := 5) nd rfl (.inl rfl)) pgs_nil)))) rfl (by decide) (by walk_at "sets"))
      (xss_cons (xs_asg (w := false) (ps_set (i := 6) nd rfl (.inl rfl) (xe_lst (xa_cons (x_prop (pe_prop (xe_v (pv 4)) hTC hp_places F_places (hr.mono (by decide)) b_places .nil pass0 rfl) (fun _ _ _ h => h)) (xa_cons (x_prop (pe_prop (xe_v (pv 4)) hTC hp_ties F_ties (hr.mono (by decide)) b_ties .nil pass0 rfl) (fun _ _ _ h => h)) (xa_cons (x_prop (pe_prop (xe_v (pv 4)) hTC hp_text F_text (hr.mono (by decide)) b_text .nil pass0 rfl) (fun _ _ _ h => h)) (xa_cons (x_strW (pe_callTy (call_strI F___str__ (hr.mono (by decide)) b___str__ pass0 WS.str WS.strf) (by rfl) T.str_ (by decide +kernel) (xa_cons (xe_v (pv 4)) xa_nil))) (xa_cons (x_lenW (pe_callB (call_lenI F___len__ (hr.mono (by decide)) b___len__ pass0 WS.len WS.lenf) (by rfl) T.len_ (by decide +kernel) (xa_cons (xe_v (pv 4)) xa_nil))) (xa_cons (x_boolW (pe_callTy (call_boolI F___len__ (hr.mono (by decide)) b___len__ pass0 WS.bo WS.len WS.lenf) (by rfl) T.bool_ (by decide +kernel) (xa_cons (xe_v (pv 4)) xa_nil))) xa_nil)))))))))
      (xss_cons (xs_if (xt_op (pt_cmpR (opNe hu64) (x_bi (pe_callB (callReprD hG hu64) (by rfl) T.repr_ (by decide +kernel) (xa_cons (xe_v (pv 6)) xa_nil)) bl_repr) (x_bi (pe_callB (callReprD hG hu64) (by rfl) T.repr_ (by decide +kernel) (xa_cons (xe_lst (xa_cons (xe_v (pv 2)) (xa_cons (xe_v (pv 3)) (xa_cons (xe_v (pv 5)) (xa_cons (xe_v (pv 5)) (xa_cons (x_bi (pe_callB call_lenA (by rfl) T.len_ (by decide +kernel) (xa_cons (xe_v (pv 3)) xa_nil)) bl_len) (xa_cons (xe_c pe_bl (fun _ _ => .bl _)) xa_nil))))))) xa_nil)) bl_repr) (nomark _)) ol_ne) (xss_one (xs_ret (xe_c pe_bl (fun _ _ => .bl _)))) xss_nil)
      (xss_cons (xs_if (xt_op (pt_cmpR (opNe hu64) (x_bi (pe_callB (callReprD hG hu64) (by rfl) T.repr_ (by decide +kernel) (xa_cons (xe_lc (own := [("_law_two", 7), ("_law_length", 8)]) rfl nd (xi_tup (xe_v (pv 3))) (blkOk_by (N := ["_law_well_here", "_law_turn", "_law_spots", "_law_links", "_law_mine", "_law_page_here", "_law_told", "_law_two", "_law_length", "_law_mates", "_law_mate", "_law_low", "_law_high", "_law_near", "_law_bent", "_law_each", "_law_others"]) (sc := defScope (topS 44)) (by decide +kernel)) (fun _ _ _ _ _ => (xg_t (pg_tup (by rfl) (xgs_cons (xg_n (pg_name (i := 7) nd rfl (.inl rfl))) (xgs_cons (xg_n (pg_name (i := 8) nd rfl (.inl rfl))) xgs_nil))))) (fun _ _ _ _ _ => xts_nil) (fun _ _ _ _ _ => (x_meth (pe_meth (xe_v (pv 4)) hTC hm_stretch F_stretch (hr.mono (by decide)) b_stretch .nil pass0 (xa_cons (xe_v (pv 7)) xa_nil)) (fun _ _ _ h => h))) (by decide)) xa_nil)) bl_repr) (x_bi (pe_callB (callReprD hG hu64) (by rfl) T.repr_ (by decide +kernel) (xa_cons (xe_lc (own := [("_law_two", 7), ("_law_length", 8)]) rfl nd (xi_tup (xe_v (pv 3))) (blkOk_by (N := ["_law_well_here", "_law_turn", "_law_spots", "_law_links", "_law_mine", "_law_page_here", "_law_told", "_law_two", "_law_length", "_law_mates", "_law_mate", "_law_low", "_law_high", "_law_near", "_law_bent", "_law_each", "_law_others"]) (sc := defScope (topS 44)) (by decide +kernel)) (fun _ _ _ _ _ => (xg_t (pg_tup (by rfl) (xgs_cons (xg_n (pg_name (i := 7) nd rfl (.inl rfl))) (xgs_cons (xg_n (pg_name (i := 8) nd rfl (.inl rfl))) xgs_nil))))) (fun _ _ _ _ _ => xts_nil) (fun _ _ _ _ _ => (xe_v (pv 8))) (by decide)) xa_nil)) bl_repr) (nomark _)) ol_ne) (xss_one (xs_ret (xe_c pe_bl (fun _ _ => .bl _)))) xss_nil)
      (xss_cons (xs_if (xt_op (pt_cmpR (opNe hu64) (x_methK (pe_methK (xe_v (pv 4)) hTC hm_stretch F_stretch (hr.mono (by decide)) kb_stretch pass0 (xk_cons (x_op (pe_ix ix_seq (x_op (pe_ix ix_seq (xe_v (pv 3)) (xe_neg (xe_c pe_int (fun _ _ => .int _))) (fun _ _ => rfl)) ol_ix) (xe_c pe_int (fun _ _ => .int _)) (fun _ _ => rfl)) ol_ix) xk_nil)) stretch_len (fun _ _ _ h => h)) (x_op (pe_ix ix_seq (x_op (pe_ix ix_seq (xe_v (pv 3)) (xe_neg (xe_c pe_int (fun _ _ => .int _))) (fun _ _ => rfl)) ol_ix) (xe_c pe_int (fun _ _ => .int _)) (fun _ _ => rfl)) ol_ix) (nomark _)) ol_ne) (xss_one (xs_ret (xe_c pe_bl (fun _ _ => .bl _)))) xss_nil)
      (xss_cons (xs_asg (w := false) (ps_set (i := 9) nd rfl (.inl rfl) (xe_lstO (xa_cons (x_cmW o1_told (ClX.pe_cmeth (C8.pe_gc rfl WG.v_Web) RT CT FR_told (hr.mono (by decide)) pass0 (xa_cons (xe_v (pv 5)) xa_nil))) (xa_cons (x_cmWK o1_told (pe_cmethK (C8.pe_gc rfl WG.v_Web) RT CT F_told (hr.mono (by decide)) kb_told pass0 (xk_cons (xe_v (pv 5)) xk_nil))) (xa_cons (x_webK (pe_makeK0 WA.mkT FIo (hr.mono (by decide)) rfl WA.g kb_init pass0 (xk_cons (xe_v (pv 3)) (xk_cons (xe_v (pv 2)) xk_nil)))) xa_nil))))))
      (xss_cons (xs_if (PW.pt (xw_or (xt_op (pt_cmpR (opNe hu64) (xe_lcO (own := [("_law_mate", 10)]) (gi := 10) rfl nd (xi_o (xe_v (pv 9))) (blkOk_by (N := ["_law_well_here", "_law_turn", "_law_spots", "_law_links", "_law_mine", "_law_page_here", "_law_told", "_law_two", "_law_length", "_law_mates", "_law_mate", "_law_low", "_law_high", "_law_near", "_law_bent", "_law_each", "_law_others"]) (sc := defScope (topS 44)) (by decide +kernel)) (fun _ _ _ _ _ => (xg_o (pg_name (i := 10) nd rfl (.inl rfl)))) (fun _ _ _ _ _ => xts_nil) (fun _ _ _ _ _ => (x_ownW (pe_cmpR (op_eqA F___eq__ (hr.mono (by decide)) b___eq__ pass0 WS.eq WS.eqf) (xe_v (pv 10)) (xe_v (pv 4)) (nomark _)))) (by decide)) (x_op (pe_op opMul (xe_lst (xa_cons (xe_c pe_bl (fun _ _ => .bl _)) xa_nil)) (xe_c pe_int (fun _ _ => .int _))) ol_mul) (nomark _)) ol_ne) (xw_or1 (xt_op (pt_cmpR (opNe hu64) (x_bi (pe_callB (callReprD hG hu64) (by rfl) T.repr_ (by decide +kernel) (xa_cons (xe_lcO (own := [("_law_mate", 10)]) (gi := 10) rfl nd (xi_o (xe_v (pv 9))) (blkOk_by (N := ["_law_well_here", "_law_turn", "_law_spots", "_law_links", "_law_mine", "_law_page_here", "_law_told", "_law_two", "_law_length", "_law_mates", "_law_mate", "_law_low", "_law_high", "_law_near", "_law_bent", "_law_each", "_law_others"]) (sc := defScope (topS 44)) (by decide +kernel)) (fun _ _ _ _ _ => (xg_o (pg_name (i := 10) nd rfl (.inl rfl)))) (fun _ _ _ _ _ => xts_nil) (fun _ _ _ _ _ => (x_prop (pe_prop (xe_v (pv 10)) hTC hp_ties F_ties (hr.mono (by decide)) b_ties .nil pass0 rfl) (fun _ _ _ h => h))) (by decide)) xa_nil)) bl_repr) (x_bi (pe_callB (callReprD hG hu64) (by rfl) T.repr_ (by decide +kernel) (xa_cons (x_op (pe_op opMul (xe_lst (xa_cons (xe_v (pv 3)) xa_nil)) (xe_c pe_int (fun _ _ => .int _))) ol_mul) xa_nil)) bl_repr) (nomark _)) ol_ne)))) (xss_one (xs_ret (xe_c pe_bl (fun _ _ => .bl _)))) xss_nil)
      (xss_cons (xs_tgt (ps_asg (x_op (pe_ix ix_seq (xe_v (pv 3)) (x_call (C8.pe_c c_law_draw hr (by decide) rfl (xa_cons (xe_v (pv 0)) (xa_cons (x_bi (pe_callB call_lenA (by rfl) T.len_ (by decide +kernel) (xa_cons (xe_v (pv 3)) xa_nil)) bl_len) xa_nil))) (fun _ _ _ => ad_draw)) (fun _ _ => rfl)) ol_ix) (xg_t (pg_tup (by rfl) (xgs_cons (xg_n (pg_name (i := 7) nd rfl (.inr rfl))) (xgs_cons (xg_t (pg_tup (by rfl) (xgs_cons (xg_n (pg_name (i := 11) nd rfl (.inl rfl))) (xgs_cons (xg_n (pg_name (i := 12) nd rfl (.inl rfl))) xgs_nil)))) xgs_nil))))))
      (xss_cons (xs_asg (w := false) (ps_set (i := 13) nd rfl (.inr rfl) (x_nrW (xe_ifExp (xt_op (pt_cmpR opLt (xe_v (pv 12)) (xe_c pe_int (fun _ _ => .int _)) (nomark _)) ol_lt) (xe_tup (xa_cons (xe_v (pv 11)) (xa_cons (x_op (pe_op opAddD (xe_v (pv 12)) (xe_c pe_int (fun _ _ => .int _))) ol_add) xa_nil))) (xe_ifExp (xt_op (pt_cmpR op_gt (xe_v (pv 11)) (xe_c pe_int (fun _ _ => .int _)) (nomark _)) ol_gt) (xe_tup (xa_cons (x_op (pe_op op_sub (xe_v (pv 11)) (xe_c pe_int (fun _ _ => .int _))) ol_sub) (xa_cons (xe_v (pv 12)) xa_nil))) (xe_tup (xa_cons (xe_v (pv 11)) (xa_cons (x_op (pe_op op_sub (xe_v (pv 12)) (xe_c pe_int (fun _ _ => .int _))) ol_sub) xa_nil))))))))
      (xss_cons (xs_asg (w := false) (ps_set (i := 14) nd rfl (.inl rfl) (x_bi (pe_callTy call_tuple_of (by rfl) T.tuple_ (by decide +kernel) (xa_cons (xe_lc (own := [("_law_each", 15), ("_law_length", 8)]) rfl nd (xi_tup (xe_v (pv 3))) (blkOk_by (N := ["_law_well_here", "_law_turn", "_law_spots", "_law_links", "_law_mine", "_law_page_here", "_law_told", "_law_two", "_law_length", "_law_mates", "_law_mate", "_law_low", "_law_high", "_law_near", "_law_bent", "_law_each", "_law_others"]) (sc := defScope (topS 44)) (by decide +kernel)) (fun _ _ _ _ _ => (xg_t (pg_tup (by rfl) (xgs_cons (xg_n (pg_name (i := 15) nd rfl (.inl rfl))) (xgs_cons (xg_n (pg_name (i := 8) nd rfl (.inl rfl))) xgs_nil))))) (fun _ _ _ _ _ => xts_nil) (fun _ _ _ _ _ => (xe_tup (xa_cons (xe_v (pv 15)) (xa_cons (xe_ifExp (xt_op (pt_cmpR (opEq hu64) (xe_v (pv 15)) (xe_v (pv 7)) (nomark _)) ol_eq) (xe_v (pv 13)) (xe_v (pv 8))) xa_nil)))) (by decide)) xa_nil)) bl_tuple)))
      (xss_cons (xs_asg (w := false) (ps_set (i := 16) nd rfl (.inl rfl) (xe_lstO (xa_cons (x_web (pe_make WA.mkT FIo (hr.mono (by decide)) rfl WA.g WA.b .nil pass0 (xa_cons (xe_v (pv 2)) (xa_cons (xe_v (pv 14)) xa_nil)))) (xa_cons (xe_v (pv 5)) (xa_cons (xe_tup (xa_cons (xe_v (pv 2)) (xa_cons (xe_v (pv 3)) xa_nil))) (xa_cons (xe_c pe_non (fun _ _ => .non)) (xa_cons (xe_v (pv 2)) xa_nil))))))))
      (xss_one (xs_if (PW.pt (xw_or (xt_op (pt_cmpR (opNe hu64) (xe_lcO (own := [("_law_each", 15)]) (gi := 15) rfl nd (xi_o (xe_v (pv 16))) (blkOk_by (N := ["_law_well_here", "_law_turn", "_law_spots", "_law_links", "_law_mine", "_law_page_here", "_law_told", "_law_two", "_law_length", "_law_mates", "_law_mate", "_law_low", "_law_high", "_law_near", "_law_bent", "_law_each", "_law_others"]) (sc := defScope (topS 44)) (by decide +kernel)) (fun _ _ _ _ _ => (xg_o (pg_name (i := 15) nd rfl (.inl rfl)))) (fun _ _ _ _ _ => xts_nil) (fun _ _ _ _ _ => (x_ownW (pe_cmpR (op_eqA F___eq__ (hr.mono (by decide)) b___eq__ pass0 WS.eq WS.eqf) (xe_v (pv 4)) (xe_v (pv 15)) (nomark _)))) (by decide)) (x_op (pe_op opMul (xe_lst (xa_cons (xe_c pe_bl (fun _ _ => .bl _)) xa_nil)) (xe_c pe_int (fun _ _ => .int _))) ol_mul) (nomark _)) ol_ne) (xw_or1 (xt_op (pt_cmpR (opNe hu64) (xe_lcO (own := [("_law_each", 15)]) (gi := 15) rfl nd (xi_o (xe_v (pv 16))) (blkOk_by (N := ["_law_well_here", "_law_turn", "_law_spots", "_law_links", "_law_mine", "_law_page_here", "_law_told", "_law_two", "_law_length", "_law_mates", "_law_mate", "_law_low", "_law_high", "_law_near", "_law_bent", "_law_each", "_law_others"]) (sc := defScope (topS 44)) (by decide +kernel)) (fun _ _ _ _ _ => (xg_o (pg_name (i := 15) nd rfl (.inl rfl)))) (fun _ _ _ _ _ => xts_nil) (fun _ _ _ _ _ => (x_ownW (pe_cmpR (op_neA F___eq__ (hr.mono (by decide)) b___eq__ pass0 WS.ne WS.ob WS.eq WS.eqf) (xe_v (pv 4)) (xe_v (pv 15)) (nomark _)))) (by decide)) (x_op (pe_op opMul (xe_lst (xa_cons (xe_c pe_bl (fun _ _ => .bl _)) xa_nil)) (xe_c pe_int (fun _ _ => .int _))) ol_mul) (nomark _)) ol_ne)))) (xss_one (xs_ret (xe_c pe_bl (fun _ _ => .bl _)))) xss_nil))))))))))))))))
      (xss_one (xs_ret (xe_c pe_bl (fun _ _ => .bl _))))), ?_⟩
  rintro n as K ⟨rfl, k⟩
  walk_at "xs"
  refine ⟨by decide, by decide, rfl, fun i ε => ε = .p n :: List.replicate 16 .u, rfl, ?_, ?_⟩
  · rintro e rfl
    exact ⟨rfl, _, fun _ => rfl, k⟩
  · rintro i d e hd rfl
    walk_at "xs"
    intro x ls g _ _
    have l10 := g.l10
    have l1 := g.l1
    have lx := g.len
    walk_at "xs"
    refine ⟨g, ?_⟩
    walk_at "xs"
    refine ⟨g, ?_⟩
    walk_at "xs"
    have idj : ∀ v H, WebJ C x ls v H → WebJ C x ls v H := fun _ _ h => h
    refine ⟨WebJ.isI, _, x, ls, rfl, idj, rfl, ?_⟩
    walk_at "xs"
    refine ⟨WebJ.isI, _, x, ls, rfl, idj, rfl, ?_⟩
    walk_at "xs"
    refine ⟨WebJ.isI, _, x, ls, rfl, idj, g, rfl, ?_⟩
    walk_at "xs"
    refine ⟨WebJ.isI, _, x, ls, rfl, idj, g, _, rfl, ?_⟩
    walk_at "xs"
    refine ⟨WebJ.isI, _, x, ls, rfl, idj, g, ls.length, rfl, by omega, ?_⟩
    walk_at "xs"
    refine ⟨WebJ.isI, _, x, ls, rfl, idj, g, ls.length, rfl, by omega, ?_⟩
    walk_at "xs"
    rw [show (ls.length != 0) = true from by rw [bne_iff_ne]; omega]
    obtain ⟨PT, sT, hT, pT⟩ := g.told
    have hT2 : fRepr [.list [.str x, dTies ls, .str (pageW x ls), .str (pageW x ls), .int ((ls.map dTie).length : Nat), .bool true]] = some (PT, .b (.str sT)) := by
      rw [List.length_map]
      exact hT
    refine ⟨_, _, rfl, hT, pT, ?_⟩
    walk_at "xs"
    refine ⟨_, _, rfl, hT2, pT, _, _, _, rfl, rfl, fNe_str sT, True.intro, _, rfl, L2.iteF ?_⟩
    clear hT hT2 pT
    generalize PyData.list [.str x, dTies ls, .str (pageW x ls), .str (pageW x ls), .int (ls.length : Nat), .bool true] = e6
    walk_at "xs"
    obtain ⟨PS, sS, hS, pS⟩ := g.sps
    refine lc_es (ls.map fun t => wSp t.2) ?_
    walk_at "xs"
    refine ⟨by rw [List.length_map, List.length_map], by rw [List.length_map]; omega, fun j d2 y hd2 hy => ?_, ?_⟩
    · obtain ⟨t, ht, rfl⟩ := mapget hd2
      rw [List.getElem?_map, ht] at hy
      cases hy
      walk_at "xw"
      refine ⟨_, rfl, _, _, rfl, _, _, rfl, rfl, ?_⟩
      walk_at "xs"
      refine ⟨WebJ.ins rfl, ?_⟩
      walk_at "xs"
      refine ⟨_, x, ls, t, j, rfl, idj, g, ht, ?_⟩
      walk_at "xs"
      rfl
    walk_at "xw"
    walk_at "xs"
    refine ⟨_, _, rfl, hS, pS, ?_⟩
    refine lc_es (ls.map fun t => wSp t.2) ?_
    walk_at "xs"
    refine ⟨by rw [List.length_map, List.length_map], by rw [List.length_map]; omega, fun j d2 y hd2 hy => ?_, ?_⟩
    · obtain ⟨t, ht, rfl⟩ := mapget hd2
      rw [List.getElem?_map, ht] at hy
      cases hy
      walk_at "xw"
      refine ⟨_, rfl, _, _, rfl, _, _, rfl, rfl, ?_⟩
      walk_at "xs"
      rfl
    walk_at "xw"
    walk_at "xs"
    refine ⟨_, _, rfl, hS, pS, _, _, _, rfl, rfl, fNe_str sS, True.intro, _, rfl, L2.iteF ?_⟩
    clear hS pS
    walk_at "xs"
    obtain ⟨tz, hz⟩ : ∃ tz, ls[ls.length - 1]? = some tz := ⟨_, List.getElem?_eq_getElem (by omega)⟩
    have f0 : ∀ t : Tie, fIx (dTie t) (.int 0) = some (True, .d (.str t.1)) := fun t => fIx_t (atI_nat (j := 0) rfl)
    have f1 : ∀ t : Tie, fIx (dTie t) (.int 1) = some (True, .d (wSp t.2)) := fun t => fIx_t (atI_nat (j := 1) rfl)
    have fz : fIx (dTies ls) (.int (-1)) = some (True, .d (dTie tz)) := fIx_t (by rw [atI_last (by rw [List.length_map]; omega), List.length_map, List.getElem?_map, hz]; rfl)
    obtain ⟨PN, hN, pN⟩ := fNe_same (wsp_sh (q := tz.2)) (by omega) ⟨_, .inr rfl⟩
    refine ⟨WebJ.ins rfl, ?_⟩
    walk_at "xs"
    refine ⟨_, _, _, rfl, rfl, fz, True.intro, ?_⟩
    walk_at "xs"
    refine ⟨_, x, ls, tz, ls.length - 1, rfl, idj, g, hz, ?_⟩
    walk_at "xs"
    refine ⟨_, _, _, rfl, rfl, fz, True.intro, ?_⟩
    walk_at "xs"
    refine ⟨_, _, _, rfl, rfl, hN, pN, _, rfl, L2.iteF ?_⟩
    clear hN pN
    walk_at "xs"
    refine ⟨g, ?_⟩
    walk_at "xs"
    refine ⟨g, ?_⟩
    walk_at "xs"
    refine ⟨g, ?_⟩
    walk_at "xs"
    refine lc_esO [.bool true, .bool true, .bool true] ?_
    walk_at "xs"
    refine ⟨fun P hP => by rw [mem3 hP]; exact WebJ.sld, rfl, by exact Nat.le_of_ble_eq_true rfl, fun j q x2 hr hx => ?_, ?_⟩
    · obtain ⟨P, hP, rfl⟩ := mapget hr
      have eP := mem3 (List.mem_of_getElem? hP)
      have ex := mem3 (List.mem_of_getElem? hx)
      subst eP ex
      walk_at "xw"
      walk_at "xs"
      refine ⟨_, x, ls, true, rfl, idj, g, .inl ⟨_, x, ls, rfl, idj, g, (same_reflW g).symm⟩, ?_⟩
      exact ⟨_, rfl, rfl, rfl⟩
    walk_at "xw"
    walk_at "xs"
    obtain ⟨PM, hM, pM⟩ := fNe_same (d := .list [.bool true, .bool true, .bool true]) (b := 1) (ShD.list (b := 0) fun d hd => by rw [mem3 hd]; exact ShD.bool) (by omega) ⟨_, .inl rfl⟩
    obtain ⟨PG, sG, hG2, pG⟩ := g.three
    refine ⟨_, _, _, rfl, rfl, rfl, ⟨by decide, by decide, by decide⟩, ?_⟩
    walk_at "xs"
    refine ⟨_, _, _, rfl, rfl, hM, pM, ?_⟩
    walk_at "xs"
    refine lc_esO [dTies ls, dTies ls, dTies ls] ?_
    walk_at "xs"
    refine ⟨fun P hP => by rw [mem3 hP]; exact WebJ.sld, rfl, by exact Nat.le_of_ble_eq_true rfl, fun j q x2 hr hx => ?_, ?_⟩
    · obtain ⟨P, hP, rfl⟩ := mapget hr
      have eP := mem3 (List.mem_of_getElem? hP)
      have ex := mem3 (List.mem_of_getElem? hx)
      subst eP ex
      walk_at "xw"
      walk_at "xs"
      refine ⟨WebJ.isI, _, x, ls, rfl, idj, ?_⟩
      exact ⟨rfl, _, rfl, rfl, rfl⟩
    walk_at "xw"
    walk_at "xs"
    refine ⟨_, _, rfl, hG2, pG, _, rfl, _, rfl, by exact Nat.le_of_ble_eq_true rfl, _, _, _, rfl, rfl, rfl, ⟨by decide, by decide, by exact Nat.le_of_ble_eq_true rfl⟩, _, _, rfl, hG2, pG, _, _, _, rfl, rfl, fNe_str sG, True.intro, _, rfl, L2.iteF ?_⟩
    clear hM pM hG2 pG
    generalize LsP [WebJ C x ls, WebJ C x ls, WebJ C x ls] = e9
    walk_at "xs"
    refine ⟨by rw [List.length_map]; omega, by rw [List.length_map]; omega, fun j hj => ?_⟩
    rw [List.length_map] at hj
    obtain ⟨t, ht⟩ : ∃ t, ls[j]? = some t := ⟨_, List.getElem?_eq_getElem hj⟩
    have fj : fIx (dTies ls) (.int (j : Nat)) = some (True, .d (dTie t)) := fIx_t (atI_nat (by rw [List.getElem?_map, ht]; rfl))
    have tm := List.mem_of_getElem? ht
    obtain ⟨nb, nn⟩ := nearW_ok (tie_inv (g.tie t tm)).2.2
    have gb := bentW_ok (y := t.1) g nb
    have bn := bent_neW (x := x) tm rfl nn
    have t2 := g.pl tm
    refine ⟨rfl, _, _, _, rfl, rfl, fj, True.intro, _, rfl, _, rfl, _, _, rfl, _, _, rfl, _, rfl, _, _, rfl, _, _, rfl, rfl, rfl, t.2, rfl, rfl, ?_⟩
    generalize nearW t.2 = q' at nb nn gb bn ⊢
    walk_at "xs"
    refine lc_es ((bentW ls t.1 q').map dTie) ?_
    walk_at "xs"
    refine ⟨by unfold bentW; rw [List.length_map, List.length_map, List.length_map], by rw [List.length_map]; omega, fun j d2 y hd2 hy => ?_, ?_⟩
    · obtain ⟨u, hu, rfl⟩ := mapget hd2
      unfold bentW at hy
      rw [List.getElem?_map, List.getElem?_map, hu] at hy
      cases hy
      walk_at "xw"
      refine ⟨_, rfl, _, _, rfl, _, _, rfl, rfl, ?_⟩
      walk_at "xs"
      refine L2.ite2 (fun c => ?_) (fun c => ?_)
      · have c := of_decide_eq_true c
        exact ⟨_, rfl, _, rfl, by exact Nat.le_of_ble_eq_true rfl, _, rfl, by rw [if_pos c]; rfl, rfl⟩
      · have c := fun h => c (decide_eq_true h)
        exact ⟨_, rfl, _, rfl, by exact Nat.le_of_ble_eq_true rfl, _, rfl, by rw [if_neg c]; rfl, rfl⟩
    walk_at "xw"
    walk_at "xs"
    refine ⟨gb, ?_⟩
    walk_at "xs"
    have e1 : imm (.tuple [.str x, dTies ls]) = true := by
      show (imm (.str x) && (imm (dTies ls) && true)) = true
      rw [imm_ties]
      rfl
    generalize bentW ls t.1 q' = lb at *
    have hO : oas [.o (WebJ C x lb), .d (.str (pageW x ls)), .d (.tuple [.str x, dTies ls]), .d .none, .d (.str x)] = some [WebJ C x lb, DaP (.str (pageW x ls)), DaP (.tuple [.str x, dTies ls]), DaP .none, DaP (.str x)] := by
      show ((if imm (.str (pageW x ls)) = true then ((if imm (.tuple [.str x, dTies ls]) = true then ((if imm .none = true then ((if imm (.str x) = true then (some []).map (DaP (.str x) :: ·) else none)).map (DaP .none :: ·) else none)).map (DaP (.tuple [.str x, dTies ls]) :: ·) else none)).map (DaP (.str (pageW x ls)) :: ·) else none)).map (WebJ C x lb :: ·) = _
      rw [if_pos e1]
      rfl
    refine ⟨_, hO, by exact Nat.le_of_ble_eq_true rfl, ?_⟩
    clear hO
    have hP5 : ∀ P ∈ [WebJ C x lb, DaP (.str (pageW x ls)), DaP (.tuple [.str x, dTies ls]), DaP .none, DaP (.str x)], Sld P ∧ (P = WebJ C x lb ∨ ∃ d, P = DaP d) := fun P hP => by
      simp only [List.mem_cons, List.not_mem_nil, or_false] at hP
      rcases hP with rfl | rfl | rfl | rfl | rfl
      · exact ⟨WebJ.sld, .inl rfl⟩
      · exact ⟨dap_sld rfl, .inr ⟨_, rfl⟩⟩
      · exact ⟨dap_sld e1, .inr ⟨_, rfl⟩⟩
      · exact ⟨dap_sld rfl, .inr ⟨_, rfl⟩⟩
      · exact ⟨dap_sld rfl, .inr ⟨_, rfl⟩⟩
    obtain ⟨PF, hF, pF⟩ := fNe_same (d := .list [.bool false, .bool false, .bool false, .bool false, .bool false]) (b := 1) (ShD.list (b := 0) fun d hd => by rw [mem5 hd]; exact ShD.bool) (by omega) ⟨_, .inl rfl⟩
    obtain ⟨PM, hM, pM⟩ := fNe_same (d := .list [.bool true, .bool true, .bool true, .bool true, .bool true]) (b := 1) (ShD.list (b := 0) fun d hd => by rw [mem5 hd]; exact ShD.bool) (by omega) ⟨_, .inl rfl⟩
    walk_at "xs"
    refine lc_esO [.bool false, .bool false, .bool false, .bool false, .bool false] ?_
    walk_at "xs"
    refine ⟨fun P hP => (hP5 P hP).1, rfl, by exact Nat.le_of_ble_eq_true rfl, fun j q2 x2 hr2 hx2 => ?_, ?_⟩
    · obtain ⟨P, hP, rfl⟩ := mapget hr2
      have ex := mem5 (List.mem_of_getElem? hx2)
      subst ex
      walk_at "xw"
      walk_at "xs"
      rcases (hP5 P (List.mem_of_getElem? hP)).2 with rfl | ⟨dd, rfl⟩
      · exact ⟨_, x, ls, false, rfl, idj, g, .inl ⟨_, x, lb, rfl, fun v H h => h, gb, bn.symm⟩, _, rfl, rfl, rfl⟩
      · exact ⟨_, x, ls, false, rfl, idj, g, .inr ⟨_, dd, rfl, fun v H h => h, rfl⟩, _, rfl, rfl, rfl⟩
    walk_at "xw"
    walk_at "xs"
    refine ⟨_, _, _, rfl, rfl, rfl, ⟨by decide, by decide, by decide⟩, ?_⟩
    walk_at "xs"
    refine ⟨_, _, _, rfl, rfl, hF, pF, ?_⟩
    walk_at "xs"
    refine lc_esO [.bool true, .bool true, .bool true, .bool true, .bool true] ?_
    walk_at "xs"
    refine ⟨fun P hP => (hP5 P hP).1, rfl, by exact Nat.le_of_ble_eq_true rfl, fun j q2 x2 hr2 hx2 => ?_, ?_⟩
    · obtain ⟨P, hP, rfl⟩ := mapget hr2
      have ex := mem5 (List.mem_of_getElem? hx2)
      subst ex
      walk_at "xw"
      walk_at "xs"
      rcases (hP5 P (List.mem_of_getElem? hP)).2 with rfl | ⟨dd, rfl⟩
      · exact ⟨_, x, ls, false, rfl, idj, g, .inl ⟨_, x, lb, rfl, fun v H h => h, gb, bn.symm⟩, _, rfl, rfl, rfl⟩
      · exact ⟨_, x, ls, false, rfl, idj, g, .inr ⟨_, dd, rfl, fun v H h => h, rfl⟩, _, rfl, rfl, rfl⟩
    walk_at "xw"
    walk_at "xs"
    refine ⟨_, _, _, rfl, rfl, rfl, ⟨by decide, by decide, by decide⟩, ?_⟩
    walk_at "xs"
    refine ⟨_, _, _, rfl, rfl, hM, pM, ?_⟩
    walk_at "xs"
    rfl
end
end Cs
set_option maxHeartbeats 4000000
/-! k53: the law -/
namespace Cs
open PySem L2 L2H PyProof.Rows
def SpLawW (K : PySem.W.Frag) : Sp := fun vs H Q _ => ∃ (a : Addr) (ns : List Int), vs = [.ref a] ∧ SqL K H a (ns.map V.int) ∧ ns.length ≤ 1000 ∧ ∀ H', Q (.bl true) H'
theorem sqS {K : PySem.W.Frag} {a : Addr} {H H' : Hp} {xs : List V} (h : SqL K H a xs) (e : Same H H') : SqL K H' a xs := by
  rcases h with (h | ⟨o, h⟩) | h
  · exact .inl (.inl (e _ _ h))
  · exact .inl (.inr ⟨o, e _ _ h⟩)
  · exact .inr h
theorem dl_call {p : Addr} {n : Nat} {H : Hp} {Q : VK} {E : XK} (hp : PailAt H p n) (k : ∀ H', ExB p H H' → Q (.bl true) H') : SpD true RRiW [.ref p] H Q E :=
  ⟨p, fun a => a = p, n, [.p], rfl, hp.lst, fun a e => .inl e, fun _ => hp, .cons rfl .nil, rfl, fun v H' af d => by
    cases d
    exact k H' af.1⟩
section
variable {P : Program} {w : World} {K : PySem.W.Frag} {mg : Str → Option Value} {base : Heap}
theorem sc_law : FnScope ["_law_script", "_law_k"] ["_law_script"] (defScope (topS 45)) := ⟨rfl, rfl, rfl, by decide +kernel, rfl, by decide +kernel, by decide +kernel⟩
theorem ok_law {f : Addr} {fd : FuncData} (F : FunD K "law" "law" (defArgs (topS 45)) (defBody (topS 45)) (defScope (topS 45)) [] [] f fd) (T : Txt mg)
    (c_law_right : CalG P w K mg base 12 "_law_right" (SpD true RRiW)) (c_law_well : C8.Cal P w K mg base 2 "_law_well" (SpWell K) []) : FnG P w K mg base 13 f fd ["_law_script"] (SpLawW K) := by
  obtain ⟨oc, od, dV, kV, doc, pm, an, cdv, ct, osl, rfl, lk, hcd, _, _⟩ := F.ex
  refine fn_ofG lk hcd sc_law (fun vs H Q E h => by obtain ⟨a, ns, rfl, _⟩ := h; rfl) fun A outer s H vs Q E hg hr h => ?_
  obtain ⟨a, ns, rfl, hq, hl, k⟩ := h
  have nd := sc_law.nd
  have hG : (A.deeper (envOfC "law" (defScope (topS 45)) s.heap.objs.size f cdv)).guards = some [] := hg
  refine ⟨_, PSs.nox (pss_one (ps_ret (pe_callB (cr_all rfl) (by rfl) T.all_ (by decide +kernel) (pa_cons (pe_lc (own := [("_law_k", 1)]) rfl nd (pi_range1 rfl T.range_ (pa_cons pe_int pa_nil)) (blkOk_by (N := ["_law_script", "_law_k"]) (sc := defScope (topS 45)) (by decide +kernel)) (fun _ _ _ _ _ => (pg_name (i := 1) nd rfl (.inl rfl))) (fun _ _ _ _ _ => pts_nil) (fun _ _ _ _ _ => (pe_cG2 c_law_right hG hr (by decide) rfl (pa_cons (C8.pe_c c_law_well hr (by decide) rfl (pa_cons (pv 0) (pa_cons (pv 1) pa_nil))) pa_nil)))) pa_nil)))), ?_⟩
  dsimp only [tRet, tCB, tCons]
  refine ⟨_, rfl, by decide, by decide, fun D hD => ?_⟩
  refine lc_range (fun i H' => H' D = some (.lst (List.replicate i (V.bl true))) ∧ Same H H') ⟨upd_same, same_new hD⟩ (fun i H' hi ⟨h1, h2⟩ => ?_) (fun H' ⟨h1, h2⟩ => ?_)
  · refine ⟨rfl, ?_⟩
    have hi2 : i < 2 := hi
    refine ⟨_, rfl, _, rfl, a, ns, i, by rw [Int.zero_add]; rfl, sqS hq h2, hl, by omega, fun p n H2 hp s2 hP => ?_⟩
    have nD : D ≠ p := ne_of_none h1 hp
    refine dl_call (E := fun _ _ _ => False) hP fun H3 e3 => ?_
    have hD3 : H3 D = some (.lst (List.replicate i (V.bl true))) := e3 _ _ nD (s2 _ _ h1)
    refine ⟨_, hD3, ?_, ?_, fun b o hb => ?_⟩
    · rw [List.length_replicate]
      exact Nat.lt_of_lt_of_le (by omega : i < 1000) (by decide)
    · rw [upd_same, List.replicate_succ']
    · have hb' := h2 b o hb
      rw [upd_ne (ne_of_none hb hD)]
      exact e3 _ _ (ne_of_none hb' hp) (s2 _ _ hb')
  · exact ⟨D, [true, true], rfl, SqL.of h1, k _⟩
end
end Cs
set_option maxHeartbeats 0
namespace Cs
open PySem PySem.Spec PyProof.Rows L2 LamX
def excCB (K : PySem.W.Frag) (D : Addr) : Bool := He.eqO (PySem.W.findIn K (.ref D) "__getattribute__") (some (some (.builtin "BaseException.__getattribute__"))) && (He.eqO (PySem.W.findIn K (.ref D) "__getattr__") (some none) &&
  (decide (PySem.W.subIn K (.ref D) (.type "BaseException") = some true) && (PySem.W.hasDictIn K D && (He.eqO (PySem.W.findIn K (.ref D) "__class__") (some (some (.builtin "object.__class__"))) &&
  (He.eqO (PySem.W.specialIn K (.builtin "object.__class__") "__get__") (some (some (.builtin "getset_descriptor.__get__"))) && (decide (PySem.W.takesIn K (.builtin "object.__class__") = some true) && decide (PySem.W.mroIn K D (.type "object") = some true)))))))
theorem excCB_ok {K : PySem.W.Frag} {D : Addr} (h : excCB K D = true) : ExcC K D := by
  obtain ⟨h1, h⟩ := Bool.and_eq_true_iff.mp h
  obtain ⟨h2, h⟩ := Bool.and_eq_true_iff.mp h
  obtain ⟨h3, h⟩ := Bool.and_eq_true_iff.mp h
  obtain ⟨h4, h⟩ := Bool.and_eq_true_iff.mp h
  obtain ⟨h5, h⟩ := Bool.and_eq_true_iff.mp h
  obtain ⟨h6, h⟩ := Bool.and_eq_true_iff.mp h
  obtain ⟨h7, h8⟩ := Bool.and_eq_true_iff.mp h
  exact ⟨He.eqO_ok h1, He.eqO_ok h2, of_decide_eq_true h3, h4, He.eqO_ok h5, He.eqO_ok h6, of_decide_eq_true h7, of_decide_eq_true h8⟩
def oexB1 (C : Addr) : Option Obj → Bool
  | some ⟨.type t, _, .cls cd, sl⟩ => decide (t = "type") && (match cd.mro, sl.toList with
    | .ref c :: bm, [_, _, _, _, some (.builtin n), _] => decide (c = C) && (PySem.HandSPX.refsVE bm && (decide (n = "ValueError.__new__") && (cd.hasDict && !cd.hasDel)))
    | _, _ => false)
  | _ => false
theorem oexB1_ok {C : Addr} {o : Option Obj} (h : oexB1 C o = true) : ∃ nm q N bs bm sn sub ab col dd k0 k1 k2 k3 k5, o = some (excClassObj nm q C N bs bm true sn sub ab col dd k0 k1 k2 k3 k5 "ValueError.__new__") ∧ PySem.HandSPX.refsVE bm = true := by
  unfold oexB1 at h
  split at h
  · rename_i t dd cd sl
    obtain ⟨ht, h⟩ := Bool.and_eq_true_iff.mp h
    split at h
    · rename_i c bm k0 k1 k2 k3 n k5 hm hs
      obtain ⟨hc, h⟩ := Bool.and_eq_true_iff.mp h
      obtain ⟨hr, h⟩ := Bool.and_eq_true_iff.mp h
      obtain ⟨hn, h⟩ := Bool.and_eq_true_iff.mp h
      obtain ⟨hd, hl⟩ := Bool.and_eq_true_iff.mp h
      obtain ⟨nm, bs, mro, N, q, hdct, sn, sub, ab, col, hdel⟩ := cd
      have gt := of_decide_eq_true ht
      have gc := of_decide_eq_true hc
      have gn := of_decide_eq_true hn
      have gm : mro = .ref c :: bm := hm
      have gd : hdct = true := hd
      have gl : hdel = false := by
        have z : (!hdel) = true := hl
        cases hdel with
        | false => rfl
        | true => cases z
      have hs2 : sl = #[k0, k1, k2, k3, some (.builtin n), k5] := by
        obtain ⟨l⟩ := sl
        have : l = _ := hs
        rw [this]
      clear hl hd hm ht hc hn hs
      subst gt gc gn gm gd gl hs2
      exact ⟨nm, q, N, bs, bm, sn, sub, ab, col, dd, k0, k1, k2, k3, k5, rfl, hr⟩
    · cases h
  · cases h
def oexB (K : PySem.W.Frag) (C : Addr) : Bool := oexB1 C (K.lookup C) && (He.eqO (PySem.W.findIn K (.ref C) "__setattr__") (some (some (.builtin "object.__setattr__"))) && (decide (PySem.W.subIn K (.ref C) (.type "BaseException") = some true) &&
  (decide (PySem.W.typeIn K (.ref C) = some (.type "type")) && PySem.W.keepIn K (.ref C))))
theorem oexB_ok {K : PySem.W.Frag} {C : Addr} (h : oexB K C = true) : OexC K C := by
  obtain ⟨h1, h⟩ := Bool.and_eq_true_iff.mp h
  obtain ⟨h2, h⟩ := Bool.and_eq_true_iff.mp h
  obtain ⟨h3, h⟩ := Bool.and_eq_true_iff.mp h
  obtain ⟨h4, h5⟩ := Bool.and_eq_true_iff.mp h
  exact ⟨oexB1_ok h1, He.eqO_ok h2, of_decide_eq_true h3, of_decide_eq_true h4, h5⟩
def oexGB (K : PySem.W.Frag) (C : Addr) (bmB : List Value) (newId : String) (f : Str) : Bool := PySem.W.excInitIn K C bmB newId && (PySem.W.excOver K C bmB && (He.eqO (PySem.W.findIn K (.ref C) "__setattr__") (some (some (.builtin "object.__setattr__"))) && (PySem.W.keepIn K (.ref C) &&
  (He.eqO (PySem.W.takerIn K C f) (some none) && (He.eqO (PySem.W.findIn K (.ref C) "__init__") (some (some (.ref (He.ma K C "__init__")))) && decide (PySem.W.typeIn K (.ref (He.ma K C "__init__")) = some (.type "function")))))))
def inB (K : PySem.W.Frag) (C : Addr) : Bool := He.eqO (PySem.W.findIn K (.ref C) "index") (some none) && (He.eqO (PySem.W.findIn K (.ref C) "__init__") (some (some (.ref (He.ma K C "__init__")))) && decide (PySem.W.typeIn K (.ref (He.ma K C "__init__")) = some (.type "function")))
def bmF (b : String) : List Value := [.type b, .type "Exception", .type "BaseException", .type "object"]
def rsB (K : PySem.W.Frag) (x : Str) (b nw : String) : Bool := oexGB K (He.ga K x) (bmF b) nw "given" && (PySem.W.hasDictIn K (He.ga K x) && (decide (PySem.W.subIn K (.ref (He.ga K x)) (.type "BaseException") = some true) && decide (PySem.W.typeIn K (.ref (He.ga K x)) = some (.type "type"))))
def tcB (K : PySem.W.Frag) (C : Addr) : Bool := He.eqO (PySem.W.findIn K (.ref C) "__class__") (some (some (.builtin "object.__class__"))) && (He.eqO (PySem.W.specialIn K (.builtin "object.__class__") "__get__") (some (some (.builtin "getset_descriptor.__get__"))) &&
  (decide (PySem.W.takesIn K (.builtin "object.__class__") = some true) && (decide (PySem.W.mroIn K C (.type "object") = some true) && decide (PySem.W.kitOne K (.ref C) (.ref C) = some true))))
/-- a property's getter -/
def pg (K : PySem.W.Frag) (C : Addr) (f : Str) : Addr := match PySem.W.recIn K (He.ma K C f) "property" with
  | some (.ref g :: _) => g
  | _ => 0
def prB (K : PySem.W.Frag) (C : Addr) (f : Str) : Bool := He.eqO (PySem.W.findIn K (.ref C) f) (some (some (.ref (He.ma K C f)))) && (He.eqO (PySem.W.specialIn K (.ref (He.ma K C f)) "__get__") (some (some (.builtin "property.__get__"))) &&
  (decide (PySem.W.takesIn K (.ref (He.ma K C f)) = some true) && (match PySem.W.recIn K (He.ma K C f) "property" with
  | some (.ref _ :: _) => true
  | _ => false)))
theorem prB_ok {K : PySem.W.Frag} {C : Addr} {f : Str} (h : prB K C f = true) : PropOf K C f (He.ma K C f) (pg K C f) := by
  obtain ⟨h1, h⟩ := Bool.and_eq_true_iff.mp h
  obtain ⟨h2, h⟩ := Bool.and_eq_true_iff.mp h
  obtain ⟨h3, h⟩ := Bool.and_eq_true_iff.mp h
  refine ⟨He.eqO_ok h1, He.eqO_ok h2, of_decide_eq_true h3, ?_⟩
  unfold pg
  split at h
  · rename_i g rest e
    rw [e]
    exact ⟨rest, rfl⟩
  · cases h
/-- what is read off a def at an address -/
def fnA (K : PySem.W.Frag) (a : Addr) : He.FnW := match K.lookup a with
  | some ⟨_, _, .func fd, _⟩ => some (fd.name, fd.qualname, fd.params, fd.body, fd.scope, fd.globals, fd.closure, fd.builtins)
  | _ => none
def okA (K : PySem.W.Frag) (a : Addr) (q : Str) : Bool := PySem.W.keepIn K (.ref a) && (match K.lookup a with
  | some ⟨_, _, .func fd, _⟩ => PySem.W.codeIn K fd.code q && (He.dflB K fd.defaults [] && He.kwdB K fd.kwdefaults [])
  | _ => false)
theorem funA {K : PySem.W.Frag} {a : Addr} {x q : Str} {st : Stmt} (e : fnA K a = some (x, q, defArgs st, .stmts (defBody st), defScope st, mainGlobals, [], builtinsNs)) (c : okA K a q = true) : ∃ fd, FunD K x q (defArgs st) (defBody st) (defScope st) [] [] a fd := by
  obtain ⟨kp, c2⟩ := Bool.and_eq_true_iff.mp c
  unfold fnA at e
  split at e
  · rename_i oc od fd osl lk
    rw [lk] at c2
    obtain ⟨n1, n2, n3, n4, n5, n6, n7, n8, n9, n10, n11, n12, n13, n14, n15⟩ := fd
    simp only [Option.some.injEq, Prod.mk.injEq] at e
    obtain ⟨rfl, rfl, rfl, rfl, rfl, rfl, rfl, rfl⟩ := e
    obtain ⟨k1, k2⟩ := Bool.and_eq_true_iff.mp c2
    obtain ⟨k3, k4⟩ := Bool.and_eq_true_iff.mp k2
    exact ⟨_, ⟨oc, od, n8, n9, n10, n11, n12, n13, n14, osl, rfl, lk, k1, He.dflB_ok k3, He.kwdB_ok k4⟩, kp⟩
  · cases e
def ex (K : PySem.W.Frag) : Bool := tcB K (He.ga K "Web") && (prB K (He.ga K "Web") "places" && (prB K (He.ga K "Web") "ties" && (prB K (He.ga K "Web") "text" && (okA K (pg K (He.ga K "Web") "places") "Web.places" && (okA K (pg K (He.ga K "Web") "ties") "Web.ties" && (okA K (pg K (He.ga K "Web") "text") "Web.text" && (He.eqO (PySem.W.findIn K (.ref (He.ga K "Web")) "__ne__") (some (some (.builtin "object.__ne__"))) && (He.eqO (PySem.W.findIn K (.ref (He.ga K "Web")) "__bool__") (some none) && (decide (PySem.W.subIn K (.ref (He.ga K "Web")) (.type "object") = some true) && (PySem.W.readsIn K (He.ga K "Web") (.type "type") && (He.eqO (PySem.W.specialIn K (.ref (He.ga K "Web")) "__getattribute__") (some (some (.builtin "type.__getattribute__"))) && (decide (PySem.W.kitOne K (.type "NoneType") (.ref (He.ga K "Web")) = some false) && (decide (PySem.W.kitOne K (.type "bool") (.ref (He.ga K "Web")) = some false) && (decide (PySem.W.kitOne K (.type "int") (.ref (He.ga K "Web")) = some false) && (decide (PySem.W.kitOne K (.type "str") (.ref (He.ga K "Web")) = some false) && (decide (PySem.W.kitOne K (.type "list") (.ref (He.ga K "Web")) = some false) && (decide (PySem.W.kitOne K (.type "tuple") (.ref (He.ga K "Web")) = some false) && (decide (PySem.W.kitOne K (.type "dict") (.ref (He.ga K "Web")) = some false) && (He5.wrapB K (He.ga K "Web") "classmethod" "classmethod.__get__" "told" && (PySem.W.fnIn K (He5.wf K (He.ga K "Web") "classmethod" "told") && (okA K (He5.wf K (He.ga K "Web") "classmethod" "told") "Web.told")))))))))))))))))))))
theorem ex_0 {K : PySem.W.Frag} (c : ex K = true) : (tcB K (He.ga K "Web")) = true := (Bool.and_eq_true_iff.mp c).1
theorem ex_1 {K : PySem.W.Frag} (c : ex K = true) : (prB K (He.ga K "Web") "places") = true := (Bool.and_eq_true_iff.mp (Bool.and_eq_true_iff.mp c).2).1
theorem ex_2 {K : PySem.W.Frag} (c : ex K = true) : (prB K (He.ga K "Web") "ties") = true := (Bool.and_eq_true_iff.mp (Bool.and_eq_true_iff.mp (Bool.and_eq_true_iff.mp c).2).2).1
theorem ex_3 {K : PySem.W.Frag} (c : ex K = true) : (prB K (He.ga K "Web") "text") = true := (Bool.and_eq_true_iff.mp (Bool.and_eq_true_iff.mp (Bool.and_eq_true_iff.mp (Bool.and_eq_true_iff.mp c).2).2).2).1
theorem ex_4 {K : PySem.W.Frag} (c : ex K = true) : (okA K (pg K (He.ga K "Web") "places") "Web.places") = true := (Bool.and_eq_true_iff.mp (Bool.and_eq_true_iff.mp (Bool.and_eq_true_iff.mp (Bool.and_eq_true_iff.mp (Bool.and_eq_true_iff.mp c).2).2).2).2).1
theorem ex_5 {K : PySem.W.Frag} (c : ex K = true) : (okA K (pg K (He.ga K "Web") "ties") "Web.ties") = true := (Bool.and_eq_true_iff.mp (Bool.and_eq_true_iff.mp (Bool.and_eq_true_iff.mp (Bool.and_eq_true_iff.mp (Bool.and_eq_true_iff.mp (Bool.and_eq_true_iff.mp c).2).2).2).2).2).1
theorem ex_6 {K : PySem.W.Frag} (c : ex K = true) : (okA K (pg K (He.ga K "Web") "text") "Web.text") = true := (Bool.and_eq_true_iff.mp (Bool.and_eq_true_iff.mp (Bool.and_eq_true_iff.mp (Bool.and_eq_true_iff.mp (Bool.and_eq_true_iff.mp (Bool.and_eq_true_iff.mp (Bool.and_eq_true_iff.mp c).2).2).2).2).2).2).1
theorem ex_7 {K : PySem.W.Frag} (c : ex K = true) : (He.eqO (PySem.W.findIn K (.ref (He.ga K "Web")) "__ne__") (some (some (.builtin "object.__ne__")))) = true := (Bool.and_eq_true_iff.mp (Bool.and_eq_true_iff.mp (Bool.and_eq_true_iff.mp (Bool.and_eq_true_iff.mp (Bool.and_eq_true_iff.mp (Bool.and_eq_true_iff.mp (Bool.and_eq_true_iff.mp (Bool.and_eq_true_iff.mp c).2).2).2).2).2).2).2).1
theorem ex_8 {K : PySem.W.Frag} (c : ex K = true) : (He.eqO (PySem.W.findIn K (.ref (He.ga K "Web")) "__bool__") (some none)) = true := (Bool.and_eq_true_iff.mp (Bool.and_eq_true_iff.mp (Bool.and_eq_true_iff.mp (Bool.and_eq_true_iff.mp (Bool.and_eq_true_iff.mp (Bool.and_eq_true_iff.mp (Bool.and_eq_true_iff.mp (Bool.and_eq_true_iff.mp (Bool.and_eq_true_iff.mp c).2).2).2).2).2).2).2).2).1
theorem ex_9 {K : PySem.W.Frag} (c : ex K = true) : (decide (PySem.W.subIn K (.ref (He.ga K "Web")) (.type "object") = some true)) = true := (Bool.and_eq_true_iff.mp (Bool.and_eq_true_iff.mp (Bool.and_eq_true_iff.mp (Bool.and_eq_true_iff.mp (Bool.and_eq_true_iff.mp (Bool.and_eq_true_iff.mp (Bool.and_eq_true_iff.mp (Bool.and_eq_true_iff.mp (Bool.and_eq_true_iff.mp (Bool.and_eq_true_iff.mp c).2).2).2).2).2).2).2).2).2).1
theorem ex_10 {K : PySem.W.Frag} (c : ex K = true) : (PySem.W.readsIn K (He.ga K "Web") (.type "type")) = true := (Bool.and_eq_true_iff.mp (Bool.and_eq_true_iff.mp (Bool.and_eq_true_iff.mp (Bool.and_eq_true_iff.mp (Bool.and_eq_true_iff.mp (Bool.and_eq_true_iff.mp (Bool.and_eq_true_iff.mp (Bool.and_eq_true_iff.mp (Bool.and_eq_true_iff.mp (Bool.and_eq_true_iff.mp (Bool.and_eq_true_iff.mp c).2).2).2).2).2).2).2).2).2).2).1
theorem ex_11 {K : PySem.W.Frag} (c : ex K = true) : (He.eqO (PySem.W.specialIn K (.ref (He.ga K "Web")) "__getattribute__") (some (some (.builtin "type.__getattribute__")))) = true := (Bool.and_eq_true_iff.mp (Bool.and_eq_true_iff.mp (Bool.and_eq_true_iff.mp (Bool.and_eq_true_iff.mp (Bool.and_eq_true_iff.mp (Bool.and_eq_true_iff.mp (Bool.and_eq_true_iff.mp (Bool.and_eq_true_iff.mp (Bool.and_eq_true_iff.mp (Bool.and_eq_true_iff.mp (Bool.and_eq_true_iff.mp (Bool.and_eq_true_iff.mp c).2).2).2).2).2).2).2).2).2).2).2).1
theorem ex_12 {K : PySem.W.Frag} (c : ex K = true) : (decide (PySem.W.kitOne K (.type "NoneType") (.ref (He.ga K "Web")) = some false)) = true := (Bool.and_eq_true_iff.mp (Bool.and_eq_true_iff.mp (Bool.and_eq_true_iff.mp (Bool.and_eq_true_iff.mp (Bool.and_eq_true_iff.mp (Bool.and_eq_true_iff.mp (Bool.and_eq_true_iff.mp (Bool.and_eq_true_iff.mp (Bool.and_eq_true_iff.mp (Bool.and_eq_true_iff.mp (Bool.and_eq_true_iff.mp (Bool.and_eq_true_iff.mp (Bool.and_eq_true_iff.mp c).2).2).2).2).2).2).2).2).2).2).2).2).1
theorem ex_13 {K : PySem.W.Frag} (c : ex K = true) : (decide (PySem.W.kitOne K (.type "bool") (.ref (He.ga K "Web")) = some false)) = true := (Bool.and_eq_true_iff.mp (Bool.and_eq_true_iff.mp (Bool.and_eq_true_iff.mp (Bool.and_eq_true_iff.mp (Bool.and_eq_true_iff.mp (Bool.and_eq_true_iff.mp (Bool.and_eq_true_iff.mp (Bool.and_eq_true_iff.mp (Bool.and_eq_true_iff.mp (Bool.and_eq_true_iff.mp (Bool.and_eq_true_iff.mp (Bool.and_eq_true_iff.mp (Bool.and_eq_true_iff.mp (Bool.and_eq_true_iff.mp c).2).2).2).2).2).2).2).2).2).2).2).2).2).1
theorem ex_14 {K : PySem.W.Frag} (c : ex K = true) : (decide (PySem.W.kitOne K (.type "int") (.ref (He.ga K "Web")) = some false)) = true := (Bool.and_eq_true_iff.mp (Bool.and_eq_true_iff.mp (Bool.and_eq_true_iff.mp (Bool.and_eq_true_iff.mp (Bool.and_eq_true_iff.mp (Bool.and_eq_true_iff.mp (Bool.and_eq_true_iff.mp (Bool.and_eq_true_iff.mp (Bool.and_eq_true_iff.mp (Bool.and_eq_true_iff.mp (Bool.and_eq_true_iff.mp (Bool.and_eq_true_iff.mp (Bool.and_eq_true_iff.mp (Bool.and_eq_true_iff.mp (Bool.and_eq_true_iff.mp c).2).2).2).2).2).2).2).2).2).2).2).2).2).2).1
theorem ex_15 {K : PySem.W.Frag} (c : ex K = true) : (decide (PySem.W.kitOne K (.type "str") (.ref (He.ga K "Web")) = some false)) = true := (Bool.and_eq_true_iff.mp (Bool.and_eq_true_iff.mp (Bool.and_eq_true_iff.mp (Bool.and_eq_true_iff.mp (Bool.and_eq_true_iff.mp (Bool.and_eq_true_iff.mp (Bool.and_eq_true_iff.mp (Bool.and_eq_true_iff.mp (Bool.and_eq_true_iff.mp (Bool.and_eq_true_iff.mp (Bool.and_eq_true_iff.mp (Bool.and_eq_true_iff.mp (Bool.and_eq_true_iff.mp (Bool.and_eq_true_iff.mp (Bool.and_eq_true_iff.mp (Bool.and_eq_true_iff.mp c).2).2).2).2).2).2).2).2).2).2).2).2).2).2).2).1
theorem ex_16 {K : PySem.W.Frag} (c : ex K = true) : (decide (PySem.W.kitOne K (.type "list") (.ref (He.ga K "Web")) = some false)) = true := (Bool.and_eq_true_iff.mp (Bool.and_eq_true_iff.mp (Bool.and_eq_true_iff.mp (Bool.and_eq_true_iff.mp (Bool.and_eq_true_iff.mp (Bool.and_eq_true_iff.mp (Bool.and_eq_true_iff.mp (Bool.and_eq_true_iff.mp (Bool.and_eq_true_iff.mp (Bool.and_eq_true_iff.mp (Bool.and_eq_true_iff.mp (Bool.and_eq_true_iff.mp (Bool.and_eq_true_iff.mp (Bool.and_eq_true_iff.mp (Bool.and_eq_true_iff.mp (Bool.and_eq_true_iff.mp (Bool.and_eq_true_iff.mp c).2).2).2).2).2).2).2).2).2).2).2).2).2).2).2).2).1
theorem ex_17 {K : PySem.W.Frag} (c : ex K = true) : (decide (PySem.W.kitOne K (.type "tuple") (.ref (He.ga K "Web")) = some false)) = true := (Bool.and_eq_true_iff.mp (Bool.and_eq_true_iff.mp (Bool.and_eq_true_iff.mp (Bool.and_eq_true_iff.mp (Bool.and_eq_true_iff.mp (Bool.and_eq_true_iff.mp (Bool.and_eq_true_iff.mp (Bool.and_eq_true_iff.mp (Bool.and_eq_true_iff.mp (Bool.and_eq_true_iff.mp (Bool.and_eq_true_iff.mp (Bool.and_eq_true_iff.mp (Bool.and_eq_true_iff.mp (Bool.and_eq_true_iff.mp (Bool.and_eq_true_iff.mp (Bool.and_eq_true_iff.mp (Bool.and_eq_true_iff.mp (Bool.and_eq_true_iff.mp c).2).2).2).2).2).2).2).2).2).2).2).2).2).2).2).2).2).1
theorem ex_18 {K : PySem.W.Frag} (c : ex K = true) : (decide (PySem.W.kitOne K (.type "dict") (.ref (He.ga K "Web")) = some false)) = true := (Bool.and_eq_true_iff.mp (Bool.and_eq_true_iff.mp (Bool.and_eq_true_iff.mp (Bool.and_eq_true_iff.mp (Bool.and_eq_true_iff.mp (Bool.and_eq_true_iff.mp (Bool.and_eq_true_iff.mp (Bool.and_eq_true_iff.mp (Bool.and_eq_true_iff.mp (Bool.and_eq_true_iff.mp (Bool.and_eq_true_iff.mp (Bool.and_eq_true_iff.mp (Bool.and_eq_true_iff.mp (Bool.and_eq_true_iff.mp (Bool.and_eq_true_iff.mp (Bool.and_eq_true_iff.mp (Bool.and_eq_true_iff.mp (Bool.and_eq_true_iff.mp (Bool.and_eq_true_iff.mp c).2).2).2).2).2).2).2).2).2).2).2).2).2).2).2).2).2).2).1
theorem ex_19 {K : PySem.W.Frag} (c : ex K = true) : (He5.wrapB K (He.ga K "Web") "classmethod" "classmethod.__get__" "told") = true := (Bool.and_eq_true_iff.mp (Bool.and_eq_true_iff.mp (Bool.and_eq_true_iff.mp (Bool.and_eq_true_iff.mp (Bool.and_eq_true_iff.mp (Bool.and_eq_true_iff.mp (Bool.and_eq_true_iff.mp (Bool.and_eq_true_iff.mp (Bool.and_eq_true_iff.mp (Bool.and_eq_true_iff.mp (Bool.and_eq_true_iff.mp (Bool.and_eq_true_iff.mp (Bool.and_eq_true_iff.mp (Bool.and_eq_true_iff.mp (Bool.and_eq_true_iff.mp (Bool.and_eq_true_iff.mp (Bool.and_eq_true_iff.mp (Bool.and_eq_true_iff.mp (Bool.and_eq_true_iff.mp (Bool.and_eq_true_iff.mp c).2).2).2).2).2).2).2).2).2).2).2).2).2).2).2).2).2).2).2).1
theorem ex_20 {K : PySem.W.Frag} (c : ex K = true) : (PySem.W.fnIn K (He5.wf K (He.ga K "Web") "classmethod" "told")) = true := (Bool.and_eq_true_iff.mp (Bool.and_eq_true_iff.mp (Bool.and_eq_true_iff.mp (Bool.and_eq_true_iff.mp (Bool.and_eq_true_iff.mp (Bool.and_eq_true_iff.mp (Bool.and_eq_true_iff.mp (Bool.and_eq_true_iff.mp (Bool.and_eq_true_iff.mp (Bool.and_eq_true_iff.mp (Bool.and_eq_true_iff.mp (Bool.and_eq_true_iff.mp (Bool.and_eq_true_iff.mp (Bool.and_eq_true_iff.mp (Bool.and_eq_true_iff.mp (Bool.and_eq_true_iff.mp (Bool.and_eq_true_iff.mp (Bool.and_eq_true_iff.mp (Bool.and_eq_true_iff.mp (Bool.and_eq_true_iff.mp (Bool.and_eq_true_iff.mp c).2).2).2).2).2).2).2).2).2).2).2).2).2).2).2).2).2).2).2).2).1
theorem ex_21 {K : PySem.W.Frag} (c : ex K = true) : (okA K (He5.wf K (He.ga K "Web") "classmethod" "told") "Web.told") = true := (Bool.and_eq_true_iff.mp (Bool.and_eq_true_iff.mp (Bool.and_eq_true_iff.mp (Bool.and_eq_true_iff.mp (Bool.and_eq_true_iff.mp (Bool.and_eq_true_iff.mp (Bool.and_eq_true_iff.mp (Bool.and_eq_true_iff.mp (Bool.and_eq_true_iff.mp (Bool.and_eq_true_iff.mp (Bool.and_eq_true_iff.mp (Bool.and_eq_true_iff.mp (Bool.and_eq_true_iff.mp (Bool.and_eq_true_iff.mp (Bool.and_eq_true_iff.mp (Bool.and_eq_true_iff.mp (Bool.and_eq_true_iff.mp (Bool.and_eq_true_iff.mp (Bool.and_eq_true_iff.mp (Bool.and_eq_true_iff.mp (Bool.and_eq_true_iff.mp c).2).2).2).2).2).2).2).2).2).2).2).2).2).2).2).2).2).2).2).2).2
def dd (x : Str) (i : Nat) : He.DefD := ⟨(x, none), x, x, defArgs (topS i), defBody (topS i), defScope (topS i), [], []⟩
def dm (C m q : Str) (st : Stmt) : He.DefD := ⟨(C, some m), m, q, defArgs st, defBody st, defScope st, [], []⟩
def fn0 : List He.DefD := [dd "is_integer" 11, dd "is_tuple_of" 12, dd "is_pair_of_integers" 13, dd "are_letters" 14, dd "ascends" 15, dd "is_one_of" 16, dd "is_stretch" 17, dd "integer_told" 18, dd "stretches_told" 19, dd "row_told" 20, dd "stretches_text" 21, dd "web_told" 28, dd "check_ties" 29, dd "check_joined" 30, dd "places_reached" 31, dd "tie_index" 32, dd "pairs_of" 33, dd "is_length" 34, dd "pair_of" 35, dd "_is_tie" 36]
def fn1 : List He.DefD := [dd "_is_beside" 37, dd "_law_well" 39, dd "_law_draw" 40, dd "_law_web" 41, dd "_law_stretch" 42, dd "_law_page" 43, dd "_law_right" 44, dd "law" 45, dm "Web" "__init__" "Web.__init__" (inClass (topS 27) 0), dm "Web" "__str__" "Web.__str__" (inClass (topS 27) 5), dm "Web" "__len__" "Web.__len__" (inClass (topS 27) 6), dm "Web" "__eq__" "Web.__eq__" (inClass (topS 27) 7), dm "Web" "stretch" "Web.stretch" (inClass (topS 27) 8)]
def fn : List He.DefD := fn0 ++ fn1
def fa0 : List He.Fa := [.glo "is_integer", .glo "is_tuple_of", .glo "is_pair_of_integers", .glo "are_letters", .glo "ascends", .glo "is_one_of", .glo "is_stretch", .glo "integer_told", .glo "stretches_told", .glo "row_told", .glo "stretches_text", .glo "web_told", .glo "check_ties", .glo "check_joined", .glo "places_reached", .glo "tie_index", .glo "pairs_of", .glo "is_length", .glo "pair_of", .glo "_is_tie"]
def fa1 : List He.Fa := [.glo "_is_beside", .glo "_law_well", .glo "_law_draw", .glo "_law_web", .glo "_law_stretch", .glo "_law_page", .glo "_law_right", .glo "law", .glo "Web", .free "len", .free "isinstance", .free "int", .free "str", .free "bool", .free "tuple", .free "list", .free "all", .free "abs", .free "divmod", .free "range"]
def fa2 : List He.Fa := [.free "enumerate", .free "repr", .free "zip", .free "any", .free "sorted", .int "MOST_PLACES" 6, .int "MOST_TIES" 10, .int "MOST_LENGTH" 1000, .int "_LEAST_PLACES" 2, .int "_MOST_DIGITS" 6, .mkr "Web", .cls "Web", .noat "Web" "_places", .noat "Web" "_ties", .meth "Web" "__str__", .meth "Web" "__len__", .meth "Web" "__eq__", .meth "Web" "stretch"]
def fa : List He.Fa := fa0 ++ fa1 ++ fa2
def loose0 : List Str := ["_wall", "WrongValue", "InvalidText", "InvalidPlaces", "InvalidTie", "InvalidTies", "NotPossible", "NotJoined", "_MOST_DIGITS", "is_integer", "is_tuple_of", "is_pair_of_integers", "are_letters", "ascends", "is_one_of", "is_stretch", "integer_told", "stretches_told", "row_told", "stretches_text"]
def loose1 : List Str := ["MOST_PLACES", "MOST_TIES", "MOST_LENGTH", "_LEAST_PLACES", "Web", "web_told", "check_ties", "check_joined", "places_reached", "tie_index", "pairs_of", "is_length", "pair_of", "_is_tie", "_is_beside", "_law_well", "_law_draw", "_law_web", "_law_stretch", "_law_page"]
def loose2 : List Str := ["_law_right"]
def loose : List Str := loose0 ++ loose1 ++ loose2
def gv (x q : Str) (st : Stmt) : He.FnW := some (x, q, defArgs st, .stmts (defBody st), defScope st, mainGlobals, [], builtinsNs)
def gl : List He.FnW := [gv "places" "Web.places" (inClass (topS 27) 2), gv "ties" "Web.ties" (inClass (topS 27) 3), gv "text" "Web.text" (inClass (topS 27) 4), gv "told" "Web.told" (inClass (topS 27) 1)]
def glK (K : PySem.W.Frag) : List He.FnW := [fnA K (pg K (He.ga K "Web") "places"), fnA K (pg K (He.ga K "Web") "ties"), fnA K (pg K (He.ga K "Web") "text"), fnA K (He5.wf K (He.ga K "Web") "classmethod" "told")]
abbrev R : PySem.W.OpenRow := PySem.W.OpenLaw.row PySem.Challenge.rw_cornersure_k53_whole_webs_made_and_told
abbrev AlG : Type := He.AlD × Bool × List He.FnW
def frS (g : Addr → Option Obj) : PySem.W.Frag := He.frT g (He.asD g 5) ++ He.frG g [cStatics]
theorem frS_in {h : Heap} : (frS h.get?).In h := fun a o e => by
  unfold frS at e
  rw [List.lookup_append] at e
  cases q : (He.frT h.get? (He.asD h.get? 5)).lookup a with
  | some o' =>
    rw [q] at e
    cases e
    exact He.frT_in _ _ q
  | none =>
    rw [q] at e
    exact He.frG_in (as := [cStatics]) _ _ e
def obK (K : PySem.W.Frag) : AlG := (He.obsD fa fn K, ex K, glK K)
def obG (g : Addr → Option Obj) : AlG := obK (frS g)
abbrev hk : PySem.W.Hook where
  α := AlG
  obs := fun s => obG s.heap.get?
  val := fun w => (He.valD fn, true, gl)
  says := fun w h => ∃ K : PySem.W.Frag, K.In h ∧ He.SaysD fa fn K ∧ ex K = true ∧ glK K = gl
  of := fun w s e => ⟨_, frS_in, congrArg (fun z : AlG => z.1) e, congrArg (fun z : AlG => z.2.1) e, congrArg (fun z : AlG => z.2.2) e⟩
  keeps := fun _ _ _ ⟨K, hK, c⟩ k => ⟨K, PySem.W.Frag.In.keeps hK k, c⟩
def ob (s : PySem.W.SharedT) : AlG := obG (HandSHeadRun.getT s)
theorem ob_eq (s : PySem.W.SharedT) : ob s = hk.obs s.abs := congrArg obG (funext (HandSHeadRun.getT_eq s))
theorem run (w : World) : HandSHeadRun.RunEq R (PySem.W.view R.prog [45]) hk ob 9000 loose w := by
  intro os
  kernel_rfl
end Cs
set_option maxHeartbeats 4000000
/-! Errors held as values: made with nothing, asked for their class, read. -/
namespace Cs
open PySem L2 PyProof.Rows
open PySem.W (InstAt)
/-- an error of the class C at a; what it keeps is told by fs, if it keeps anything -/
def ErrAt (H : Hp) (a C : Addr) (fs : List (Str × V)) : Prop := (fs = [] ∧ H a = some (exo a C none)) ∨ ∃ d, H a = some (exo a C (some d)) ∧ H d = some (exd d fs)
theorem ErrAt.keep {H H' : Hp} {a C : Addr} {fs : List (Str × V)} (h : ErrAt H a C fs) (s : Same H H') : ErrAt H' a C fs := by
  rcases h with ⟨e, h⟩ | ⟨d, h1, h2⟩
  · exact .inl ⟨e, s _ _ h⟩
  · exact .inr ⟨d, s _ _ h1, s _ _ h2⟩
section
variable {X : Cx} {C : Addr} {bmB : List Value} {B newId initId : String} {p pos : Pos} {x : Str}
def tMk0 (C : Addr) : TE := fun _ H Q => ∀ a H', H a = none → Same H H' → H' a = some (exo a C none) → Q (.ref a) H'
/-- C(), no __init__ of its own -/
theorem mk_none (FB : ExcBaseFacts B newId initId bmB) (q : PySem.W.excIn X.K C bmB newId = true) (g : X.mg x = some (.ref C)) (kC : PySem.W.keepIn X.K (.ref C) = true) (hg : Gl X x) (hdb : (x == ("__debug__" : Str)) = false := by rfl) : PE X (.Call (.Name x p) [] [] pos) (tMk0 C) := by
  refine ⟨fun pins s σ H Q I h => wpAny_Call_Name_kw (ld_glob I hg g (PySem.W.callWith_K0 I.kIn kC ?_) hdb)⟩
  obtain ⟨bm, N, nm, qn, bs, hdct, sn, sub, ab, col, dd, k0, k1, k2, k3, k5, mN, hC, hN, hni, T⟩ := exc_obj I.kIn q
  obtain ⟨hp, gg, d, t, os⟩ := s
  refine wpAny_call_exc_subT FB T hC hN hni (fun h' a hm => ?_) (by show 0 ≤ sizeLine; decide)
  have hn : H a = none := I.hok.gone hm.new
  obtain ⟨t2, ht, _, _⟩ := hm.there
  exact ⟨.ref a, upd H a (exo a C none), I.laidN hm.keeps hm.new hn (exo_ok ht), rfl, h a _ hn (same_new hn) upd_same⟩
/-- an error, as an instance -/
theorem ErrAt.inst {pins : List (Addr × Obj)} {σ : L2.St} {H : Hp} {s : Shared} {a : Addr} {fs : List (Str × V)} (h : ErrAt H a C fs) (I : L2.Inv X pins σ H s) : ∃ ox, InstAt s.heap a ox C none ∨ ∃ od, InstAt s.heap a ox C (some od) ∧ ∀ f v, fs.lookup f = some v → ∃ u, PySem.W.lookIn f od = some (some u) ∧ RelV v u := by
  rcases h with ⟨e, h⟩ | ⟨d, h1, h2⟩
  · obtain ⟨t, ho⟩ := exo_at I.hok h
    exact ⟨_, .inl ⟨ho, rfl, rfl, trivial⟩⟩
  · obtain ⟨t, ho⟩ := exo_at I.hok h1
    obtain ⟨mA, hns, rel⟩ := exd_at I.hok h2
    obtain ⟨od, hod, hl⟩ := lookIn_ns hns
    refine ⟨_, .inr ⟨od, ⟨ho, rfl, rfl, hod⟩, fun f v hf => ?_⟩⟩
    have r := rel f
    rw [hf] at r
    obtain ⟨u, e, ru⟩ := RelO.some_of r
    exact ⟨u, by rw [hl f, e], ru⟩
def rIsV (K : PySem.W.Frag) : List V → Hp → VK → Prop := fun xs H Q => ∃ (a C : Addr) (fs : List (Str × V)) (c : V) (cv : Value) (b : Bool), xs = [.ref a, c] ∧ ClsV c cv ∧ ErrAt H a C fs ∧ ExcC K C ∧ PySem.W.kitOne K (.ref C) cv = some b ∧ Q (.bl b) H
/-- isinstance of an error -/
theorem call_isV : CallR X (.builtin "isinstance") (rIsV X.K) := by
  rintro pins s σ H xs us Q I r ⟨a, C, fs, c, cv, b, rfl, hc, he, T, e, q⟩
  obtain ⟨u1, u2, rfl, r1, r2⟩ := vals2 r
  obtain rfl := hc.eq r2
  cases r1
  obtain ⟨ox, i | ⟨od, i, _⟩⟩ := he.inst I
  · exact PySem.W.kia_one (PySem.W.handS_kitx_exc T.hg T.hk T.hs T.hd T.ha T.hn T.ht T.hm) I.kIn i e (by intro z; cases z) fun tk => ⟨.bl b, H, I.tok tk, rfl, q⟩
  · exact PySem.W.kia_one (cs_kitx T) I.kIn i e (by intro z; cases z) fun tk => ⟨.bl b, H, I.tok tk, rfl, q⟩
def tFldV (K : PySem.W.Frag) (f : Str) (te : TE) : TE := fun σ H Q => te σ H fun x H1 => ∃ (a C d : Addr) (fs : List (Str × V)) (v : V), x = .ref a ∧ H1 a = some (exo a C (some d)) ∧ H1 d = some (exd d fs) ∧ XfC K C ∧ PySem.W.findIn K (.ref C) f = some none ∧ fs.lookup f = some v ∧ Q v H1
/-- e.f of an error -/
theorem pe_fldV {e : Expr} {te : TE} {n : Str} (he : PE X e te) (hb : attributeBase e n X.env (eval e X.env) = eval e X.env := by rfl) : PE X (.Attribute e n pos) (tFldV X.K n te) := by
  refine ⟨fun pins s σ H Q I h => attr_of hb (thn (he.run pins s σ H _ I h) ?_)⟩
  rintro u s1 ⟨x, H1, I1, rx, a, C, d, fs, v, rfl, h1, h2, T, hno, hf, q⟩
  cases rx
  obtain ⟨t, ho⟩ := exo_at I1.hok h1
  obtain ⟨mA, hns, rel⟩ := exd_at I1.hok h2
  obtain ⟨od, hod, hl⟩ := lookIn_ns hns
  have r := rel n
  rw [hf] at r
  obtain ⟨w2, e2, ru⟩ := RelO.some_of r
  exact PySem.HandSPX.exc_get I1.kIn (ox := rawX C t (some d)) ⟨ho, rfl, rfl, hod⟩ T.ga T.gg T.exC (PySem.W.findObj_own T.hdC hno rfl (by rw [hl n, e2])) (handed_of ru) ⟨v, H1, I1.tok _, ru, q⟩
end
/-- __init__ of an error that keeps one thing under the name f -/
theorem ok_xi {P : Program} {w : World} {K : PySem.W.Frag} {mg : Str → Option Value} {base : Heap} {C fI : Addr} {fd : FuncData} {q f : Str} {pr : Arguments} {sc : Scope} {p1 p2 p3 p4 : Pos} {bmB : List Value} {B newId : String} (SF : StoreFacts B bmB "object.__setattr__" "object") (T : OexG K C bmB newId)
    (ht : PySem.W.takerIn K C f = some none) (S : FnScope ["self", f] ["self", f] sc) (hv : Vis sc "self") (hv2 : Vis sc f) (d1 : (f == ("__debug__" : Str)) = false) (d2 : (f == ("__classdict__" : Str)) = false)
    (F : FunD K "__init__" q pr [.Assign [.Attribute (.Name "self" p1) f p2] (.Name f p3) p4] sc [] [] fI fd) : FnOk P w K mg base CX0 1 fI fd ["self", f] (SpXI C f) := by
  refine F.ok S (fun vs H Q E h => by obtain ⟨a, y, rfl, _⟩ := h; rfl) fun cdv A outer s H vs Q E hr h => ?_
  obtain ⟨a, y, rfl, ha, k⟩ := h
  refine ⟨_, PSs.nox (pss_one (ps_osG SF T ht (pe_var (i := 0) rfl hv) (pe_var (i := 1) rfl hv2 d1 d2))), ?_⟩
  exact ⟨_, rfl, _, rfl, a, rfl, ha, fun dx h1 h2 => k dx h1 h2⟩
end Cs
set_option maxHeartbeats 0
namespace Cs
open PySem PySem.Spec PyProof.Rows L2 LamX
section
variable {P : Program} {w : World} {K : PySem.W.Frag} {h h0 : Heap} {mg : Str → Option Value}
theorem T_ok (X : K.In h) (G : h.Ns mainGlobals mg) (c : He.SaysD fa fn K) : Txt mg := ⟨He.free_ok X G (c.fact 29 rfl), He.free_ok X G (c.fact 30 rfl), He.free_ok X G (c.fact 31 rfl), He.free_ok X G (c.fact 32 rfl), He.free_ok X G (c.fact 33 rfl), He.free_ok X G (c.fact 34 rfl), He.free_ok X G (c.fact 35 rfl), He.free_ok X G (c.fact 36 rfl), He.free_ok X G (c.fact 37 rfl), He.free_ok X G (c.fact 38 rfl), He.free_ok X G (c.fact 39 rfl), He.free_ok X G (c.fact 40 rfl), He.free_ok X G (c.fact 41 rfl)⟩
theorem TW_ok (X : K.In h) (G : h.Ns mainGlobals mg) (c : He.SaysD fa fn K) : TxtWeb mg := ⟨He.free_ok X G (c.fact 42 rfl), He.free_ok X G (c.fact 43 rfl), He.free_ok X G (c.fact 44 rfl), (by obtain ⟨t, e⟩ := He.int_ok X G (c.fact 45 rfl); exact ⟨_, e, _, rfl⟩), (by obtain ⟨t, e⟩ := He.int_ok X G (c.fact 46 rfl); exact ⟨_, e, _, rfl⟩), (by obtain ⟨t, e⟩ := He.int_ok X G (c.fact 47 rfl); exact ⟨_, e, _, rfl⟩), (by obtain ⟨t, e⟩ := He.int_ok X G (c.fact 48 rfl); exact ⟨_, e, _, rfl⟩)⟩
theorem tabG_ok (X : K.In h) (G : h.Ns mainGlobals mg) (c : He.SaysD fa fn K) : WebG mg (He.ga K "Web") := ⟨⟨_, He.glo_ok X G (c.fact 28 rfl), rfl⟩⟩
theorem tabC_ok (c : He.SaysD fa fn K) (ce : ex K = true) : WebC K (He.ga K "Web") := by
  have z := ex_0 ce
  obtain ⟨z1, z⟩ := Bool.and_eq_true_iff.mp z
  obtain ⟨z2, z⟩ := Bool.and_eq_true_iff.mp z
  obtain ⟨z3, z⟩ := Bool.and_eq_true_iff.mp z
  obtain ⟨z4, z5⟩ := Bool.and_eq_true_iff.mp z
  exact ⟨He.cls_ok (c.fact 51 rfl), He.noat_ok (c.fact 52 rfl), He.noat_ok (c.fact 53 rfl), He.eqO_ok z1, He.eqO_ok z2, of_decide_eq_true z3, of_decide_eq_true z4, of_decide_eq_true z5⟩
theorem at_is_integer (X : K.In h) (G : h.Ns mainGlobals mg) (c : He.SaysD fa fn K) : DefAt K mg "is_integer" (topS 11) ["value"] := by
  obtain ⟨fd, F⟩ := c.def_ 0 rfl
  exact ⟨_, fd, F, He.glo_ok X G (c.fact 0 rfl), FunD.bindsN F (fun _ _ _ _ _ _ us hl => match us, hl with | [_], _ => rfl)⟩
theorem at_is_tuple_of (X : K.In h) (G : h.Ns mainGlobals mg) (c : He.SaysD fa fn K) : DefAt K mg "is_tuple_of" (topS 12) ["value", "many"] := by
  obtain ⟨fd, F⟩ := c.def_ 1 rfl
  exact ⟨_, fd, F, He.glo_ok X G (c.fact 1 rfl), FunD.bindsN F (fun _ _ _ _ _ _ us hl => match us, hl with | [_, _], _ => rfl)⟩
theorem at_is_pair_of_integers (X : K.In h) (G : h.Ns mainGlobals mg) (c : He.SaysD fa fn K) : DefAt K mg "is_pair_of_integers" (topS 13) ["value"] := by
  obtain ⟨fd, F⟩ := c.def_ 2 rfl
  exact ⟨_, fd, F, He.glo_ok X G (c.fact 2 rfl), FunD.bindsN F (fun _ _ _ _ _ _ us hl => match us, hl with | [_], _ => rfl)⟩
theorem at_are_letters (X : K.In h) (G : h.Ns mainGlobals mg) (c : He.SaysD fa fn K) : DefAt K mg "are_letters" (topS 14) ["value", "least", "most"] := by
  obtain ⟨fd, F⟩ := c.def_ 3 rfl
  exact ⟨_, fd, F, He.glo_ok X G (c.fact 3 rfl), FunD.bindsN F (fun _ _ _ _ _ _ us hl => match us, hl with | [_, _, _], _ => rfl)⟩
theorem at_ascends (X : K.In h) (G : h.Ns mainGlobals mg) (c : He.SaysD fa fn K) : DefAt K mg "ascends" (topS 15) ["values"] := by
  obtain ⟨fd, F⟩ := c.def_ 4 rfl
  exact ⟨_, fd, F, He.glo_ok X G (c.fact 4 rfl), FunD.bindsN F (fun _ _ _ _ _ _ us hl => match us, hl with | [_], _ => rfl)⟩
theorem at_is_one_of (X : K.In h) (G : h.Ns mainGlobals mg) (c : He.SaysD fa fn K) : DefAt K mg "is_one_of" (topS 16) ["value", "names"] := by
  obtain ⟨fd, F⟩ := c.def_ 5 rfl
  exact ⟨_, fd, F, He.glo_ok X G (c.fact 5 rfl), FunD.bindsN F (fun _ _ _ _ _ _ us hl => match us, hl with | [_, _], _ => rfl)⟩
theorem at_is_stretch (X : K.In h) (G : h.Ns mainGlobals mg) (c : He.SaysD fa fn K) : DefAt K mg "is_stretch" (topS 17) ["value", "least", "most"] := by
  obtain ⟨fd, F⟩ := c.def_ 6 rfl
  exact ⟨_, fd, F, He.glo_ok X G (c.fact 6 rfl), FunD.bindsN F (fun _ _ _ _ _ _ us hl => match us, hl with | [_, _, _], _ => rfl)⟩
theorem at_integer_told (X : K.In h) (G : h.Ns mainGlobals mg) (c : He.SaysD fa fn K) : DefAt K mg "integer_told" (topS 18) ["word"] := by
  obtain ⟨fd, F⟩ := c.def_ 7 rfl
  exact ⟨_, fd, F, He.glo_ok X G (c.fact 7 rfl), FunD.bindsN F (fun _ _ _ _ _ _ us hl => match us, hl with | [_], _ => rfl)⟩
theorem at_stretches_told (X : K.In h) (G : h.Ns mainGlobals mg) (c : He.SaysD fa fn K) : DefAt K mg "stretches_told" (topS 19) ["words"] := by
  obtain ⟨fd, F⟩ := c.def_ 8 rfl
  exact ⟨_, fd, F, He.glo_ok X G (c.fact 8 rfl), FunD.bindsN F (fun _ _ _ _ _ _ us hl => match us, hl with | [_], _ => rfl)⟩
theorem at_row_told (X : K.In h) (G : h.Ns mainGlobals mg) (c : He.SaysD fa fn K) : DefAt K mg "row_told" (topS 20) ["line", "many"] := by
  obtain ⟨fd, F⟩ := c.def_ 9 rfl
  exact ⟨_, fd, F, He.glo_ok X G (c.fact 9 rfl), FunD.bindsN F (fun _ _ _ _ _ _ us hl => match us, hl with | [_, _], _ => rfl)⟩
theorem at_stretches_text (X : K.In h) (G : h.Ns mainGlobals mg) (c : He.SaysD fa fn K) : DefAt K mg "stretches_text" (topS 21) ["stretches"] := by
  obtain ⟨fd, F⟩ := c.def_ 10 rfl
  exact ⟨_, fd, F, He.glo_ok X G (c.fact 10 rfl), FunD.bindsN F (fun _ _ _ _ _ _ us hl => match us, hl with | [_], _ => rfl)⟩
theorem at_web_told (X : K.In h) (G : h.Ns mainGlobals mg) (c : He.SaysD fa fn K) : DefAt K mg "web_told" (topS 28) ["text"] := by
  obtain ⟨fd, F⟩ := c.def_ 11 rfl
  exact ⟨_, fd, F, He.glo_ok X G (c.fact 11 rfl), FunD.bindsN F (fun _ _ _ _ _ _ us hl => match us, hl with | [_], _ => rfl)⟩
theorem at_check_ties (X : K.In h) (G : h.Ns mainGlobals mg) (c : He.SaysD fa fn K) : DefAt K mg "check_ties" (topS 29) ["places", "ties"] := by
  obtain ⟨fd, F⟩ := c.def_ 12 rfl
  exact ⟨_, fd, F, He.glo_ok X G (c.fact 12 rfl), FunD.bindsN F (fun _ _ _ _ _ _ us hl => match us, hl with | [_, _], _ => rfl)⟩
theorem at_check_joined (X : K.In h) (G : h.Ns mainGlobals mg) (c : He.SaysD fa fn K) : DefAt K mg "check_joined" (topS 30) ["places", "ties"] := by
  obtain ⟨fd, F⟩ := c.def_ 13 rfl
  exact ⟨_, fd, F, He.glo_ok X G (c.fact 13 rfl), FunD.bindsN F (fun _ _ _ _ _ _ us hl => match us, hl with | [_, _], _ => rfl)⟩
theorem at_places_reached (X : K.In h) (G : h.Ns mainGlobals mg) (c : He.SaysD fa fn K) : DefAt K mg "places_reached" (topS 31) ["places", "pairs"] := by
  obtain ⟨fd, F⟩ := c.def_ 14 rfl
  exact ⟨_, fd, F, He.glo_ok X G (c.fact 14 rfl), FunD.bindsN F (fun _ _ _ _ _ _ us hl => match us, hl with | [_, _], _ => rfl)⟩
theorem at_tie_index (X : K.In h) (G : h.Ns mainGlobals mg) (c : He.SaysD fa fn K) : DefAt K mg "tie_index" (topS 32) ["web", "pair"] := by
  obtain ⟨fd, F⟩ := c.def_ 15 rfl
  exact ⟨_, fd, F, He.glo_ok X G (c.fact 15 rfl), FunD.bindsN F (fun _ _ _ _ _ _ us hl => match us, hl with | [_, _], _ => rfl)⟩
theorem at_pairs_of (X : K.In h) (G : h.Ns mainGlobals mg) (c : He.SaysD fa fn K) : DefAt K mg "pairs_of" (topS 33) ["web"] := by
  obtain ⟨fd, F⟩ := c.def_ 16 rfl
  exact ⟨_, fd, F, He.glo_ok X G (c.fact 16 rfl), FunD.bindsN F (fun _ _ _ _ _ _ us hl => match us, hl with | [_], _ => rfl)⟩
theorem at_is_length (X : K.In h) (G : h.Ns mainGlobals mg) (c : He.SaysD fa fn K) : DefAt K mg "is_length" (topS 34) ["value"] := by
  obtain ⟨fd, F⟩ := c.def_ 17 rfl
  exact ⟨_, fd, F, He.glo_ok X G (c.fact 17 rfl), FunD.bindsN F (fun _ _ _ _ _ _ us hl => match us, hl with | [_], _ => rfl)⟩
theorem at_pair_of (X : K.In h) (G : h.Ns mainGlobals mg) (c : He.SaysD fa fn K) : DefAt K mg "pair_of" (topS 35) ["place", "other"] := by
  obtain ⟨fd, F⟩ := c.def_ 18 rfl
  exact ⟨_, fd, F, He.glo_ok X G (c.fact 18 rfl), FunD.bindsN F (fun _ _ _ _ _ _ us hl => match us, hl with | [_, _], _ => rfl)⟩
theorem at__is_tie (X : K.In h) (G : h.Ns mainGlobals mg) (c : He.SaysD fa fn K) : DefAt K mg "_is_tie" (topS 36) ["places", "value"] := by
  obtain ⟨fd, F⟩ := c.def_ 19 rfl
  exact ⟨_, fd, F, He.glo_ok X G (c.fact 19 rfl), FunD.bindsN F (fun _ _ _ _ _ _ us hl => match us, hl with | [_, _], _ => rfl)⟩
theorem at__is_beside (X : K.In h) (G : h.Ns mainGlobals mg) (c : He.SaysD fa fn K) : DefAt K mg "_is_beside" (topS 37) ["place", "reached", "pairs"] := by
  obtain ⟨fd, F⟩ := c.def_ 20 rfl
  exact ⟨_, fd, F, He.glo_ok X G (c.fact 20 rfl), FunD.bindsN F (fun _ _ _ _ _ _ us hl => match us, hl with | [_, _, _], _ => rfl)⟩
theorem at__law_well (X : K.In h) (G : h.Ns mainGlobals mg) (c : He.SaysD fa fn K) : DefAt K mg "_law_well" (topS 39) ["_law_script", "_law_k"] := by
  obtain ⟨fd, F⟩ := c.def_ 21 rfl
  exact ⟨_, fd, F, He.glo_ok X G (c.fact 21 rfl), FunD.bindsN F (fun _ _ _ _ _ _ us hl => match us, hl with | [_, _], _ => rfl)⟩
theorem at__law_draw (X : K.In h) (G : h.Ns mainGlobals mg) (c : He.SaysD fa fn K) : DefAt K mg "_law_draw" (topS 40) ["_law_well_here", "_law_many"] := by
  obtain ⟨fd, F⟩ := c.def_ 22 rfl
  exact ⟨_, fd, F, He.glo_ok X G (c.fact 22 rfl), FunD.bindsN F (fun _ _ _ _ _ _ us hl => match us, hl with | [_, _], _ => rfl)⟩
theorem at__law_web (X : K.In h) (G : h.Ns mainGlobals mg) (c : He.SaysD fa fn K) : DefAt K mg "_law_web" (topS 41) ["_law_well_here", "_law_most", "_law_cap"] := by
  obtain ⟨fd, F⟩ := c.def_ 23 rfl
  exact ⟨_, fd, F, He.glo_ok X G (c.fact 23 rfl), FunD.bindsN F (fun _ _ _ _ _ _ us hl => match us, hl with | [_, _, _], _ => rfl)⟩
theorem at__law_stretch (X : K.In h) (G : h.Ns mainGlobals mg) (c : He.SaysD fa fn K) : DefAt K mg "_law_stretch" (topS 42) ["_law_well_here"] := by
  obtain ⟨fd, F⟩ := c.def_ 24 rfl
  exact ⟨_, fd, F, He.glo_ok X G (c.fact 24 rfl), FunD.bindsN F (fun _ _ _ _ _ _ us hl => match us, hl with | [_], _ => rfl)⟩
theorem at__law_page (X : K.In h) (G : h.Ns mainGlobals mg) (c : He.SaysD fa fn K) : DefAt K mg "_law_page" (topS 43) ["_law_spots", "_law_links"] := by
  obtain ⟨fd, F⟩ := c.def_ 25 rfl
  exact ⟨_, fd, F, He.glo_ok X G (c.fact 25 rfl), FunD.bindsN F (fun _ _ _ _ _ _ us hl => match us, hl with | [_, _], _ => rfl)⟩
theorem at__law_right (X : K.In h) (G : h.Ns mainGlobals mg) (c : He.SaysD fa fn K) : DefAt K mg "_law_right" (topS 44) ["_law_well_here"] := by
  obtain ⟨fd, F⟩ := c.def_ 26 rfl
  exact ⟨_, fd, F, He.glo_ok X G (c.fact 26 rfl), FunD.bindsN F (fun _ _ _ _ _ _ us hl => match us, hl with | [_], _ => rfl)⟩
theorem tab_ok (X : K.In h) (G : h.Ns mainGlobals mg) (c : He.SaysD fa fn K) : ∃ fd, WebAt K mg (He.ga K "Web") (He.fAd K ("Web", some "__init__")) fd := by
  obtain ⟨fd, F⟩ := c.def_ 28 rfl
  refine ⟨fd, He.mkr_ok (c.fact 50 rfl), He.glo_ok X G (c.fact 28 rfl), ⟨_, F⟩, FunD.bindsN F (fun _ _ _ _ _ _ us hl => match us, hl with | [_, _, _], _ => rfl), ?_⟩
  obtain ⟨oc, od, dV, kV, doc, pm, an, cdv, ct, osl, rfl, lk, hcd, hD, hK⟩ := F.ex
  rcases hD with ⟨_, rfl⟩ | ⟨e, _⟩
  · refine ⟨fun s us ws X l1 l2 => ?_, fun r1 r2 => r1.append (vals_rev r2)⟩
    match us, l1, ws, l2 with
    | [_], _, [_, _], _ => exact .of_eq rfl
  · exact absurd rfl e
theorem law_at (X : K.In h) (G : h.Ns mainGlobals mg) (c : He.SaysD fa fn K) (ce : ex K = true) (hgl : glK K = gl) : LawAtG PySem.Challenge.rw_cornersure_k53_whole_webs_made_and_told w K 13 63 "_law_script" mg h := by
  obtain ⟨fd, F⟩ := c.def_ 27 rfl
  have b := FunD.bindsA (ps := ["_law_script"]) F (fun _ _ _ _ _ _ us hl => match us, hl with | [_], _ => rfl)
  refine ⟨_, fd, [], SpLawW K, He.glo_ok X G (c.fact 27 rfl), fun p hp => (List.not_mem_nil hp).elim, fun p hp => (List.not_mem_nil hp).elim, fun p hp => (List.not_mem_nil hp).elim, fun s v => b s [v] rfl, fun H a ns hl _ hT hS => ?_, fun base KB NB TBs => ?_⟩
  · exact ⟨a, ns, rfl, hS, by omega, fun _ => rfl⟩
  · have TC := tabC_ok c ce
    have TG := tabG_ok X G c
    have T := T_ok X G c
    have TW := TW_ok X G c
    have g_places := congrArg (fun l : List He.FnW => l[0]?) hgl
    obtain ⟨fd_places, F_places⟩ := funA (st := (inClass (topS 27) 2)) (Option.some.inj g_places) (ex_4 ce)
    have b_places := FunD.bindsN (ps := ["self"]) F_places (fun _ _ _ _ _ _ us hl => match us, hl with | [_], _ => rfl)
    have p_places := prB_ok (ex_1 ce)
    have g_ties := congrArg (fun l : List He.FnW => l[1]?) hgl
    obtain ⟨fd_ties, F_ties⟩ := funA (st := (inClass (topS 27) 3)) (Option.some.inj g_ties) (ex_5 ce)
    have b_ties := FunD.bindsN (ps := ["self"]) F_ties (fun _ _ _ _ _ _ us hl => match us, hl with | [_], _ => rfl)
    have p_ties := prB_ok (ex_2 ce)
    have g_text := congrArg (fun l : List He.FnW => l[2]?) hgl
    obtain ⟨fd_text, F_text⟩ := funA (st := (inClass (topS 27) 4)) (Option.some.inj g_text) (ex_6 ce)
    have b_text := FunD.bindsN (ps := ["self"]) F_text (fun _ _ _ _ _ _ us hl => match us, hl with | [_], _ => rfl)
    have p_text := prB_ok (ex_3 ce)
    have g_told := congrArg (fun l : List He.FnW => l[3]?) hgl
    obtain ⟨fd_told, F_told⟩ := funA (st := (inClass (topS 27) 1)) (Option.some.inj g_told) (ex_21 ce)
    have b_told := FunD.bindsN (ps := ["cls", "text"]) F_told (fun _ _ _ _ _ _ us hl => match us, hl with | [_, _], _ => rfl)
    have CT_told := He5.cmet_of (ex_19 ce) (ex_20 ce)
    obtain ⟨fd_str, F_str⟩ := c.def_ 29 rfl
    have b_str := FunD.bindsN (ps := ["self"]) F_str (fun _ _ _ _ _ _ us hl => match us, hl with | [_], _ => rfl)
    have m_str := He.meth_ok (c.fact 54 rfl)
    obtain ⟨fd_len, F_len⟩ := c.def_ 30 rfl
    have b_len := FunD.bindsN (ps := ["self"]) F_len (fun _ _ _ _ _ _ us hl => match us, hl with | [_], _ => rfl)
    have m_len := He.meth_ok (c.fact 55 rfl)
    obtain ⟨fd_eq, F_eq⟩ := c.def_ 31 rfl
    have b_eq := FunD.bindsN (ps := ["self", "other"]) F_eq (fun _ _ _ _ _ _ us hl => match us, hl with | [_, _], _ => rfl)
    have m_eq := He.meth_ok (c.fact 56 rfl)
    obtain ⟨fd_stretch, F_stretch⟩ := c.def_ 32 rfl
    have b_stretch := FunD.bindsN (ps := ["self", "pair"]) F_stretch (fun _ _ _ _ _ _ us hl => match us, hl with | [_, _], _ => rfl)
    have m_stretch := He.meth_ok (c.fact 57 rfl)
    have kb_stretch : KBn K fd_stretch ["self", "pair"] 1 ["pair"] (fun us ws => us ++ ws.reverse) (fun vs zs => vs ++ zs.reverse) := by
      obtain ⟨oc, od, dV, kV, doc, pm, an, cdv, ct, osl, rfl, lk, hcd, hD, hK⟩ := F_stretch.ex
      rcases hD with ⟨_, rfl⟩ | ⟨e, _⟩
      · refine ⟨fun s us ws X l1 l2 => ?_, fun r1 r2 => r1.append (vals_rev r2)⟩
        match us, l1, ws, l2 with
        | [_], _, [_], _ => exact .of_eq rfl
      · exact absurd rfl e
    have kb_told : KBn K fd_told ["cls", "text"] 1 ["text"] (fun us ws => us ++ ws.reverse) (fun vs zs => vs ++ zs.reverse) := by
      obtain ⟨oc, od, dV, kV, doc, pm, an, cdv, ct, osl, rfl, lk, hcd, hD, hK⟩ := F_told.ex
      rcases hD with ⟨_, rfl⟩ | ⟨e, _⟩
      · refine ⟨fun s us ws X l1 l2 => ?_, fun r1 r2 => r1.append (vals_rev r2)⟩
        match us, l1, ws, l2 with
        | [_], _, [_], _ => exact .of_eq rfl
      · exact absurd rfl e
    have c__MOST_DIGITS : ∃ u, mg "_MOST_DIGITS" = some u ∧ RelV (.int 6) u := by obtain ⟨t, e⟩ := He.int_ok X G (c.fact 49 rfl); exact ⟨_, e, _, rfl⟩
    have cis_integer := ok_is_integer (P := PySem.Challenge.rw_cornersure_k53_whole_webs_made_and_told.prog) (w := w) (base := base) (at_is_integer X G c) T
    have cis_tuple_of := ok_is_tuple_of (P := PySem.Challenge.rw_cornersure_k53_whole_webs_made_and_told.prog) (w := w) (base := base) (at_is_tuple_of X G c) T
    have cis_pair := ok_is_pair_of_integers (at_is_pair_of_integers X G c) T cis_tuple_of cis_integer
    have cis_stretch := ok_is_stretch (at_is_stretch X G c) cis_pair
    have cascends := ok_ascends (P := PySem.Challenge.rw_cornersure_k53_whole_webs_made_and_told.prog) (w := w) (base := base) (at_ascends X G c) T TW
    have care := ok_are_letters (at_are_letters X G c) T TW cascends
    have cis_length := ok_is_length (at_is_length X G c) T TW cis_stretch
    have cpair := ok_pair_of (P := PySem.Challenge.rw_cornersure_k53_whole_webs_made_and_told.prog) (w := w) (base := base) (at_pair_of X G c)
    have cbeside := ok__is_beside (at__is_beside X G c) T TW cpair
    have creached := ok_places_reached (at_places_reached X G c) T TW cbeside
    have cis_tie := ok__is_tie (at__is_tie X G c) T TW cis_tuple_of care cis_length
    have cjoined := ok_check_joined (at_check_joined X G c) T TW creached
    have cties := ok_check_ties (at_check_ties X G c) T TW cis_tie
    obtain ⟨fdI, WA⟩ := tab_ok X G c
    obtain ⟨qI, FI0⟩ := WA.F
    have FIo := ok_w_init FI0 TC TW care cties cjoined
    have cst := ok_stretches_text (P := PySem.Challenge.rw_cornersure_k53_whole_webs_made_and_told.prog) (w := w) (base := base) (at_stretches_text X G c) T TW
    have Kp := ok_w_places (P := PySem.Challenge.rw_cornersure_k53_whole_webs_made_and_told.prog) (w := w) (base := base) (mg := mg) F_places TC
    have Kt := ok_w_ties (P := PySem.Challenge.rw_cornersure_k53_whole_webs_made_and_told.prog) (w := w) (base := base) (mg := mg) F_ties TC
    have Kx := ok_w_text F_text TC T cst
    have Kl := ok_w_len (P := PySem.Challenge.rw_cornersure_k53_whole_webs_made_and_told.prog) (w := w) (base := base) (mg := mg) F_len TC T
    have Kst := ok_w_str F_str TC T Kx p_text b_text
    have cpairs := ok_pairs_of (at_pairs_of X G c) TC Kt p_ties b_ties
    have coo := ok_is_one_of (P := PySem.Challenge.rw_cornersure_k53_whole_webs_made_and_told.prog) (w := w) (base := base) (at_is_one_of X G c) T
    have cti := ok_tie_index (at_tie_index X G c) T cpairs coo
    have Ks := ok_w_stretch F_stretch TC T cti
    have NI : NoInsW K (He.ga K "Web") := fun d => by cases d <;> first | exact of_decide_eq_true (ex_12 ce) | exact of_decide_eq_true (ex_13 ce) | exact of_decide_eq_true (ex_14 ce) | exact of_decide_eq_true (ex_15 ce) | exact of_decide_eq_true (ex_16 ce) | exact of_decide_eq_true (ex_17 ce) | exact of_decide_eq_true (ex_18 ce)
    have Keq := ok_w_eq (P := PySem.Challenge.rw_cornersure_k53_whole_webs_made_and_told.prog) (w := w) (base := base) F_eq TC T TG NI
    have WS : SpcW K (He.ga K "Web") _ _ _ := ⟨m_len.at_, m_len.fn, m_str.at_, m_str.fn, m_eq.at_, m_eq.fn, He.eqO_ok (ex_7 ce), He.eqO_ok (ex_8 ce), of_decide_eq_true (ex_9 ce)⟩
    have cit := ok_integer_told (P := PySem.Challenge.rw_cornersure_k53_whole_webs_made_and_told.prog) (w := w) (base := base) (at_integer_told X G c) T TW c__MOST_DIGITS
    have csto := ok_stretches_told (at_stretches_told X G c) T cit
    have crto := ok_row_told (at_row_told X G c) T csto
    have ctt := ok_web_told (at_web_told X G c) T WA FIo crto
    have Ktd := ok_w_told F_told ctt
    have RT : ClX.CRead K (He.ga K "Web") (.type "type") := ⟨(ex_10 ce), He.eqO_ok (ex_11 ce)⟩
    have FR := (Ktd.raw b_told .nil).imp (sp' := SpC1 (RToW (He.ga K "Web"))) (fun vs H Q E h => by rw [List.append_nil]; exact h)
    have cdraw := ok__law_draw (P := PySem.Challenge.rw_cornersure_k53_whole_webs_made_and_told.prog) (w := w) (base := base) (at__law_draw X G c) T
    have cwell := ok__law_well (at__law_well X G c) T cdraw
    have cstr := ok__law_stretch (at__law_stretch X G c) T cdraw
    have cweb := ok__law_web (at__law_web X G c) T TW cdraw cstr
    have cpage := ok__law_page (P := PySem.Challenge.rw_cornersure_k53_whole_webs_made_and_told.prog) (w := w) (base := base) (at__law_page X G c) T
    have cright := ok__law_right (at__law_right X G c) T TW TC TG WA WS FIo WA.kb Kp p_places b_places Kt p_ties b_ties Kx p_text b_text Ks m_stretch b_stretch kb_stretch Kl b_len Kst b_str Keq b_eq RT CT_told Ktd FR kb_told cweb cdraw cpage
    exact ok_law F T cright cwell
end
end Cs
open PySem PySem.W PySem.Calls PyProof.Rows
set_option maxRecDepth 100000 in
theorem PySem.Challenge.cw_cornersure_k53_whole_webs_made_and_told_holds : PySem.Challenge.rw_cornersure_k53_whole_webs_made_and_told.Holds := by
  w_on; o_law
  refine HandSHeadRun.head_any (r := OpenLaw.row PySem.Challenge.rw_cornersure_k53_whole_webs_made_and_told) (q := view (OpenLaw.row PySem.Challenge.rw_cornersure_k53_whole_webs_made_and_told).prog [45]) (H := Cs.hk) (ob := Cs.ob) (M := 9000) (loose := Cs.loose) (d := HandSHeadRun.topDef (OpenLaw.row PySem.Challenge.rw_cornersure_k53_whole_webs_made_and_told).prog 45) (kwd := []) Cs.ob_eq
    (by kernel_rfl) (fun s => by kernel_rfl) Cs.run (by kernel_rfl) (by kernel_rfl) (by kernel_rfl) (by rfl) (by first | assumption | decide +kernel) (by decide +kernel) ⟨rfl, rfl, rfl, rfl, rfl, by decide +kernel⟩ ?hw ?hc
  case hw => w_witness2
  case hc =>
    refine Cs.walk_ofG (l := PySem.Challenge.rw_cornersure_k53_whole_webs_made_and_told) (n := 63) (k := 13) (x := "_law_script") rfl (by decide) (by kernel_rfl) (by kernel_rfl) ⟨rfl, by decide, by decide⟩ ?F
    intro w mg h Y G _
    obtain ⟨K, KX, c, ce, z⟩ := Y
    exact ⟨K, KX, Cs.law_at KX G c ce z⟩
