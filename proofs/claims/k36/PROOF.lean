import PyProof.Rows.All
import Wide.All
import OpenK.AllK
import Wide.FinOn
import KE.KStateDown
import HandS.ForMost
import HandS.More
import HandS.WordsExc
import HandS.Defaults
import HandS.MakeKw
import HandS.MakeKwOnly
import HandS.Wide
import HandS.IsInst
import HandS.Flow
import HandS.Style
import HandS.OwnEq
import HandS.Head0
import HandS.Head1
import HandS.Head2
import HandS.HeadEnd
import HandS.HeadHook1
import HandS.HeadHook2
import HandS.ExcIs
import HandS.ExcOwn
import HandS.TryOnly
import HandS.ExcBuiltin
import HandS.FStr
import HandS.Text
import HandS.Codes
import HandS.StrMore
import HandS.Walk
import HandS.Zip
import HandS.Conv
import HandS.Iter
import KE.GoesEnum
import KE.DataMinMax
import HandS.SortKw
import HandS.TupAny
import HandS.FStrTup
import HandS.Deep
import HandS.SetFor
import HandS.Strs
import PyProof.ReprHeadsTuple
import PyProof.ReprNest
import KE.KFmtOwn
import HandS.RevRange
import HandS.ExcInit
import HandS.Nested
import KE.KExcSuper
import HandS.ExcField
import HandS.ExcValue
import PyProof.RowDictHeap
import HandS.TupLe
import KE.KSortKeyAny
import PyProof.Rows.SortShellAny
import KE.KMinKey
import KE.KItemsList
import PyProof.DictUpdate
import HandS.Small
import HandS.SetKeys
import HandS.TupMul
import PySem.Challenge.RW_sizeladders_k36_whole_rounds_by_measures
set_option Elab.async false
set_option linter.all false
set_option maxRecDepth 100000
set_option maxHeartbeats 4000000
namespace My
open PySem PySem.Spec PyProof.Rows L2
/-! ### operators of great numbers -/
section
variable {X : Cx}
theorem op_fd : OpR X (binaryOp .FloorDiv) (rI (fun _ j => j ≠ 0 ∧ j.natAbs.log2 < 9000) fun i j => .int (i.fdiv j)) :=
  opI fun _ _ _ _ _ _ _ hc q => floordiv_int hc.1 q (.inl (PyProof.noPylong_of_log2 hc.2))
theorem op_mulA : OpR X (binaryOp .Mult) (rI (fun i j => CMul i j ∨ CMulW i j) fun i j => .int (i * j)) :=
  opI fun _ _ _ _ _ _ _ hc q => mul_int q (hc.elim (fun h => h.ok) (fun h => h.ok))
/-! ### cuts: what is wanted behind a piece, said by a word of one's own -/
def tCutS (t : TS) : TS := fun D σ H => ∃ J : L2.St → Hp → Prop, t { D with nx := J } σ H ∧ ∀ σ' H', J σ' H' → D.nx σ' H'
theorem ps_cut {st : Stmt} {t : TS} (h : PS X st t) : PS X st (tCutS t) := by
  refine ⟨fun pins s σ H D I hw => ?_⟩
  obtain ⟨J, h1, h2⟩ := hw
  refine thn (h.run pins s σ H _ I h1) fun f s' q => ?_
  cases f with
  | next => obtain ⟨σ', H', I', q'⟩ := q; exact ⟨σ', H', I', h2 _ _ q'⟩
  | brk => exact q
  | cont => exact q
  | ret u => exact q
def tCutE (t : TE) : TE := fun σ H Q => ∃ J : V → Hp → Prop, t σ H J ∧ ∀ v H', J v H' → Q v H'
theorem pe_cut {e : Expr} {t : TE} (h : PE X e t) : PE X e (tCutE t) := by
  refine ⟨fun pins s σ H Q I hw => ?_⟩
  obtain ⟨J, h1, h2⟩ := hw
  exact thn (h.run pins s σ H _ I h1) fun u s' ⟨v, H', I', r, q'⟩ => ⟨v, H', I', r, h2 _ _ q'⟩
/-! ### calls by keywords -/
variable {CX : CXT} {k n : Nat} {f C : Addr} {fd : FuncData} {ps ks : List Str} {sp : Sp} {E : XK} {x m : Str} {p pos apos : Pos} {o e : Expr} {es : List Expr} {kws : List Keyword} {ta : TE} {t tk : TA} {g : List Value → List Value → List Value} {gV : List V → List V → List V}
end
/-! ### heaps -/
theorem up1 {H : Hp} {p x : Addr} {o u : HO} (hp : H p = none) (hx : H x = some o) : upd H p u x = some o := by
  rw [upd_ne (ne_of_none hx hp)]; exact hx
theorem same1 {H : Hp} {p : Addr} {u : HO} (hp : H p = none) : Same H (upd H p u) := fun _ _ e => up1 hp e
theorem _root_.L2.Same.sqt {K : PySem.W.Frag} {H H' : Hp} {a : Addr} {xs : List V} (e : Same H H') (h : SqT K H a xs) : SqT K H' a xs := by
  rcases h with (h | ⟨o, h⟩) | h
  · exact .inl (.inl (e _ _ h))
  · exact .inl (.inr ⟨o, e _ _ h⟩)
  · exact .inr h
/-- all stays but what stands at h -/
def Kp (h : Addr) (H H' : Hp) : Prop := ∀ b o, H b = some o → b ≠ h → H' b = some o
theorem Kp.refl (h : Addr) (H : Hp) : Kp h H H := fun _ _ e _ => e
theorem Kp.trans {h : Addr} {H H1 H2 : Hp} (a : Kp h H H1) (b : Kp h H1 H2) : Kp h H H2 := fun c o e n => b c o (a c o e n) n
theorem Kp.same {h : Addr} {H H1 : Hp} (a : Same H H1) : Kp h H H1 := fun c o e _ => a c o e
theorem Kp.up {h p : Addr} {H H1 : Hp} {u : HO} (a : Kp h H H1) (hp : H1 p = none) : Kp h H (upd H1 p u) := fun c o e n => up1 hp (a c o e n)
theorem Kp.set {h : Addr} {H H1 : Hp} {u : HO} (a : Kp h H H1) : Kp h H (upd H1 h u) := fun c o e n => by
  rw [upd_ne n]; exact a c o e n
/-- a list other than that at h, the script among them -/
theorem Kp.seq {K : PySem.W.Frag} {h a : Addr} {H H1 : Hp} {xs : List V} (k : Kp h H H1) (n : a ≠ h) (s : SqL K H a xs) : SqL K H1 a xs := by
  rcases s with (s | ⟨o, s⟩) | s
  · exact .inl (.inl (k _ _ s n))
  · exact .inl (.inr ⟨o, k _ _ s n⟩)
  · exact .inr s
/-! ### the hand: a list of three ints, drawn from -/
def HandAt (H : Hp) (h : Addr) (n : Nat) : Prop := ∃ a b c : Int, H h = some (.lst [.int a, .int b, .int c]) ∧ 0 ≤ a ∧ 0 ≤ b ∧ b < 4611686018427387904 ∧ 0 ≤ c ∧ c ≤ n
theorem HandAt.mono {H : Hp} {h : Addr} {n m : Nat} (a : HandAt H h n) (l : n ≤ m) : HandAt H h m := by
  obtain ⟨x, y, z, h1, h2, h3, h4, h5, h6⟩ := a
  exact ⟨x, y, z, h1, h2, h3, h4, h5, by omega⟩
theorem HandAt.same {H H' : Hp} {h : Addr} {n : Nat} (a : HandAt H h n) (s : Same H H') : HandAt H' h n := by
  obtain ⟨x, y, z, h1, h2⟩ := a
  exact ⟨x, y, z, s _ _ h1, h2⟩
theorem HandAt.up {H : Hp} {h p : Addr} {u : HO} {n : Nat} (a : HandAt H h n) (hp : H p = none) : HandAt (upd H p u) h n := a.same (same1 hp)
theorem HandAt.ne {H : Hp} {h p : Addr} {n : Nat} (a : HandAt H h n) (hp : H p = none) : p ≠ h := by
  obtain ⟨x, y, z, h1, _⟩ := a
  exact (ne_of_none h1 hp).symm
def notHand : HO → Bool
  | .lst _ => false
  | _ => true
theorem HandAt.apart {H : Hp} {h p : Addr} {o : HO} {n : Nat} (a : HandAt H h n) (hp : H p = some o) (ho : notHand o = true) : p ≠ h := by
  obtain ⟨x, y, z, h1, _⟩ := a
  exact ne_of hp h1 (by intro e; rw [e] at ho; cases ho)
/-! ### numbers -/
abbrev Sz (k : Nat) (z : Int) : Prop := z.natAbs < 2 ^ k
theorem Sz.mono {a b : Nat} {z : Int} (h : Sz a z) (l : a ≤ b) : Sz b z := Nat.lt_of_lt_of_le h (Nat.pow_le_pow_right (by decide) l)
theorem Sz.mul {a b : Nat} {x y : Int} (h : Sz a x) (g : Sz b y) : Sz (a + b) (x * y) := wide_lt h g
theorem Sz.add {a : Nat} {x y : Int} (h : Sz a x) (g : Sz a y) : Sz (a + 1) (x + y) := by
  show (x + y).natAbs < 2 ^ (a + 1)
  have h1 : x.natAbs < 2 ^ a := h
  have h2 : y.natAbs < 2 ^ a := g
  rw [Nat.pow_succ]; omega
theorem Sz.sub {a : Nat} {x y : Int} (h : Sz a x) (g : Sz a y) : Sz (a + 1) (x - y) := by
  show (x - y).natAbs < 2 ^ (a + 1)
  have h1 : x.natAbs < 2 ^ a := h
  have h2 : y.natAbs < 2 ^ a := g
  rw [Nat.pow_succ]; omega
theorem Sz.le {a : Nat} {x y : Int} (h : Sz a x) (l : y.natAbs ≤ x.natAbs) : Sz a y := Nat.lt_of_le_of_lt l h
theorem Sz.cmul {a b : Nat} {x y : Int} (h : Sz a x) (g : Sz b y) (h0 : 0 < a) (h1 : 0 < b) (l : a + b ≤ 1000000) : CMul x y ∨ CMulW x y := .inr (wide_mul h g h0 h1 l)
theorem Sz.log {a : Nat} {x : Int} (h : Sz a x) (h0 : 0 < a) (l : a ≤ 9000) : x.natAbs.log2 < 9000 := Nat.lt_of_lt_of_le (PySem.Flt.log2_lt_of h0 h) l
theorem dI {i j : Int} : decide (V.int i = V.int j) = decide (i = j) := by
  rw [dec_int, Bool.beq_eq_decide_eq]
/-- t / u is a / b in lowest terms -/
structure Fr (t u a b : Int) : Prop where
  pos : 0 < u
  eq : t * b = a * u
  co : Int.gcd t u = 1
  lt : t.natAbs ≤ a.natAbs
  lu : u.natAbs ≤ b.natAbs
def sgn (b : Int) : Int := if 0 < b then 1 else -1
theorem gcd_step {g s : Int} (hs : 0 < s) (hg : 0 ≤ g) : Int.gcd s (g % s) = Int.gcd g s := by
  obtain ⟨m, rfl⟩ := Int.eq_ofNat_of_zero_le hg
  obtain ⟨n, rfl⟩ := Int.eq_ofNat_of_zero_le (Int.le_of_lt hs)
  show Nat.gcd n (m % n) = Nat.gcd m n
  rw [Nat.gcd_comm m n, Nat.gcd_comm n (m % n), ← Nat.gcd_rec]
theorem fr_mk {a b c : Int} (hb : b ≠ 0) (hc : c = sgn b * (Int.gcd a b : Int)) : c ≠ 0 ∧ c.natAbs ≤ b.natAbs ∧ Fr (a.fdiv c) (b.fdiv c) a b := by
  have g0 : 0 < Int.gcd a b := Int.gcd_pos_of_ne_zero_right a hb
  have gd : (Int.gcd a b : Int) ∣ a := Int.gcd_dvd_left ..
  have gb : (Int.gcd a b : Int) ∣ b := Int.gcd_dvd_right ..
  have hs : sgn b = 1 ∨ sgn b = -1 := by unfold sgn; split <;> simp
  have cd : c ∣ a := by
    rcases hs with e | e <;> rw [hc, e]
    · rw [Int.one_mul]; exact gd
    · rw [Int.neg_one_mul]; exact (Int.neg_dvd).mpr gd
  have cb : c ∣ b := by
    rcases hs with e | e <;> rw [hc, e]
    · rw [Int.one_mul]; exact gb
    · rw [Int.neg_one_mul]; exact (Int.neg_dvd).mpr gb
  have cn : c.natAbs = Int.gcd a b := by
    rcases hs with e | e <;> rw [hc, e]
    · rw [Int.one_mul, Int.natAbs_natCast]
    · rw [Int.neg_one_mul, Int.natAbs_neg, Int.natAbs_natCast]
  have c0 : c ≠ 0 := by
    intro e; rw [e] at cn; simp at cn; omega
  have ta : a.fdiv c * c = a := Int.fdiv_mul_cancel cd
  have tb : b.fdiv c * c = b := Int.fdiv_mul_cancel cb
  have c1 : 1 ≤ c.natAbs := by omega
  have na : a.natAbs = (a.fdiv c).natAbs * c.natAbs := by rw [← Int.natAbs_mul, ta]
  have nb : b.natAbs = (b.fdiv c).natAbs * c.natAbs := by rw [← Int.natAbs_mul, tb]
  refine ⟨c0, ?_, ?_, ?_, ?_, ?_, ?_⟩
  · rw [cn]
    exact Nat.le_of_dvd (by omega) (Int.gcd_dvd_natAbs_right a b)
  · rcases Int.lt_trichotomy b 0 with h | h | h
    · have e : sgn b = -1 := by unfold sgn; rw [if_neg (by omega)]
      have cneg : c < 0 := by rw [hc, e]; omega
      rcases Int.lt_or_le 0 (b.fdiv c) with z | z
      · exact z
      · have : 0 ≤ b.fdiv c * c := Int.mul_nonneg_of_nonpos_of_nonpos z (by omega)
        omega
    · exact absurd h hb
    · have e : sgn b = 1 := by unfold sgn; rw [if_pos h]
      have cpos : 0 < c := by rw [hc, e]; omega
      rcases Int.lt_or_le 0 (b.fdiv c) with z | z
      · exact z
      · have : b.fdiv c * c ≤ 0 := Int.mul_nonpos_of_nonpos_of_nonneg z (by omega)
        omega
  · have : a.fdiv c * (b.fdiv c * c) = a.fdiv c * c * b.fdiv c := by
      rw [Int.mul_assoc, Int.mul_comm c]
    rw [tb, ta] at this
    exact this
  · have e : Int.gcd a b = Int.gcd (a.fdiv c) (b.fdiv c) * c.natAbs := by
      have := Int.gcd_mul_right (a.fdiv c) c (b.fdiv c)
      rw [ta, tb] at this
      exact this
    rw [← cn] at e
    have e2 : 1 * c.natAbs = Int.gcd (a.fdiv c) (b.fdiv c) * c.natAbs := by rw [Nat.one_mul]; exact e
    exact (Nat.eq_of_mul_eq_mul_right (by omega) e2).symm
  · rw [na]; exact Nat.le_mul_of_pos_right _ (by omega)
  · rw [nb]; exact Nat.le_mul_of_pos_right _ (by omega)
/-! ### a Measure -/
def mf (t u : Int) : List (Str × V) := [("top", .int t), ("bottom", .int u)]
theorem ne_tb : ¬ (("top" : Str) = "bottom") := by decide +kernel
theorem mf_put (t u : Int) : putF "bottom" (.int u) (putF "top" (.int t) []) = mf t u := by
  show (if ("top" : Str) = "bottom" then [(("top" : Str), V.int u)] else (("top" : Str), V.int t) :: putF "bottom" (V.int u) []) = mf t u
  rw [if_neg ne_tb] <;> rfl
theorem mf_top (t u : Int) : (mf t u).lookup ("top" : Str) = some (.int t) := by
  rw [← mf_put, lookup_putF, if_neg ne_tb, lookup_putF, if_pos rfl]
theorem mf_bottom (t u : Int) : (mf t u).lookup ("bottom" : Str) = some (.int u) := by
  rw [← mf_put, lookup_putF, if_pos rfl]
theorem mf_no (t u : Int) {m : Str} (h1 : ¬ m = "top") (h2 : ¬ m = "bottom") : (mf t u).lookup m = none := by
  rw [← mf_put, lookup_putF, if_neg h2, lookup_putF, if_neg h1] <;> rfl
def MAt (C : Addr) (H : Hp) (p : Addr) (t u : Int) : Prop := ∃ dx, H p = some (.ins C dx (mf t u))
theorem MAt.same {C p : Addr} {H H' : Hp} {t u : Int} (m : MAt C H p t u) (s : Same H H') : MAt C H' p t u := by
  obtain ⟨dx, h⟩ := m; exact ⟨dx, s _ _ h⟩
theorem MAt.kp {C p h : Addr} {H H' : Hp} {t u : Int} {n : Nat} (m : MAt C H p t u) (hh : HandAt H h n) (s : Kp h H H') : MAt C H' p t u := by
  obtain ⟨dx, e⟩ := m; exact ⟨dx, s _ _ e (hh.apart e rfl)⟩
def sp_minit (C : Addr) : Sp := fun vs H Q _ => ∃ (p dx : Addr) (a b : Int), vs = [.ref p, .int a, .int b] ∧ H p = some (.ins C dx []) ∧ b ≠ 0 ∧ b.natAbs.log2 < 9000 ∧
  ∀ (t u : Int) (H' : Hp), Fr t u a b → H' p = some (.ins C dx (mf t u)) → (∀ c o, H c = some o → c ≠ p → H' c = some o) → Q .non H'
theorem made {C : Addr} {H : Hp} {Q : VK} {E : XK} {a b : Int} (hb : b ≠ 0) (hl : b.natAbs.log2 < 9000) (k : ∀ (p : Addr) (t u : Int) (H' : Hp), H p = none → Same H H' → MAt C H' p t u → Fr t u a b → Q (.ref p) H') :
    ∀ x dx, H x = none → H dx = none → dx ≠ x → sp_minit C [.ref x, .int a, .int b] (upd (upd H dx (.own x)) x (.ins C dx [])) (fun v H2 => v = .non ∧ Q (.ref x) H2) E := by
  intro x dx nx nd ne
  refine ⟨x, dx, a, b, rfl, upd_same, hb, hl, fun t u H' fr hx kp => ⟨rfl, ?_⟩⟩
  refine k x t u H' nx (fun c o e => ?_) ⟨dx, hx⟩ fr
  have n1 : c ≠ x := ne_of_none e nx
  refine kp c o ?_ n1
  rw [upd_ne n1]
  exact up1 nd e
def sp_whole : Sp := fun vs H Q _ => ∃ n : Int, vs = [.int n] ∧ Q (.bl true) H
def sp_common : Sp := fun vs H Q _ => ∃ a b : Int, vs = [.int a, .int b] ∧ Q (.int (Int.gcd a b : Int)) H
def lessA (t u t' u' : Int) (al : Bool) : Bool := decide (t * u' < t' * u) || (al && decide (t * u' = t' * u))
def sp_below (C : Addr) : Sp := fun vs H Q _ => ∃ (p q : Addr) (t u t' u' : Int) (al : Bool), vs = [.ref p, .ref q, .bl al] ∧ MAt C H p t u ∧ MAt C H q t' u' ∧ Sz 9000 t ∧ Sz 9000 u ∧ Sz 9000 t' ∧ Sz 9000 u' ∧ Q (.bl (lessA t u t' u' al)) H
theorem Kp.get {h q : Addr} {H H' : Hp} {o : HO} {n : Nat} (k : Kp h H H') (hh : HandAt H h n) (e : H q = some o) (no : notHand o = true) : H' q = some o := k _ _ e (hh.apart e no)
theorem _root_.L2.Same.get {q : Addr} {H H' : Hp} {o : HO} (k : Same H H') (e : H q = some o) : H' q = some o := k _ _ e
theorem _root_.L2.Same.ofKp {h : Addr} {H H1 H2 : Hp} (s : Same H H1) (nh : H h = none) (k : Kp h H1 H2) : Same H H2 := fun c o e => k c o (s c o e) (ne_of_none e nh)
theorem _root_.L2.Same.up {p : Addr} {H H1 : Hp} {u : HO} (s : Same H H1) (hp : H1 p = none) : Same H (upd H1 p u) := s.trans (same1 hp)
theorem isTrueN {b : Bool} (h : ¬ b = true) : b = false := by cases b <;> simp_all
theorem sgn_cases (b : Int) : sgn b = 1 ∨ sgn b = -1 := by unfold sgn; split <;> simp
/-! ### rules with the written part by its name (for the blocks of comprehensions) -/
section
variable {X : Cx} {K : PySem.W.Frag}
theorem ixl (hK : X.K = K := by rfl) : IxR X (rIxL K) := by subst hK; exact ix_list
theorem ixt (hK : X.K = K := by rfl) : IxR X (rIxT K) := by subst hK; exact ix_tup
theorem isi (hK : X.K = K := by rfl) : CallR X (.builtin "isinstance") (rIsi K) := by subst hK; exact call_isi
def rLenS (K : PySem.W.Frag) : List V → Hp → VK → Prop := fun xs H Q => ∃ p ys, xs = [.ref p] ∧ (SqL K H p ys ∨ SqT K H p ys) ∧ Q (.int (ys.length : Int)) H
theorem lenS (hK : X.K = K := by rfl) : CallR X (.builtin "len") (rLenS K) := by subst hK; exact call_len_seq
theorem allK (hK : X.K = K := by rfl) (hc : X.calm = true := by rfl) : CallR X (.builtin "all") (rAll K) := by subst hK; exact cr_all hc
theorem eqDK (hu : X.A.units + 64 < cLine) (hK : X.K = K := by rfl) : OpR X (compareOp .Eq) (rEqD K) := by subst hK; exact op_eqD hu
theorem neDK (hu : X.A.units + 64 < cLine) (hK : X.K = K := by rfl) : OpR X (compareOp .NotEq) (rNeD K) := by subst hK; exact op_neD hu
theorem inK (hK : X.K = K := by rfl) : OpR X (compareOp .In) (rIn K false) := by subst hK; exact op_in_seq
theorem slL (hK : X.K = K := by rfl) : SlR X (rSlL K) := by subst hK; exact sl_list
theorem fldK {e : Expr} {f : Str} {pos : Pos} {ta : TE} (he : PE X e ta) (hb : attributeBase e f X.env (eval e X.env) = eval e X.env) (hK : X.K = K := by rfl) : PE X (.Attribute e f pos) (tFld K ta f) := by subst hK; exact pe_fld he hb
end
theorem yesT {te : TE} {σ : L2.St} {H : Hp} {N : VK} {M : Hp → Prop} (h : te σ H N) : tYes σ H (fun b H3 => if b = true then te σ H3 N else M H3) := by
  show (if true = true then te σ H N else M H)
  rw [if_pos rfl]; exact h
theorem made_same {H H' : Hp} {x dx C : Addr} (nx : H x = none) (nd : H dx = none) (kp : ∀ c o, (upd (upd H dx (.own x)) x (.ins C dx [])) c = some o → c ≠ x → H' c = some o) : Same H H' := fun c o e => by
  have n1 : c ≠ x := ne_of_none e nx
  refine kp c o ?_ n1
  rw [upd_ne n1]
  exact up1 nd e
/-! ### the head's facts, and more of them -/
theorem ex_at {ex : List (PySem.W.Frag → Bool)} {K : PySem.W.Frag} (c : (ex.all fun f => f K) = true) (i : Nat) {f : PySem.W.Frag → Bool} (h : ex[i]? = some f) : f K = true := List.all_eq_true.mp c f (List.mem_of_getElem? h)
/-- what isinstance asks of an own class -/
structure IsC (K : PySem.W.Frag) (C : Addr) : Prop where
  ha : PySem.W.findIn K (.ref C) "__class__" = some (some (.builtin "object.__class__"))
  hn : PySem.W.specialIn K (.builtin "object.__class__") "__get__" = some (some (.builtin "getset_descriptor.__get__"))
  htk : PySem.W.takesIn K (.builtin "object.__class__") = some true
  hm : PySem.W.mroIn K C (.type "object") = some true
def isCB (x : Str) : PySem.W.Frag → Bool := fun K => He.eqO (PySem.W.findIn K (.ref (He.ga K x)) "__class__") (some (some (.builtin "object.__class__"))) && (He.eqO (PySem.W.specialIn K (.builtin "object.__class__") "__get__") (some (some (.builtin "getset_descriptor.__get__"))) &&
  (decide (PySem.W.takesIn K (.builtin "object.__class__") = some true) && decide (PySem.W.mroIn K (He.ga K x) (.type "object") = some true)))
theorem isC_ok {x : Str} {K : PySem.W.Frag} (c : isCB x K = true) : IsC K (He.ga K x) := by
  obtain ⟨c1, c⟩ := He.ba c
  obtain ⟨c2, c⟩ := He.ba c
  obtain ⟨c3, c4⟩ := He.ba c
  exact ⟨He.eqO_ok c1, He.eqO_ok c2, of_decide_eq_true c3, of_decide_eq_true c4⟩
/-- a class by name: an own one, a built-in one -/
def cv (K : PySem.W.Frag) : Str ⊕ String → Value
  | .inl x => .ref (He.ga K x)
  | .inr n => .type n
def kitF (a b : Str ⊕ String) (r : Bool) : PySem.W.Frag → Bool := fun K => decide (PySem.W.kitOne K (cv K a) (cv K b) = some r)
theorem kitF_ok {a b : Str ⊕ String} {r : Bool} {K : PySem.W.Frag} (c : kitF a b r K = true) : PySem.W.kitOne K (cv K a) (cv K b) = some r := of_decide_eq_true c
theorem tyM {K : PySem.W.Frag} {H : Hp} {a C dx : Addr} {fs : List (Str × V)} (e : H a = some (.ins C dx fs)) (cl : Cls K C) (i : IsC K C) : TyX K H (.ref a) (.ref C) := .base (.ins e cl i.ha i.hn i.htk i.hm)
/-! ### sums and parts of Measures -/
/-- the same fraction once more -/
theorem Fr.of {t u a b c d : Int} (f : Fr t u a b) (hb : b ≠ 0) (e : a * d = c * b) : t * d = c * u := by
  have h1 := f.eq
  have h2 : (t * d) * b = (c * u) * b := by
    calc (t * d) * b = (t * b) * d := by simp only [Int.mul_assoc, Int.mul_comm, Int.mul_left_comm]
      _ = (a * u) * d := by rw [h1]
      _ = (a * d) * u := by simp only [Int.mul_assoc, Int.mul_comm, Int.mul_left_comm]
      _ = (c * b) * u := by rw [e]
      _ = (c * u) * b := by simp only [Int.mul_assoc, Int.mul_comm, Int.mul_left_comm]
  exact Int.eq_of_mul_eq_mul_right hb h2
/-- what stood at the start stands (by another name than the steps') -/
structure Old (H H' : Hp) : Prop where
  s : Same H H'
theorem Old.refl (H : Hp) : Old H H := ⟨Same.refl _⟩
theorem Old.up {p : Addr} {H H1 : Hp} {u : HO} (a : Old H H1) (hp : H1 p = none) : Old H (upd H1 p u) := ⟨a.s.up hp⟩
theorem Old.then {H H1 H2 : Hp} (a : Old H H1) (b : Same H1 H2) : Old H H2 := ⟨a.s.trans b⟩
theorem Old.kp {h : Addr} {H H1 H2 : Hp} (a : Old H H1) (nh : H h = none) (k : Kp h H1 H2) : Old H H2 := ⟨a.s.ofKp nh k⟩
theorem Old.put {h : Addr} {H H1 : Hp} {u : HO} (a : Old H H1) (nh : H h = none) : Old H (upd H1 h u) := ⟨fun c o e => by rw [upd_ne (ne_of_none e nh)]; exact a.s _ _ e⟩
/-- a list is changed, what is no list stays -/
theorem up2 {H : Hp} {l x : Addr} {xs : List V} {o u : HO} (hl : H l = some (.lst xs)) (hx : H x = some o) (no : notHand o = true) : upd H l u x = some o := by
  rw [upd_ne (ne_of hx hl (by intro e; rw [e] at no; cases no))]; exact hx
end My
namespace My
open PySem PySem.Spec PyProof.Rows L2
/-! ### fractions as pairs, stretches as ends -/
abbrev Q2 := Int × Int
def ltq (a b : Q2) : Bool := decide (a.1 * b.2 < b.1 * a.2)
def eqq (a b : Q2) : Bool := decide (a.1 * b.2 = b.1 * a.2)
def someB : Option Q2 → Option Q2 → Bool → Bool → Bool
  | some a, some b, ia, ib => ltq a b || (eqq a b && ia && ib)
  | _, _, _, _ => true
def Re (a b : Q2) : Prop := 0 < a.2 ∧ 0 < b.2 ∧ a.1 * b.2 = b.1 * a.2
def ReO : Option Q2 → Option Q2 → Prop
  | none, none => True
  | some a, some b => Re a b
  | _, _ => False
theorem Re.symm {a b : Q2} (h : Re a b) : Re b a := ⟨h.2.1, h.1, h.2.2.symm⟩
theorem Re.refl {a : Q2} (h : 0 < a.2) : Re a a := ⟨h, h, rfl⟩
theorem ReO.symm : ∀ {a b : Option Q2}, ReO a b → ReO b a
  | none, none, _ => trivial
  | some _, some _, h => Re.symm h
  | none, some _, h => h.elim
  | some _, none, h => h.elim
theorem pos_key {a b c d : Q2} (h : Re a c) (g : Re b d) : (a.1 * b.2) * (c.2 * d.2) = (c.1 * d.2) * (a.2 * b.2) := by
  have := h.2.2
  grind
theorem pos_key' {a b c d : Q2} (h : Re a c) (g : Re b d) : (b.1 * a.2) * (c.2 * d.2) = (d.1 * c.2) * (a.2 * b.2) := by
  have := g.2.2
  grind
theorem ltq_congr {a b c d : Q2} (h : Re a c) (g : Re b d) : ltq a b = ltq c d := by
  unfold ltq
  have k1 := pos_key h g
  have k2 := pos_key' h g
  have p1 : 0 < c.2 * d.2 := Int.mul_pos h.2.1 g.2.1
  have p2 : 0 < a.2 * b.2 := Int.mul_pos h.1 g.1
  refine decide_eq_decide.mpr ⟨fun x => ?_, fun x => ?_⟩
  · have := Int.mul_lt_mul_of_pos_right x p1
    rw [k1, k2] at this
    exact Int.lt_of_mul_lt_mul_right this (Int.le_of_lt p2)
  · have := Int.mul_lt_mul_of_pos_right x p2
    rw [← k1, ← k2] at this
    exact Int.lt_of_mul_lt_mul_right this (Int.le_of_lt p1)
theorem eqq_congr {a b c d : Q2} (h : Re a c) (g : Re b d) : eqq a b = eqq c d := by
  unfold eqq
  have k1 := pos_key h g
  have k2 := pos_key' h g
  have p1 : 0 < c.2 * d.2 := Int.mul_pos h.2.1 g.2.1
  have p2 : 0 < a.2 * b.2 := Int.mul_pos h.1 g.1
  refine decide_eq_decide.mpr ⟨fun x => ?_, fun x => ?_⟩
  · rw [x] at k1
    rw [k1] at k2
    exact Int.eq_of_mul_eq_mul_right (by omega) k2
  · rw [x] at k1
    rw [← k2] at k1
    exact Int.eq_of_mul_eq_mul_right (by omega) k1
theorem someB_congr : ∀ {a b c d : Option Q2} {i j : Bool}, ReO a c → ReO b d → someB a b i j = someB c d i j
  | some a, some b, some c, some d, i, j, h, g => by
    show (ltq a b || (eqq a b && i && j)) = (ltq c d || (eqq c d && i && j))
    rw [ltq_congr h g, eqq_congr h g]
  | none, some _, none, some _, _, _, _, _ => rfl
  | none, none, none, none, _, _, _, _ => rfl
  | some _, none, some _, none, _, _, _, _ => rfl
  | some _, _, none, _, _, _, h, _ => h.elim
  | none, _, some _, _, _, _, h, _ => h.elim
  | some _, some _, some _, none, _, _, _, g => g.elim
  | some _, none, some _, some _, _, _, _, g => g.elim
  | none, some _, none, none, _, _, _, g => g.elim
  | none, none, none, some _, _, _, _, g => g.elim
theorem lt_tri (a b : Q2) : (ltq a b = true ∧ eqq a b = false ∧ ltq b a = false) ∨ (ltq a b = false ∧ eqq a b = true ∧ ltq b a = false) ∨ (ltq a b = false ∧ eqq a b = false ∧ ltq b a = true) := by
  unfold ltq eqq
  rcases Int.lt_trichotomy (a.1 * b.2) (b.1 * a.2) with h | h | h
  · exact .inl ⟨decide_eq_true h, decide_eq_false (by omega), decide_eq_false (by omega)⟩
  · exact .inr (.inl ⟨decide_eq_false (by omega), decide_eq_true h, decide_eq_false (by omega)⟩)
  · exact .inr (.inr ⟨decide_eq_false (by omega), decide_eq_false (by omega), decide_eq_true h⟩)
/-- in lowest terms, its numbers of less than four thousand bits -/
structure Low (a : Q2) : Prop where
  pos : 0 < a.2
  co : Int.gcd a.1 a.2 = 1
  s1 : Sz 4000 a.1
  s2 : Sz 4000 a.2
def LowO : Option Q2 → Prop
  | none => True
  | some a => Low a
theorem dvd_co {a b c : Int} (h : a ∣ b * c) (g : Int.gcd a b = 1) : a ∣ c := by
  have h1 : a.natAbs ∣ b.natAbs * c.natAbs := by rw [← Int.natAbs_mul]; exact Int.natAbs_dvd_natAbs.mpr h
  exact Int.natAbs_dvd_natAbs.mp (Nat.Coprime.dvd_of_dvd_mul_left g h1)
theorem low_eq {a b : Q2} (h : Low a) (g : Low b) (e : a.1 * b.2 = b.1 * a.2) : a = b := by
  have h1 := h.pos
  have g1 := g.pos
  have d1 : a.2 ∣ b.2 := by
    have : a.2 ∣ a.1 * b.2 := ⟨b.1, by rw [e, Int.mul_comm]⟩
    exact dvd_co this (by rw [Int.gcd_comm]; exact h.co)
  have d2 : b.2 ∣ a.2 := by
    have : b.2 ∣ b.1 * a.2 := ⟨a.1, by rw [← e, Int.mul_comm]⟩
    exact dvd_co this (by rw [Int.gcd_comm]; exact g.co)
  have e2 : a.2 = b.2 := Int.le_antisymm (Int.le_of_dvd g1 d1) (Int.le_of_dvd h1 d2)
  rw [e2] at e
  exact Prod.ext (Int.eq_of_mul_eq_mul_right (by omega) e) e2
theorem low_eqq {a b : Q2} (h : Low a) (g : Low b) : (decide (a.1 = b.1) && decide (a.2 = b.2)) = eqq a b := by
  unfold eqq
  by_cases e : a.1 * b.2 = b.1 * a.2
  · rw [decide_eq_true e, low_eq h g e]; simp
  · rw [decide_eq_false e]
    cases z1 : decide (a.1 = b.1) with
    | false => rfl
    | true =>
      cases z2 : decide (a.2 = b.2) with
      | false => rfl
      | true =>
        exact absurd (by rw [of_decide_eq_true z1, of_decide_eq_true z2]) e
/-! ### their values -/
/-- None, or the tuple of an end's two numbers -/
def EndV (k : Nat) (H : Hp) (v : V) : Option Q2 → Prop
  | none => v = .non
  | some a => ∃ p, v = .ref p ∧ H p = some (.tup [.int a.1, .int a.2]) ∧ 0 < a.2 ∧ Sz k a.1 ∧ Sz k a.2
theorem EndV.mono {k j : Nat} (l : k ≤ j) {H : Hp} {v : V} : ∀ {e : Option Q2}, EndV k H v e → EndV j H v e
  | none, h => h
  | some _, ⟨p, h1, h2, h3, h4, h5⟩ => ⟨p, h1, h2, h3, h4.mono l, h5.mono l⟩
def MsV (C : Addr) (H : Hp) (v : V) : Option Q2 → Prop
  | none => v = .non
  | some a => ∃ p, v = .ref p ∧ MAt C H p a.1 a.2
theorem EndV.same {k : Nat} {H H' : Hp} {v : V} : ∀ {e : Option Q2}, EndV k H v e → Same H H' → EndV k H' v e
  | none, h, _ => h
  | some _, ⟨p, h1, h2, h3⟩, s => ⟨p, h1, s _ _ h2, h3⟩
theorem EndV.kp {j : Nat} {H H' : Hp} {h : Addr} {n : Nat} {v : V} : ∀ {e : Option Q2}, EndV j H v e → HandAt H h n → Kp h H H' → EndV j H' v e
  | none, h, _, _ => h
  | some _, ⟨p, h1, h2, h3⟩, hh, k => ⟨p, h1, k.get hh h2 rfl, h3⟩
theorem MsV.same {C : Addr} {H H' : Hp} {v : V} : ∀ {e : Option Q2}, MsV C H v e → Same H H' → MsV C H' v e
  | none, h, _ => h
  | some _, ⟨p, h1, h2⟩, s => ⟨p, h1, h2.same s⟩
theorem MsV.kp {C : Addr} {H H' : Hp} {h : Addr} {n : Nat} {v : V} : ∀ {e : Option Q2}, MsV C H v e → HandAt H h n → Kp h H H' → MsV C H' v e
  | none, h, _, _ => h
  | some _, ⟨p, h1, h2⟩, hh, k => ⟨p, h1, h2.kp hh k⟩
/-! ### a Stretch -/
def sf (l h : V) (li hi : Bool) : List (Str × V) := [("low", l), ("high", h), ("low_in", .bl li), ("high_in", .bl hi)]
theorem sf_put (l h : V) (li hi : Bool) : putF "high_in" (.bl hi) (putF "low_in" (.bl li) (putF "high" h (putF "low" l []))) = sf l h li hi := by
  have e1 : putF ("high" : Str) h (putF ("low" : Str) l []) = ([("low", l), ("high", h)] : List (Str × V)) := by
    show (if ("low" : Str) = "high" then [(("low" : Str), h)] else (("low" : Str), l) :: putF "high" h []) = _
    rw [if_neg (by decide +kernel)] <;> rfl
  have e2 : putF ("low_in" : Str) (.bl li) [("low", l), ("high", h)] = ([("low", l), ("high", h), ("low_in", .bl li)] : List (Str × V)) := by
    show (if ("low" : Str) = "low_in" then _ else (("low" : Str), l) :: (if ("high" : Str) = "low_in" then _ else (("high" : Str), h) :: putF "low_in" (V.bl li) [])) = _
    rw [if_neg (by decide +kernel), if_neg (by decide +kernel)] <;> rfl
  have e3 : putF ("high_in" : Str) (.bl hi) [("low", l), ("high", h), ("low_in", .bl li)] = sf l h li hi := by
    show (if ("low" : Str) = "high_in" then _ else (("low" : Str), l) :: (if ("high" : Str) = "high_in" then _ else (("high" : Str), h) :: (if ("low_in" : Str) = "high_in" then _ else (("low_in" : Str), V.bl li) :: putF "high_in" (V.bl hi) []))) = _
    rw [if_neg (by decide +kernel), if_neg (by decide +kernel), if_neg (by decide +kernel)] <;> rfl
  rw [e1, e2, e3]
theorem sf_low (l h : V) (li hi : Bool) : (sf l h li hi).lookup ("low" : Str) = some l := by
  rw [← sf_put, lookup_putF, if_neg (by decide +kernel), lookup_putF, if_neg (by decide +kernel), lookup_putF, if_neg (by decide +kernel), lookup_putF, if_pos rfl]
theorem sf_high (l h : V) (li hi : Bool) : (sf l h li hi).lookup ("high" : Str) = some h := by
  rw [← sf_put, lookup_putF, if_neg (by decide +kernel), lookup_putF, if_neg (by decide +kernel), lookup_putF, if_pos rfl]
theorem sf_low_in (l h : V) (li hi : Bool) : (sf l h li hi).lookup ("low_in" : Str) = some (.bl li) := by
  rw [← sf_put, lookup_putF, if_neg (by decide +kernel), lookup_putF, if_pos rfl]
theorem sf_high_in (l h : V) (li hi : Bool) : (sf l h li hi).lookup ("high_in" : Str) = some (.bl hi) := by
  rw [← sf_put, lookup_putF, if_pos rfl]
theorem sf_no (l h : V) (li hi : Bool) {m : Str} (h1 : ¬ m = "low") (h2 : ¬ m = "high") (h3 : ¬ m = "low_in") (h4 : ¬ m = "high_in") : (sf l h li hi).lookup m = none := by
  rw [← sf_put, lookup_putF, if_neg h4, lookup_putF, if_neg h3, lookup_putF, if_neg h2, lookup_putF, if_neg h1] <;> rfl
/-- a Stretch at p: its ends, whether they are in -/
structure StAt (CM CS : Addr) (H : Hp) (p : Addr) (lo hi : Option Q2) (li hj : Bool) : Prop where
  ob : ∃ dx l h, H p = some (.ins CS dx (sf l h li hj)) ∧ MsV CM H l lo ∧ MsV CM H h hi
  l1 : LowO lo
  l2 : LowO hi
  n1 : lo = none → li = false
  n2 : hi = none → hj = false
theorem StAt.same {CM CS p : Addr} {H H' : Hp} {lo hi : Option Q2} {li hj : Bool} (a : StAt CM CS H p lo hi li hj) (s : Same H H') : StAt CM CS H' p lo hi li hj := by
  obtain ⟨⟨dx, l, h, h1, h2, h3⟩, a1, a2, a3, a4⟩ := a
  exact ⟨⟨dx, l, h, s _ _ h1, h2.same s, h3.same s⟩, a1, a2, a3, a4⟩
theorem StAt.kp {CM CS p h : Addr} {H H' : Hp} {n : Nat} {lo hi : Option Q2} {li hj : Bool} (a : StAt CM CS H p lo hi li hj) (hh : HandAt H h n) (s : Kp h H H') : StAt CM CS H' p lo hi li hj := by
  obtain ⟨⟨dx, l, h, h1, h2, h3⟩, a1, a2, a3, a4⟩ := a
  exact ⟨⟨dx, l, h, s.get hh h1 rfl, h2.kp hh s, h3.kp hh s⟩, a1, a2, a3, a4⟩
theorem cmpBack_of {X : Cx} {pins : List (Addr × Obj)} {σ : L2.St} {Q : VK} {u : Value} {s' : Shared} (h : EP X pins σ Q u s') : PySem.W.CmpBack (EP X pins σ Q) u s' := by
  have h0 := h
  obtain ⟨v, H', I', r, q⟩ := h
  cases v with
  | non => cases r; exact h0
  | bl _ => cases r; exact h0
  | int _ => obtain ⟨t, rfl⟩ := r; exact h0
  | str _ => obtain ⟨t, rfl⟩ := r; exact h0
  | byt _ => obtain ⟨t, rfl⟩ := r; exact h0
  | flt _ => obtain ⟨t, rfl⟩ := r; exact h0
  | ref _ => cases r; exact h0
  | ty _ => cases r; exact h0
/-- == by an own __eq__, of two instances of one class -/
theorem op_eqI {X : Cx} {CX : CXT} {n : Nat} {C f : Addr} {fd : FuncData} {ps : List Str} {sp : Sp} {E : XK} (F : FnOk X.prog X.w X.K X.mg X.base CX n f fd ps sp) (hr : Room n X.A) {ds : List Value} (hm : Meth X.K C "__eq__" f) (hb : Binds X.K fd ps ds) (hd : Vals [] ds) (hx : Passes CX X E) :
    OpR X (compareOp .Eq) (fun x y H Q => ∃ a b dx dy fs gs, x = .ref a ∧ y = .ref b ∧ H a = some (.ins C dx fs) ∧ H b = some (.ins C dy gs) ∧ sp [.ref a, .ref b] H Q E) := by
  intro pins s σ H x y v u Q I rx ry hq
  obtain ⟨a, b, dx, dy, fs, gs, rfl, rfl, ha, hb', hsp⟩ := hq
  cases rx
  cases ry
  show wpAny (model X.prog X.w) X.A (richCompare .Eq (.ref a) (.ref b)) (EP X pins σ Q) X.xe s
  obtain ⟨mA, J, _⟩ := ins_get I.hok ha
  obtain ⟨mB, J', _⟩ := ins_get I.hok hb'
  obtain ⟨od, J, _⟩ := J.look
  obtain ⟨od', J', _⟩ := J'.look
  obtain ⟨m, hF⟩ := I.fr
  refine PySem.W.cmp_K (op := .Eq) (tb := .ref C) hr.units0 hF I.ok.mod.kin J J'.type (by simp [PySem.W.notFirst]) hm.at_ hm.fn ?_
  refine thn ?_ fun u s' => cmpBack_of
  exact run_fn (us := [.ref a, .ref b]) (vs := [.ref a, .ref b]) F hr hb hd hx I (.cons rfl (.cons rfl .nil)) hsp
/-! ### promises -/
/-- the tuple of two ends and two truths, between which something is -/
structure EndsAt (H : Hp) (p : Addr) (ea eb : Option Q2) (ia ib : Bool) : Prop where
  ob : ∃ va vb, H p = some (.tup [va, vb, .bl ia, .bl ib]) ∧ EndV 140 H va ea ∧ EndV 140 H vb eb
  so : someB ea eb ia ib = true
theorem EndsAt.same {H H' : Hp} {p : Addr} {ea eb : Option Q2} {ia ib : Bool} (a : EndsAt H p ea eb ia ib) (s : Same H H') : EndsAt H' p ea eb ia ib := by
  obtain ⟨⟨va, vb, h1, h2, h3⟩, h4⟩ := a
  exact ⟨⟨va, vb, s _ _ h1, h2.same s, h3.same s⟩, h4⟩
theorem EndsAt.kp {H H' : Hp} {p h : Addr} {n : Nat} {ea eb : Option Q2} {ia ib : Bool} (a : EndsAt H p ea eb ia ib) (hh : HandAt H h n) (s : Kp h H H') : EndsAt H' p ea eb ia ib := by
  obtain ⟨⟨va, vb, h1, h2, h3⟩, h4⟩ := a
  exact ⟨⟨va, vb, s.get hh h1 rfl, h2.kp hh s, h3.kp hh s⟩, h4⟩
def sp_isend (CM : Addr) : Sp := fun vs H Q _ => ∃ (v : V) (m : Option Q2), vs = [v] ∧ MsV CM H v m ∧ Q (.bl true) H
def sp_meq (CM : Addr) : Sp := fun vs H Q _ => ∃ (p q : Addr) (a b : Q2), vs = [.ref p, .ref q] ∧ MAt CM H p a.1 a.2 ∧ MAt CM H q b.1 b.2 ∧ Q (.bl (decide (a.1 = b.1) && decide (a.2 = b.2))) H
def sp_empty (CM : Addr) : Sp := fun vs H Q _ => ∃ (l h : V) (lo hi : Option Q2) (li hj : Bool), vs = [l, h, .bl li, .bl hj] ∧ MsV CM H l lo ∧ MsV CM H h hi ∧ LowO lo ∧ LowO hi ∧ Q (.bl (!someB lo hi li hj)) H
def sp_sinit (CM CS : Addr) : Sp := fun vs H Q _ => ∃ (p dx : Addr) (l h : V) (lo hi : Option Q2) (li hj : Bool), vs = [.ref p, l, h, .bl li, .bl hj] ∧ H p = some (.ins CS dx []) ∧ MsV CM H l lo ∧ MsV CM H h hi ∧ LowO lo ∧ LowO hi ∧ someB lo hi li hj = true ∧
  ∀ H', H' p = some (.ins CS dx (sf l h (li && lo.isSome) (hj && hi.isSome))) → (∀ q o, H q = some o → q ≠ p → H' q = some o) → Q .non H'
theorem MsV.put {CM p C dx : Addr} {H : Hp} {v : V} {o : HO} (hp : H p = some (.ins C dx [])) : ∀ {m : Option Q2}, MsV CM H v m → MsV CM (upd H p o) v m
  | none, h => h
  | some _, ⟨q, h1, ⟨dy, h2⟩⟩ => ⟨q, h1, ⟨dy, by
      rw [upd_ne (ne_of h2 hp (by intro e; injection e with _ _ e; cases e))]; exact h2⟩⟩
theorem StAt.mk' {CM CS p dx : Addr} {H H' : Hp} {l h : V} {lo hi : Option Q2} {li hj : Bool} (h1 : H' p = some (.ins CS dx (sf l h (li && lo.isSome) (hj && hi.isSome)))) (s : Same H H') (ml : MsV CM H l lo) (mh : MsV CM H h hi) (l1 : LowO lo) (l2 : LowO hi) :
    StAt CM CS H' p lo hi (li && lo.isSome) (hj && hi.isSome) :=
  ⟨⟨dx, l, h, h1, ml.same s, mh.same s⟩, l1, l2, fun e => by rw [e]; simp, fun e => by rw [e]; simp⟩
theorem ReO.isS : ∀ {a b : Option Q2}, ReO a b → a.isSome = b.isSome
  | none, none, _ => rfl
  | some _, some _, _ => rfl
  | none, some _, h => h.elim
  | some _, none, h => h.elim
theorem Fr.re {t u a b : Int} (f : Fr t u a b) (hb : 0 < b) : Re (t, u) (a, b) := ⟨f.pos, hb, f.eq⟩
/-! ### what two stretches have in common -/
def cutLo : Option Q2 → Bool → Option Q2 → Bool → Option Q2 × Bool
  | none, _, n, j => (n, j)
  | some a, i, none, _ => (some a, i)
  | some a, i, some b, j => if ltq a b then (some b, j) else if eqq a b then (some a, i && j) else (some a, i)
def cutHi : Option Q2 → Bool → Option Q2 → Bool → Option Q2 × Bool
  | none, _, n, j => (n, j)
  | some a, i, none, _ => (some a, i)
  | some a, i, some b, j => if ltq b a then (some b, j) else if eqq a b then (some a, i && j) else (some a, i)
/-- the same end, and in or not alike where there is one -/
def Alike (x y : Option Q2 × Bool) : Prop := ReO x.1 y.1 ∧ (x.1.isSome = true → x.2 = y.2)
theorem Alike.flag {x y : Option Q2 × Bool} (h : Alike x y) : (x.2 && x.1.isSome) = (y.2 && y.1.isSome) := by
  obtain ⟨h1, h2⟩ := h
  rw [← h1.isS]
  cases e : x.1.isSome with
  | true => rw [h2 e]
  | false => simp
theorem Alike.someB {x y z w : Option Q2 × Bool} (h : Alike x y) (g : Alike z w) : My.someB x.1 z.1 x.2 z.2 = My.someB y.1 w.1 y.2 w.2 := by
  obtain ⟨x, i⟩ := x
  obtain ⟨y, j⟩ := y
  obtain ⟨z, k⟩ := z
  obtain ⟨w, l⟩ := w
  obtain ⟨h1, h2⟩ := h
  obtain ⟨g1, g2⟩ := g
  rw [someB_congr h1 g1]
  cases x with
  | none => cases y with
    | none => rfl
    | some _ => exact h1.elim
  | some a => cases z with
    | none => cases w with
      | none => cases y <;> rfl
      | some _ => exact g1.elim
    | some b =>
      have e1 : i = j := h2 rfl
      have e2 : k = l := g2 rfl
      rw [e1, e2]
theorem Alike.norm {a b : Option Q2} {i : Bool} (h : ReO a b) : Alike (a, i && b.isSome) (b, i) := ⟨h, fun e => by
  have e1 : a.isSome = true := e
  rw [h.isS] at e1
  show (i && b.isSome) = i
  rw [e1]; simp⟩
theorem cutLo_alike {x y z w : Option Q2 × Bool} (h : Alike x y) (g : Alike z w) : Alike (cutLo x.1 x.2 z.1 z.2) (cutLo y.1 y.2 w.1 w.2) := by
  obtain ⟨x, i⟩ := x
  obtain ⟨y, j⟩ := y
  obtain ⟨z, k⟩ := z
  obtain ⟨w, l⟩ := w
  obtain ⟨h1, h2⟩ := h
  obtain ⟨g1, g2⟩ := g
  cases x with
  | none => cases y with
    | none => exact ⟨g1, g2⟩
    | some _ => exact h1.elim
  | some a => cases y with
    | none => exact h1.elim
    | some a' => cases z with
      | none => cases w with
        | none => exact ⟨h1, h2⟩
        | some _ => exact g1.elim
      | some b => cases w with
        | none => exact g1.elim
        | some b' =>
          have e1 : i = j := h2 rfl
          have e2 : k = l := g2 rfl
          show Alike (if ltq a b then (some b, k) else if eqq a b then (some a, i && k) else (some a, i)) (if ltq a' b' then (some b', l) else if eqq a' b' then (some a', j && l) else (some a', j))
          rw [ltq_congr h1 g1, eqq_congr h1 g1, e1, e2]
          split
          · exact ⟨g1, fun _ => rfl⟩
          · split
            · exact ⟨h1, fun _ => rfl⟩
            · exact ⟨h1, fun _ => rfl⟩
theorem cutHi_alike {x y z w : Option Q2 × Bool} (h : Alike x y) (g : Alike z w) : Alike (cutHi x.1 x.2 z.1 z.2) (cutHi y.1 y.2 w.1 w.2) := by
  obtain ⟨x, i⟩ := x
  obtain ⟨y, j⟩ := y
  obtain ⟨z, k⟩ := z
  obtain ⟨w, l⟩ := w
  obtain ⟨h1, h2⟩ := h
  obtain ⟨g1, g2⟩ := g
  cases x with
  | none => cases y with
    | none => exact ⟨g1, g2⟩
    | some _ => exact h1.elim
  | some a => cases y with
    | none => exact h1.elim
    | some a' => cases z with
      | none => cases w with
        | none => exact ⟨h1, h2⟩
        | some _ => exact g1.elim
      | some b => cases w with
        | none => exact g1.elim
        | some b' =>
          have e1 : i = j := h2 rfl
          have e2 : k = l := g2 rfl
          show Alike (if ltq b a then (some b, k) else if eqq a b then (some a, i && k) else (some a, i)) (if ltq b' a' then (some b', l) else if eqq a' b' then (some a', j && l) else (some a', j))
          rw [ltq_congr g1 h1, eqq_congr h1 g1, e1, e2]
          split
          · exact ⟨g1, fun _ => rfl⟩
          · split
            · exact ⟨h1, fun _ => rfl⟩
            · exact ⟨h1, fun _ => rfl⟩
theorem cutLo_low {a b : Option Q2} {i j : Bool} (h : LowO a) (g : LowO b) : LowO (cutLo a i b j).1 := by
  cases a with
  | none => exact g
  | some a => cases b with
    | none => exact h
    | some b =>
      show LowO (if ltq a b then (some b, j) else if eqq a b then (some a, i && j) else (some a, i)).1
      split
      · exact g
      · split <;> exact h
theorem cutHi_low {a b : Option Q2} {i j : Bool} (h : LowO a) (g : LowO b) : LowO (cutHi a i b j).1 := by
  cases a with
  | none => exact g
  | some a => cases b with
    | none => exact h
    | some b =>
      show LowO (if ltq b a then (some b, j) else if eqq a b then (some a, i && j) else (some a, i)).1
      split
      · exact g
      · split <;> exact h
def sp_cutEnd (CM CS : Addr) (f : Option Q2 → Option Q2 → Bool → Bool → Option Q2 → Option Q2 → Bool → Bool → Option Q2 × Bool) : Sp := fun vs H Q _ => ∃ (p q : Addr) (m1 m2 n1 n2 : Option Q2) (i1 i2 j1 j2 : Bool), vs = [.ref p, .ref q] ∧ StAt CM CS H p m1 m2 i1 i2 ∧ StAt CM CS H q n1 n2 j1 j2 ∧
  ∀ (r : Addr) (v : V) (H' : Hp), Same H H' → H' r = some (.tup [v, .bl (f m1 m2 i1 i2 n1 n2 j1 j2).2]) → MsV CM H' v (f m1 m2 i1 i2 n1 n2 j1 j2).1 → Q (.ref r) H'
/-- a Stretch, or None where nothing is between -/
def CutV (CM CS : Addr) (H : Hp) (v : V) (lo hi : Option Q2 × Bool) : Prop :=
  (someB lo.1 hi.1 lo.2 hi.2 = true ∧ ∃ r, v = .ref r ∧ StAt CM CS H r lo.1 hi.1 (lo.2 && lo.1.isSome) (hi.2 && hi.1.isSome)) ∨ (someB lo.1 hi.1 lo.2 hi.2 = false ∧ v = .non)
def sp_cutS (CM CS : Addr) : Sp := fun vs H Q _ => ∃ (p q : Addr) (m1 m2 n1 n2 : Option Q2) (i1 i2 j1 j2 : Bool), vs = [.ref p, .ref q] ∧ StAt CM CS H p m1 m2 i1 i2 ∧ StAt CM CS H q n1 n2 j1 j2 ∧
  ∀ (v : V) (H' : Hp), Same H H' → CutV CM CS H' v (cutLo m1 i1 n1 j1) (cutHi m2 i2 n2 j2) → Q v H'
/-- the law's own: a tuple of four, or None -/
def DueV (H : Hp) (v : V) (lo hi : Option Q2 × Bool) : Prop :=
  (someB lo.1 hi.1 lo.2 hi.2 = true ∧ ∃ r, v = .ref r ∧ EndsAt H r lo.1 hi.1 lo.2 hi.2) ∨ (someB lo.1 hi.1 lo.2 hi.2 = false ∧ v = .non)
theorem DueV.same {H H' : Hp} {v : V} {lo hi : Option Q2 × Bool} (h : DueV H v lo hi) (s : Same H H') : DueV H' v lo hi := by
  rcases h with ⟨h1, r, h2, h3⟩ | h
  · exact .inl ⟨h1, r, h2, h3.same s⟩
  · exact .inr h
theorem CutV.same {CM CS : Addr} {H H' : Hp} {v : V} {lo hi : Option Q2 × Bool} (h : CutV CM CS H v lo hi) (s : Same H H') : CutV CM CS H' v lo hi := by
  rcases h with ⟨h1, r, h2, h3⟩ | h
  · exact .inl ⟨h1, r, h2, h3.same s⟩
  · exact .inr h
/-- what is told is what is due -/
def Match (CM CS : Addr) (H : Hp) (found due : V) : Prop :=
  (found = .non ∧ due = .non) ∨ ∃ (r d : Addr) (lo hi ea eb : Option Q2) (ia ib : Bool), found = .ref r ∧ due = .ref d ∧ EndsAt H d ea eb ia ib ∧ StAt CM CS H r lo hi (ia && ea.isSome) (ib && eb.isSome) ∧ ReO lo ea ∧ ReO hi eb
theorem Match.same {CM CS : Addr} {H H' : Hp} {f d : V} (h : Match CM CS H f d) (s : Same H H') : Match CM CS H' f d := by
  rcases h with h | ⟨r, d, lo, hi, ea, eb, ia, ib, h1, h2, h3, h4, h5, h6⟩
  · exact .inl h
  · exact .inr ⟨r, d, lo, hi, ea, eb, ia, ib, h1, h2, h3.same s, h4.same s, h5, h6⟩
theorem Re.trans {a b c : Q2} (h : Re a b) (g : Re b c) : Re a c := by
  obtain ⟨h1, h2, h3⟩ := h
  obtain ⟨g1, g2, g3⟩ := g
  refine ⟨h1, g2, Int.eq_of_mul_eq_mul_right (show b.2 ≠ 0 by omega) ?_⟩
  grind
theorem ReO.trans : ∀ {a b c : Option Q2}, ReO a b → ReO b c → ReO a c
  | none, none, none, _, _ => trivial
  | some _, some _, some _, h, g => Re.trans h g
  | none, some _, _, h, _ => h.elim
  | some _, none, _, h, _ => h.elim
  | none, none, some _, _, g => g.elim
  | some _, some _, none, _, g => g.elim
def PosO : Option Q2 → Prop
  | none => True
  | some a => 0 < a.2
theorem LowO.posO : ∀ {a : Option Q2}, LowO a → PosO a
  | none, _ => trivial
  | some _, h => Low.pos h
theorem ReO.refl : ∀ {a : Option Q2}, PosO a → ReO a a
  | none, _ => trivial
  | some _, h => Re.refl h
theorem Alike.trans {x y z : Option Q2 × Bool} (h : Alike x y) (g : Alike y z) : Alike x z := ⟨h.1.trans g.1, fun e => (h.2 e).trans (g.2 (by rw [← h.1.isS]; exact e))⟩
theorem StAt.raw {CM CS p : Addr} {H : Hp} {lo hi : Option Q2} {li hj : Bool} (a : StAt CM CS H p lo hi li hj) {m : Str} (h1 : ¬ m = "low") (h2 : ¬ m = "high") (h3 : ¬ m = "low_in") (h4 : ¬ m = "high_in") : ∃ dx fs, H p = some (.ins CS dx fs) ∧ fs.lookup m = none := by
  obtain ⟨⟨dx, l, h, e, _⟩, _⟩ := a
  exact ⟨dx, _, e, sf_no _ _ _ _ h1 h2 h3 h4⟩
theorem EndsAt.due {H : Hp} {p : Addr} {ea eb : Option Q2} {ia ib : Bool} (a : EndsAt H p ea eb ia ib) : DueV H (.ref p) (ea, ia) (eb, ib) := .inl ⟨a.so, p, rfl, a⟩
/-! ### what a stretch holds -/
def loIn : Option Q2 → Bool → Q2 → Bool
  | none, _, _ => true
  | some a, i, x => ltq a x || (i && eqq a x)
def hiIn : Option Q2 → Bool → Q2 → Bool
  | none, _, _ => true
  | some b, j, x => ltq x b || (j && eqq x b)
theorem ltq_trans {a b c : Q2} (hb : 0 < b.2) (ha : 0 < a.2) (hc : 0 < c.2) (h : ltq a b = true) (g : ltq b c = true) : ltq a c = true := by
  unfold ltq at *
  have h := of_decide_eq_true h
  have g := of_decide_eq_true g
  refine decide_eq_true ?_
  have h2 := Int.mul_lt_mul_of_pos_right h hc
  have g2 := Int.mul_lt_mul_of_pos_right g ha
  have e1 : b.1 * a.2 * c.2 = b.1 * c.2 * a.2 := by simp only [Int.mul_assoc, Int.mul_comm, Int.mul_left_comm]
  rw [e1] at h2
  have k := Int.lt_trans h2 g2
  have e2 : a.1 * b.2 * c.2 = a.1 * c.2 * b.2 := by simp only [Int.mul_assoc, Int.mul_comm, Int.mul_left_comm]
  have e3 : c.1 * b.2 * a.2 = c.1 * a.2 * b.2 := by simp only [Int.mul_assoc, Int.mul_comm, Int.mul_left_comm]
  rw [e2, e3] at k
  exact Int.lt_of_mul_lt_mul_right k (Int.le_of_lt hb)
theorem eqq_re {a b : Q2} (ha : 0 < a.2) (hb : 0 < b.2) (h : eqq a b = true) : Re a b := ⟨ha, hb, of_decide_eq_true h⟩
theorem loIn_alike {x y : Option Q2 × Bool} {q r : Q2} (h : Alike x y) (g : Re q r) : loIn x.1 x.2 q = loIn y.1 y.2 r := by
  obtain ⟨x, i⟩ := x
  obtain ⟨y, j⟩ := y
  obtain ⟨h1, h2⟩ := h
  cases x with
  | none => cases y with
    | none => rfl
    | some _ => exact h1.elim
  | some a => cases y with
    | none => exact h1.elim
    | some b =>
      have e : i = j := h2 rfl
      show (ltq a q || (i && eqq a q)) = (ltq b r || (j && eqq b r))
      rw [ltq_congr h1 g, eqq_congr h1 g, e]
theorem hiIn_alike {x y : Option Q2 × Bool} {q r : Q2} (h : Alike x y) (g : Re q r) : hiIn x.1 x.2 q = hiIn y.1 y.2 r := by
  obtain ⟨x, i⟩ := x
  obtain ⟨y, j⟩ := y
  obtain ⟨h1, h2⟩ := h
  cases x with
  | none => cases y with
    | none => rfl
    | some _ => exact h1.elim
  | some a => cases y with
    | none => exact h1.elim
    | some b =>
      have e : i = j := h2 rfl
      show (ltq q a || (i && eqq q a)) = (ltq r b || (j && eqq r b))
      rw [ltq_congr g h1, eqq_congr g h1, e]
theorem loIn_up {a b x : Q2} {i j : Bool} (ha : 0 < a.2) (hb : 0 < b.2) (hx : 0 < x.2) (h : ltq a b = true) (g : (ltq b x || (j && eqq b x)) = true) : (ltq a x || (i && eqq a x)) = true := by
  have e : ltq a x = true := by
    cases e1 : ltq b x with
    | true => exact ltq_trans hb ha hx h e1
    | false =>
      rw [e1, Bool.false_or] at g
      have e2 := (Bool.and_eq_true_iff.mp g).2
      rw [← ltq_congr (Re.refl ha) (eqq_re hb hx e2)]
      exact h
  rw [e]; rfl
theorem hiIn_up {a b x : Q2} {i j : Bool} (ha : 0 < a.2) (hb : 0 < b.2) (hx : 0 < x.2) (h : ltq b a = true) (g : (ltq x b || (j && eqq x b)) = true) : (ltq x a || (i && eqq x a)) = true := by
  have e : ltq x a = true := by
    cases e1 : ltq x b with
    | true => exact ltq_trans hb hx ha e1 h
    | false =>
      rw [e1, Bool.false_or] at g
      have e2 := (Bool.and_eq_true_iff.mp g).2
      rw [ltq_congr (eqq_re hx hb e2) (Re.refl ha)]
      exact h
  rw [e]; rfl
theorem cutLo_in {a b : Option Q2} {i j : Bool} {x : Q2} (ha : PosO a) (hb : PosO b) (hx : 0 < x.2) : loIn (cutLo a i b j).1 (cutLo a i b j).2 x = (loIn a i x && loIn b j x) := by
  cases a with
  | none => rfl
  | some a => cases b with
    | none => exact (Bool.and_true _).symm
    | some b =>
      show loIn (if ltq a b then (some b, j) else if eqq a b then (some a, i && j) else (some a, i)).1 (if ltq a b then (some b, j) else if eqq a b then (some a, i && j) else (some a, i)).2 x = ((ltq a x || (i && eqq a x)) && (ltq b x || (j && eqq b x)))
      rcases lt_tri a b with ⟨h1, h2, h3⟩ | ⟨h1, h2, h3⟩ | ⟨h1, h2, h3⟩
      · rw [h1]
        show (ltq b x || (j && eqq b x)) = _
        cases e : (ltq b x || (j && eqq b x)) with
        | false => simp
        | true => rw [loIn_up ha hb hx h1 e]; rfl
      · rw [h1, h2]
        show (ltq a x || (i && j && eqq a x)) = _
        have r := eqq_re ha hb h2
        rw [← ltq_congr r (Re.refl hx), ← eqq_congr r (Re.refl hx)]
        cases ltq a x <;> cases eqq a x <;> cases i <;> cases j <;> rfl
      · rw [h1, h2]
        show (ltq a x || (i && eqq a x)) = _
        cases e : (ltq a x || (i && eqq a x)) with
        | false => rfl
        | true => rw [loIn_up hb ha hx h3 e]; rfl
theorem cutHi_in {a b : Option Q2} {i j : Bool} {x : Q2} (ha : PosO a) (hb : PosO b) (hx : 0 < x.2) : hiIn (cutHi a i b j).1 (cutHi a i b j).2 x = (hiIn a i x && hiIn b j x) := by
  cases a with
  | none => rfl
  | some a => cases b with
    | none => exact (Bool.and_true _).symm
    | some b =>
      show hiIn (if ltq b a then (some b, j) else if eqq a b then (some a, i && j) else (some a, i)).1 (if ltq b a then (some b, j) else if eqq a b then (some a, i && j) else (some a, i)).2 x = ((ltq x a || (i && eqq x a)) && (ltq x b || (j && eqq x b)))
      rcases lt_tri a b with ⟨h1, h2, h3⟩ | ⟨h1, h2, h3⟩ | ⟨h1, h2, h3⟩
      · rw [h3, h2]
        show (ltq x a || (i && eqq x a)) = _
        cases e : (ltq x a || (i && eqq x a)) with
        | false => rfl
        | true => rw [hiIn_up hb ha hx h1 e]; rfl
      · rw [h3, h2]
        show (ltq x a || (i && j && eqq x a)) = _
        have r := eqq_re ha hb h2
        rw [← ltq_congr (Re.refl hx) r, ← eqq_congr (Re.refl hx) r]
        cases ltq x a <;> cases eqq x a <;> cases i <;> cases j <;> rfl
      · rw [h3]
        show (ltq x b || (j && eqq x b)) = _
        cases e : (ltq x b || (j && eqq x b)) with
        | false => simp
        | true => rw [hiIn_up ha hb hx h3 e]; rfl
/-! ### sums, once more, by the size of the new bottom -/
def sp_bin2 (C : Addr) (f g : Int → Int → Int → Int → Int) : Sp := fun vs H Q _ => ∃ (p q : Addr) (t u t' u' : Int), vs = [.ref p, .ref q] ∧ MAt C H p t u ∧ MAt C H q t' u' ∧ 0 < u ∧ 0 < u' ∧ Sz 100000 t ∧ Sz 100000 u ∧ Sz 100000 t' ∧ Sz 100000 u' ∧ Sz 9000 (u * u') ∧
  ∀ (r : Addr) (t2 u2 : Int) (H' : Hp), H r = none → Same H H' → MAt C H' r t2 u2 → Fr t2 u2 (f t u t' u') (g t u t' u') → Q (.ref r) H'
def sp_part2 (C : Addr) : Sp := fun vs H Q _ => ∃ (p : Addr) (t u m : Int), vs = [.ref p, .int m] ∧ MAt C H p t u ∧ 0 < u ∧ m ≠ 0 ∧ Sz 100000 t ∧ Sz 100000 u ∧ Sz 100000 m ∧ Sz 9000 (u * m) ∧
  ∀ (r : Addr) (t2 u2 : Int) (H' : Hp), H r = none → Same H H' → MAt C H' r t2 u2 → Fr t2 u2 t (u * m) → Q (.ref r) H'
/-- a Measure that the stretch holds -/
structure Held (CM : Addr) (H : Hp) (r : Addr) (x : Q2) (lo hi : Option Q2) (li hj : Bool) : Prop where
  at_ : MAt CM H r x.1 x.2
  pos : 0 < x.2
  s1 : Sz 15000 x.1
  s2 : Sz 15000 x.2
  low : loIn lo li x = true
  high : hiIn hi hj x = true
/-- a Measure in both, or None -/
def ShV (CM : Addr) (H : Hp) (v : V) (m1 m2 n1 n2 : Option Q2) (i1 i2 j1 j2 : Bool) : Prop :=
  (someB (cutLo m1 i1 n1 j1).1 (cutHi m2 i2 n2 j2).1 (cutLo m1 i1 n1 j1).2 (cutHi m2 i2 n2 j2).2 = true ∧ ∃ r x, v = .ref r ∧ Held CM H r x m1 m2 i1 i2 ∧ Held CM H r x n1 n2 j1 j2) ∨
  (someB (cutLo m1 i1 n1 j1).1 (cutHi m2 i2 n2 j2).1 (cutLo m1 i1 n1 j1).2 (cutHi m2 i2 n2 j2).2 = false ∧ v = .non)
theorem Held.same {CM r : Addr} {H H' : Hp} {x : Q2} {lo hi : Option Q2} {li hj : Bool} (a : Held CM H r x lo hi li hj) (s : Same H H') : Held CM H' r x lo hi li hj := ⟨a.at_.same s, a.pos, a.s1, a.s2, a.low, a.high⟩
theorem ShV.same {CM : Addr} {H H' : Hp} {v : V} {m1 m2 n1 n2 : Option Q2} {i1 i2 j1 j2 : Bool} (a : ShV CM H v m1 m2 n1 n2 i1 i2 j1 j2) (s : Same H H') : ShV CM H' v m1 m2 n1 n2 i1 i2 j1 j2 := by
  rcases a with ⟨e, r, x, h1, h2, h3⟩ | h
  · exact .inl ⟨e, r, x, h1, h2.same s, h3.same s⟩
  · exact .inr h
theorem eqq_self (a : Q2) : eqq a a = true := decide_eq_true rfl
/-! ### lists of points, made in comprehensions -/
/-- all but lists stays -/
def Nl (H H' : Hp) : Prop := ∀ c o, H c = some o → notHand o = true → H' c = some o
theorem Nl.of {H H' : Hp} (s : Same H H') : Nl H H' := fun c o e _ => s c o e
theorem Nl.put {H : Hp} {l : Addr} {xs : List V} {u : HO} (h : H l = some (.lst xs)) : Nl H (upd H l u) := fun c o e no => up2 h e no
theorem EndV.nl {k : Nat} {H H' : Hp} {v : V} : ∀ {e : Option Q2}, EndV k H v e → Nl H H' → EndV k H' v e
  | none, h, _ => h
  | some _, ⟨p, h1, h2, h3⟩, s => ⟨p, h1, s _ _ h2 rfl, h3⟩
def PtV (k : Nat) (H : Hp) (v : V) : Prop := ∃ a : Q2, EndV k H v (some a)
theorem PtV.nl {k : Nat} {H H' : Hp} {v : V} (h : PtV k H v) (s : Nl H H') : PtV k H' v := by
  obtain ⟨a, h⟩ := h
  exact ⟨a, h.nl s⟩
end My
namespace My
open PySem PySem.Spec PyProof.Rows L2
/-! ### errors -/
section
variable {P : Program} {w : World} {K : PySem.W.Frag} {mg : Str → Option Value} {base : Heap} {k : Nat} {f : Addr} {fd : FuncData} {ps : List Str}
/-- a def that lets nothing out keeps its promise where more may be let out -/
theorem lift {CX : CXT} {sp : Sp} (F : FnOk P w K mg base CX0 k f fd ps sp) : FnOk P w K mg base CX k f fd ps sp :=
  ⟨F.len, fun A outer s H args us vs Q E hr he hb hv hs => codeAny_mono (F.run A outer s H args us vs Q E hr he hb hv hs) fun r s' hq => by
    cases r with
    | error e => exact False.elim hq
    | ok fl => cases fl <;> exact hq⟩
end
section
variable {X : Cx} {CX : CXT} {k : Nat} {f C : Addr} {fd : FuncData} {ps : List Str} {sp : Sp} {dvs : List V} {ds : List Value} {x : Str} {p pos : Pos} {e : Expr} {es : List Expr} {t : TA} {E : L2.St → XK}
end
/-! ### several clauses, each with the error by the same name; nothing leaves -/
/-! ### facts of error classes -/
/-! ### things of any kind -/
/-- a thing that is no Measure and no Stretch; h: not the hand -/
def Thing (h : Addr) (H : Hp) (v : V) : Prop := v = .non ∨ (∃ b, v = .bl b) ∨ (∃ i, v = .int i) ∨ (∃ z, v = .str z) ∨ (∃ a xs, v = .ref a ∧ a ≠ h ∧ H a = some (.lst xs)) ∨ (∃ a xs, v = .ref a ∧ H a = some (.tup xs)) ∨ (∃ a kvs, v = .ref a ∧ H a = some (.dK kvs))
theorem Thing.same {h : Addr} {H H' : Hp} {v : V} (t : Thing h H v) (s : Same H H') : Thing h H' v := by
  rcases t with t | t | t | t | ⟨a, xs, e, n, t⟩ | ⟨a, xs, e, t⟩ | ⟨a, xs, e, t⟩
  · exact .inl t
  · exact .inr (.inl t)
  · exact .inr (.inr (.inl t))
  · exact .inr (.inr (.inr (.inl t)))
  · exact .inr (.inr (.inr (.inr (.inl ⟨a, xs, e, n, s _ _ t⟩))))
  · exact .inr (.inr (.inr (.inr (.inr (.inl ⟨a, xs, e, s _ _ t⟩)))))
  · exact .inr (.inr (.inr (.inr (.inr (.inr ⟨a, xs, e, s _ _ t⟩)))))
theorem Thing.kp {h : Addr} {n : Nat} {H H' : Hp} {v : V} (t : Thing h H v) (hh : HandAt H h n) (s : Kp h H H') : Thing h H' v := by
  rcases t with t | t | t | t | ⟨a, xs, e, n, t⟩ | ⟨a, xs, e, t⟩ | ⟨a, xs, e, t⟩
  · exact .inl t
  · exact .inr (.inl t)
  · exact .inr (.inr (.inl t))
  · exact .inr (.inr (.inr (.inl t)))
  · exact .inr (.inr (.inr (.inr (.inl ⟨a, xs, e, n, s _ _ t n⟩))))
  · exact .inr (.inr (.inr (.inr (.inr (.inl ⟨a, xs, e, s.get hh t rfl⟩)))))
  · exact .inr (.inr (.inr (.inr (.inr (.inr ⟨a, xs, e, s.get hh t rfl⟩)))))
/-- its class, as isinstance asks it -/
theorem Thing.ty {K : PySem.W.Frag} {h : Addr} {H : Hp} {v : V} (t : Thing h H v) : ∃ n : String, TyX K H v (.type n) ∧ (n = "NoneType" ∨ n = "bool" ∨ n = "int" ∨ n = "str" ∨ n = "list" ∨ n = "tuple" ∨ n = "dict") := by
  rcases t with rfl | ⟨b, rfl⟩ | ⟨i, rfl⟩ | ⟨z, rfl⟩ | ⟨a, xs, rfl, n, t⟩ | ⟨a, xs, rfl, t⟩ | ⟨a, xs, rfl, t⟩
  · exact ⟨_, .base .non, .inl rfl⟩
  · exact ⟨_, .base (.bl b), .inr (.inl rfl)⟩
  · exact ⟨_, .base (.int i), .inr (.inr (.inl rfl))⟩
  · exact ⟨_, .base (.str z), .inr (.inr (.inr (.inl rfl)))⟩
  · exact ⟨_, .base (.lst t), .inr (.inr (.inr (.inr (.inl rfl))))⟩
  · exact ⟨_, .base (.tup t), .inr (.inr (.inr (.inr (.inr (.inl rfl)))))⟩
  · exact ⟨_, .base (.dK t), .inr (.inr (.inr (.inr (.inr (.inr rfl)))))⟩
end My
namespace My
open PySem PySem.Spec PyProof.Rows L2
/-! ### == and != by an own __eq__, beside things of any kind -/
section
open AutoSeq1 (wpAny_loadPart')
variable {prog : Program} {w : World} {A : Around} {E : Value → Shared → Prop} {s : Shared}
end
/-- a value of a built-in kind -/
inductive Bk (H : Hp) : V → String → Prop where
  | non : Bk H .non "NoneType"
  | bl (b : Bool) : Bk H (.bl b) "bool"
  | int (i : Int) : Bk H (.int i) "int"
  | str (z : Str) : Bk H (.str z) "str"
  | lst {a : Addr} {xs : List V} (e : H a = some (.lst xs)) : Bk H (.ref a) "list"
  | tup {a : Addr} {xs : List V} (e : H a = some (.tup xs)) : Bk H (.ref a) "tuple"
theorem Bk.ty {K : PySem.W.Frag} {H : Hp} {x : V} {T : String} (b : Bk H x T) : TyX K H x (.type T) := by
  cases b with
  | non => exact .base .non
  | bl b => exact .base (.bl b)
  | int i => exact .base (.int i)
  | str z => exact .base (.str z)
  | lst e => exact .base (.lst e)
  | tup e => exact .base (.tup e)
theorem Bk.same {H H' : Hp} {x : V} {T : String} (b : Bk H x T) (s : Same H H') : Bk H' x T := by
  cases b with
  | non => exact .non
  | bl b => exact .bl b
  | int i => exact .int i
  | str z => exact .str z
  | lst e => exact .lst (s _ _ e)
  | tup e => exact .tup (s _ _ e)
/-- the kinds that no own class stands under -/
def kinds : List String := ["NoneType", "bool", "int", "str", "list", "tuple"]
theorem Bk.mem {H : Hp} {x : V} {T : String} (b : Bk H x T) : T ∈ kinds := by
  cases b <;> simp [kinds]
/-- what == and != ask of a class with an own __eq__ and no own __ne__ -/
structure EqC (K : PySem.W.Frag) (C : Addr) : Prop where
  ne : PySem.W.findIn K (.ref C) "__ne__" = some (some (.builtin "object.__ne__"))
  ob : PySem.W.mroIn K C (.type "object") = some true
  sub : ∀ T, T ∈ kinds → PySem.W.subIn K (.ref C) (.type T) = some false
  nf : ∀ T, T ∈ kinds → PySem.W.notFirst K C (.type T) = true
  kit : ∀ T, T ∈ kinds → PySem.W.kitOne K (.type T) (.ref C) = some false
def eqCB (x : Str) : PySem.W.Frag → Bool := fun K => He.eqO (PySem.W.findIn K (.ref (He.ga K x)) "__ne__") (some (some (.builtin "object.__ne__"))) && (decide (PySem.W.mroIn K (He.ga K x) (.type "object") = some true) &&
  ((kinds.all fun T => decide (PySem.W.subIn K (.ref (He.ga K x)) (.type T) = some false)) && ((kinds.all fun T => PySem.W.notFirst K (He.ga K x) (.type T)) && (kinds.all fun T => decide (PySem.W.kitOne K (.type T) (.ref (He.ga K x)) = some false)))))
theorem eqC_ok {x : Str} {K : PySem.W.Frag} (c : eqCB x K = true) : EqC K (He.ga K x) := by
  obtain ⟨c1, c⟩ := He.ba c
  obtain ⟨c2, c⟩ := He.ba c
  obtain ⟨c3, c⟩ := He.ba c
  obtain ⟨c4, c5⟩ := He.ba c
  exact ⟨He.eqO_ok c1, of_decide_eq_true c2, fun T h => of_decide_eq_true (List.all_eq_true.mp c3 T h), fun T h => List.all_eq_true.mp c4 T h, fun T h => of_decide_eq_true (List.all_eq_true.mp c5 T h)⟩
section
variable {X : Cx} {pins : List (Addr × Obj)} {σ : L2.St} {H : Hp} {s : Shared} {A : Around} {E : Value → Shared → Prop}
end
/-- how == answers: x == y tells b, and nothing changes -/
abbrev Eqb := V → V → Hp → Bool → Prop
def RcB (X : Cx) (n : Nat) (D : Eqb) : Prop := ∀ (A : Around) (pins : List (Addr × Obj)) (s : Shared) (σ : L2.St) (H : Hp) (x y : V) (u v : Value) (b : Bool), Sub X n A → Inv X pins σ H s → RelV x u → RelV y v → D x y H b →
  wpAny (model X.prog X.w) A (richCompare .Eq u v) (fun r s' => r = .bool b ∧ Inv X pins σ H s') X.xe s
def EqB (X : Cx) (n : Nat) (D : Eqb) : Prop := ∀ (A : Around) (pins : List (Addr × Obj)) (s : Shared) (σ : L2.St) (H : Hp) (x y : V) (u v : Value) (b : Bool), Sub X n A → Inv X pins σ H s → RelV x u → RelV y v → D x y H b →
  wpAny (model X.prog X.w) A (eqBool u v) (fun r s' => r = b ∧ Inv X pins σ H s') X.xe s
/-- the own object first -/
def DOwn (K : PySem.W.Frag) (C : Addr) (R : Eqb) : Eqb := fun x y H b => ∃ a dx fs tb, x = .ref a ∧ H a = some (.ins C dx fs) ∧ TyX K H y tb ∧ PySem.W.notFirst K C tb = true ∧ (x = y → b = true) ∧ R x y H b
/-- the own object behind a thing of a built-in kind -/
def DRef (C : Addr) (R : Eqb) : Eqb := fun x y H b => ∃ a dx fs T, y = .ref a ∧ H a = some (.ins C dx fs) ∧ Bk H x T ∧ (x = y → b = true) ∧ R y x H b
def DOr (D D' : Eqb) : Eqb := fun x y H b => D x y H b ∨ D' x y H b
section
variable {X : Cx} {n : Nat} {CX : CXT} {C f : Addr} {fd : FuncData} {ps : List Str} {R D D' : Eqb} {E : XK}
theorem RcB.mono {m : Nat} (h : RcB X n D) (l : n ≤ m) : RcB X m D := fun A pins s σ H x y u v b sb I rx ry d => h A pins s σ H x y u v b (sb.mono l) I rx ry d
theorem EqB.mono {m : Nat} (h : EqB X n D) (l : n ≤ m) : EqB X m D := fun A pins s σ H x y u v b sb I rx ry d => h A pins s σ H x y u v b (sb.mono l) I rx ry d
theorem RcB.or (h : RcB X n D) (h' : RcB X n D') : RcB X n (DOr D D') := fun A pins s σ H x y u v b sb I rx ry d => d.elim (h A pins s σ H x y u v b sb I rx ry) (h' A pins s σ H x y u v b sb I rx ry)
theorem EqB.or (h : EqB X n D) (h' : EqB X n D') : EqB X n (DOr D D') := fun A pins s σ H x y u v b sb I rx ry d => d.elim (h A pins s σ H x y u v b sb I rx ry) (h' A pins s σ H x y u v b sb I rx ry)
/-! ### in, by an own == -/
def InB (D : Eqb) (x : V) (H : Hp) : List V → Bool → Prop
  | [], b => b = false
  | y :: r, b => (D y x H true ∧ b = true) ∨ (D y x H false ∧ InB D x H r b)
open AutoSeq1 (wpAny_loadPart') in
open AutoSeq1 (wpAny_loadPart') in
/-- a text beside a thing of a built-in kind -/
def DTxt : Eqb := fun x y H b => ∃ (z : Str) (T : String), x = .str z ∧ Bk H y T ∧ b = decide (y = .str z)
end
/-! ### Measures alike, beside Measures and things of built-in kinds -/
def REq (K : PySem.W.Frag) (C : Addr) : Eqb := fun x y H b => ∃ p t u, x = .ref p ∧ MAt C H p t u ∧ ((∃ q t' u', y = .ref q ∧ MAt C H q t' u' ∧ b = (decide (t = t') && decide (u = u'))) ∨ ∃ tv, TyX K H y tv ∧ PySem.W.kitOne K tv (.ref C) = some false ∧ b = false)
inductive Like (C : Addr) (H : Hp) (p : Addr) : V → Bool → Prop where
  | ms {q : Addr} {t u t' u' : Int} (a : MAt C H p t u) (b : MAt C H q t' u') : Like C H p (.ref q) (decide (t = t') && decide (u = u'))
  | kd {y : V} {T : String} {t u : Int} (a : MAt C H p t u) (b : Bk H y T) : Like C H p y false
theorem Like.same {C p : Addr} {H H' : Hp} {y : V} {b : Bool} (h : Like C H p y b) (s : Same H H') : Like C H' p y b := by
  cases h with
  | ms a b => exact .ms (a.same s) (b.same s)
  | kd a k => exact .kd (a.same s) (k.same s)
theorem mf_inj {t u t' u' : Int} (h : mf t u = mf t' u') : t = t' ∧ u = u' := by
  unfold mf at h
  injection h with h1 h2
  injection h2 with h3 _
  exact ⟨V.int.inj (congrArg Prod.snd h1), V.int.inj (congrArg Prod.snd h3)⟩
theorem MAt.uniq {C p : Addr} {H : Hp} {t u t' u' : Int} (a : MAt C H p t u) (b : MAt C H p t' u') : t = t' ∧ u = u' := by
  obtain ⟨d, a⟩ := a
  obtain ⟨d', b⟩ := b
  rw [a] at b
  have e := HO.ins.inj (Option.some.inj b)
  exact mf_inj e.2.2
theorem Bk.notIns {C p dx : Addr} {H : Hp} {T : String} {fs : List (Str × V)} (b : Bk H (.ref p) T) (e : H p = some (.ins C dx fs)) : False := by
  cases b with
  | lst z => rw [z] at e; cases e
  | tup z => rw [z] at e; cases e
section
variable {K : PySem.W.Frag} {C p : Addr} {H : Hp} {y : V} {b : Bool}
theorem nf_self : PySem.W.notFirst K C (.ref C) = true := by simp [PySem.W.notFirst]
theorem Like.fwd (cl : Cls K C) (ii : IsC K C) (ec : EqC K C) (h : Like C H p y b) : DOwn K C (REq K C) (.ref p) y H b := by
  cases h with
  | @ms q t u t' u' a b =>
    obtain ⟨da, ha⟩ := _root_.id a
    obtain ⟨db, hb⟩ := _root_.id b
    refine ⟨p, da, _, _, rfl, ha, tyM hb cl ii, nf_self, fun e => ?_, p, t, u, rfl, a, .inl ⟨q, t', u', rfl, b, rfl⟩⟩
    cases e
    obtain ⟨rfl, rfl⟩ := a.uniq b
    simp
  | @kd _ T t u a k =>
    obtain ⟨da, ha⟩ := _root_.id a
    refine ⟨p, da, _, _, rfl, ha, k.ty, ec.nf T k.mem, fun e => ?_, p, t, u, rfl, a, .inr ⟨_, k.ty, ec.kit T k.mem, rfl⟩⟩
    subst e
    exact (k.notIns ha).elim
theorem Like.bwd (cl : Cls K C) (ii : IsC K C) (ec : EqC K C) (h : Like C H p y b) : DOr (DOwn K C (REq K C)) (DRef C (REq K C)) y (.ref p) H b := by
  cases h with
  | @ms q t u t' u' a b =>
    obtain ⟨da, ha⟩ := _root_.id a
    obtain ⟨db, hb⟩ := _root_.id b
    have e2 : (decide (t = t') && decide (u = u')) = (decide (t' = t) && decide (u' = u)) := by
      rw [decide_eq_decide.mpr (eq_comm (a := t)), decide_eq_decide.mpr (eq_comm (a := u))]
    rw [e2]
    refine .inl ⟨q, db, _, _, rfl, hb, tyM ha cl ii, nf_self, fun e => ?_, q, t', u', rfl, b, .inl ⟨p, t, u, rfl, a, rfl⟩⟩
    cases e
    obtain ⟨rfl, rfl⟩ := a.uniq b
    simp
  | @kd _ T t u a k =>
    obtain ⟨da, ha⟩ := _root_.id a
    refine .inr ⟨p, da, _, T, rfl, ha, k, fun e => ?_, p, t, u, rfl, a, .inr ⟨_, k.ty, ec.kit T k.mem, rfl⟩⟩
    subst e
    exact (k.notIns ha).elim
theorem Like.non (ec : EqC K C) (h : Like C H p y b) : DOr (DOwn K C (REq K C)) (DRef C (REq K C)) .non (.ref p) H false := by
  have go : ∀ {t u : Int}, MAt C H p t u → DOr (DOwn K C (REq K C)) (DRef C (REq K C)) .non (.ref p) H false := fun {t u} a => by
    obtain ⟨da, ha⟩ := _root_.id a
    exact .inr ⟨p, da, _, _, rfl, ha, .non, (fun e => nomatch e), p, t, u, rfl, a, .inr ⟨_, (Bk.non (H := H)).ty, ec.kit _ (Bk.non (H := H)).mem, rfl⟩⟩
  cases h with
  | ms a _ => exact go a
  | kd a _ => exact go a
/-- one in [None, y] -/
theorem Like.inl (cl : Cls K C) (ii : IsC K C) (ec : EqC K C) (h : Like C H p y b) : InB (DOr (DOwn K C (REq K C)) (DRef C (REq K C))) (.ref p) H [.non, y] b := by
  refine .inr ⟨h.non ec, ?_⟩
  cases b with
  | true => exact .inl ⟨h.bwd cl ii ec, rfl⟩
  | false => exact .inr ⟨h.bwd cl ii ec, rfl⟩
/-- y in (one, z) -/
theorem Like.inr {z : Str} (cl : Cls K C) (ii : IsC K C) (ec : EqC K C) (h : Like C H p y b) (hz : y ≠ .str z) : InB (DOr (DOr (DOwn K C (REq K C)) (DRef C (REq K C))) DTxt) y H [.ref p, .str z] b := by
  have key : ∀ {c : Bool}, Like C H p y c → DOr (DOr (DOwn K C (REq K C)) (DRef C (REq K C))) DTxt (.str z) y H false := fun {c} h => by
    cases h with
    | @ms q t u t' u' a b =>
      obtain ⟨dq, hq⟩ := _root_.id b
      exact .inl (.inr ⟨q, dq, _, _, rfl, hq, .str z, (fun e => nomatch e), q, t', u', rfl, b, .inr ⟨_, (Bk.str (H := H) z).ty, ec.kit _ (Bk.str (H := H) z).mem, rfl⟩⟩)
    | @kd _ T t u a k => exact .inr ⟨z, T, rfl, k, (decide_eq_false hz).symm⟩
  cases b with
  | true => exact .inl ⟨.inl (.inl (h.fwd cl ii ec)), rfl⟩
  | false => exact .inr ⟨.inl (.inl (h.fwd cl ii ec)), .inr ⟨key h, rfl⟩⟩
end
end My
namespace My
open PySem PySem.Spec PyProof.Rows L2
/-! ### texts: str and repr of own objects, pieces of f-strings, divmod -/
section
variable {X : Cx} {n : Nat} {CX : CXT} {C f : Addr} {fd : FuncData} {ps : List Str} {sp : Sp} {E : XK}
/-- an own def is called from within a built-in one -/
theorem fn_at (F : FnOk X.prog X.w X.K X.mg X.base CX n f fd ps sp) (hb : Binds X.K fd ps []) (hx : Passes CX X E) {A : Around} {pins : List (Addr × Obj)} {s : Shared} {σ : L2.St} {H : Hp} {vs : List V} {us : List Value} {Q : VK}
    (sb : Sub X n A) (I : Inv X pins σ H s) (r : Vals vs us) (h : sp vs H Q E) : wpAny (model X.prog X.w) A (call (.ref f) us) (fun u s' => ∃ v H', Inv X pins σ H' s' ∧ RelV v u ∧ Q v H') X.xe s := by
  have e := I.env0
  have e0 : Env0 X.prog X.w X.K X.mg X.base A X.stack s H := ⟨by rw [sb.fr]; exact e.frames, e.mod, e.bs, e.bsz, e.funs, e.frf, e.hok, e.bare⟩
  have hl := F.len _ _ _ _ h
  have hbs := hb s us I.kIn (by rw [List.append_nil, ← r.length]; exact hl)
  rw [List.append_nil] at hbs
  refine wpAny_call (codeAny_mono (F.run A X.stack s H ⟨us, []⟩ us vs _ E sb.room e0 hbs r h) fun r s' hq => ?_)
  cases r with
  | error e => exact hx pins σ H s e s' I hq
  | ok fl =>
    cases fl with
    | ret w =>
      obtain ⟨z, H', I', rz, q⟩ := I.after hq
      exact ⟨z, H', I', rz, q⟩
    | next => exact False.elim hq
    | brk => exact False.elim hq
    | cont => exact False.elim hq
/-- what a text of an own object asks: the def tells a text -/
def tOwn (C : Addr) (sp : Sp) (E : XK) : V → Hp → VK → Prop := fun x H Q => ∃ a dx fs, x = .ref a ∧ H a = some (.ins C dx fs) ∧ sp [.ref a] H (fun v H' => ∃ z : Str, v = .str z ∧ Q (.str z) H') E
theorem bnil {K : PySem.W.Frag} {fd : FuncData} {ps : List Str} {ds : List Value} (v : Vals [] ds) (b : Binds K fd ps ds) : Binds K fd ps [] := by
  cases v
  exact b
end
/-! ### the text of a number, of a Measure -/
def iT (i : Int) : Str := Str.ofString (toString i)
def wTxt (a u : Int) : Str := if a % u = 0 then iT (a / u) else if a / u = 0 then Str.empty ++ iT (a % u) ++ "/" ++ iT u else Str.empty ++ iT (a / u) ++ " " ++ iT (a % u) ++ "/" ++ iT u
def mTxt (t u : Int) : Str := if t < 0 then Str.empty ++ "-" ++ wTxt (-t) u else wTxt t u
end My
namespace My
open PySem PySem.Spec PyProof.Rows L2
/-! ### Stretches alike -/
def optEq : Option Q2 → Option Q2 → Bool
  | none, none => true
  | some a, some b => eqq a b
  | _, _ => false
theorem optEq_self (a : Option Q2) : optEq a a = true := by
  cases a with
  | none => rfl
  | some a => exact eqq_self a
theorem eqq_comm' (a b : Q2) : eqq a b = eqq b a := by
  unfold eqq
  exact decide_eq_decide.mpr eq_comm
theorem optEq_comm (a b : Option Q2) : optEq a b = optEq b a := by
  cases a with
  | none => cases b <;> rfl
  | some a =>
    cases b with
    | none => rfl
    | some b => exact eqq_comm' a b
def eqS (lo hi : Option Q2) (li hj : Bool) (lo' hi' : Option Q2) (li' hj' : Bool) : Bool := optEq lo lo' && (optEq hi hi' && (decide (V.bl li = V.bl li') && decide (V.bl hj = V.bl hj')))
theorem eqS_self (lo hi : Option Q2) (li hj : Bool) : eqS lo hi li hj lo hi li hj = true := by
  unfold eqS
  rw [optEq_self, optEq_self, decide_eq_true rfl, decide_eq_true rfl]
  rfl
theorem eqS_comm (lo hi : Option Q2) (li hj : Bool) (lo' hi' : Option Q2) (li' hj' : Bool) : eqS lo hi li hj lo' hi' li' hj' = eqS lo' hi' li' hj' lo hi li hj := by
  unfold eqS
  rw [optEq_comm lo, optEq_comm hi, decide_eq_decide.mpr (eq_comm (a := V.bl li)), decide_eq_decide.mpr (eq_comm (a := V.bl hj))]
section
variable {K : PySem.W.Frag} {CM CS p : Addr} {H : Hp}
def REqS (K : PySem.W.Frag) (CM CS : Addr) : Eqb := fun x y H b => ∃ p lo hi li hj, x = .ref p ∧ StAt CM CS H p lo hi li hj ∧ ((∃ q lo' hi' li' hj', y = .ref q ∧ StAt CM CS H q lo' hi' li' hj' ∧ b = eqS lo hi li hj lo' hi' li' hj') ∨
  ∃ tv, TyX K H y tv ∧ PySem.W.kitOne K tv (.ref CS) = some false ∧ b = false)
inductive LikeS (CM CS : Addr) (H : Hp) (p : Addr) : V → Bool → Prop where
  | st {q : Addr} {lo hi lo' hi' : Option Q2} {li hj li' hj' : Bool} (a : StAt CM CS H p lo hi li hj) (b : StAt CM CS H q lo' hi' li' hj') : LikeS CM CS H p (.ref q) (eqS lo hi li hj lo' hi' li' hj')
  | kd {y : V} {T : String} {lo hi : Option Q2} {li hj : Bool} (a : StAt CM CS H p lo hi li hj) (b : Bk H y T) : LikeS CM CS H p y false
  | ms {q : Addr} {t u : Int} {lo hi : Option Q2} {li hj : Bool} (a : StAt CM CS H p lo hi li hj) (b : MAt CM H q t u) : LikeS CM CS H p (.ref q) false
theorem LikeS.same {H' : Hp} {y : V} {b : Bool} (h : LikeS CM CS H p y b) (s : Same H H') : LikeS CM CS H' p y b := by
  cases h with
  | st a b => exact .st (a.same s) (b.same s)
  | kd a k => exact .kd (a.same s) (k.same s)
  | ms a m => exact .ms (a.same s) (m.same s)
theorem MsV.uniq {v : V} {e f : Option Q2} (a : MsV CM H v e) (b : MsV CM H v f) : e = f := by
  cases e with
  | none =>
    cases a
    cases f with
    | none => rfl
    | some y => obtain ⟨q, z, _⟩ := b; exact nomatch z
  | some x =>
    obtain ⟨p, rfl, hp⟩ := a
    cases f with
    | none => exact nomatch (show V.ref p = V.non from b)
    | some y =>
      obtain ⟨q, z, hq⟩ := b
      cases z
      obtain ⟨h1, h2⟩ := hp.uniq hq
      rw [show x = (x.1, x.2) from rfl, show y = (y.1, y.2) from rfl, h1, h2]
theorem sf_inj {l h l' h' : V} {i j i' j' : Bool} (e : sf l h i j = sf l' h' i' j') : l = l' ∧ h = h' ∧ i = i' ∧ j = j' := by
  have g : ∀ m : Str, (sf l h i j).lookup m = (sf l' h' i' j').lookup m := fun m => by rw [e]
  have g1 := g "low"
  have g2 := g "high"
  have g3 := g "low_in"
  have g4 := g "high_in"
  rw [sf_low, sf_low] at g1
  rw [sf_high, sf_high] at g2
  rw [sf_low_in, sf_low_in] at g3
  rw [sf_high_in, sf_high_in] at g4
  exact ⟨Option.some.inj g1, Option.some.inj g2, V.bl.inj (Option.some.inj g3), V.bl.inj (Option.some.inj g4)⟩
theorem StAt.uniq {lo hi lo' hi' : Option Q2} {li hj li' hj' : Bool} (a : StAt CM CS H p lo hi li hj) (b : StAt CM CS H p lo' hi' li' hj') : lo = lo' ∧ hi = hi' ∧ li = li' ∧ hj = hj' := by
  obtain ⟨⟨d, l, h, h1, h2, h3⟩, _⟩ := a
  obtain ⟨⟨d', l', h', k1, k2, k3⟩, _⟩ := b
  rw [h1] at k1
  have e := HO.ins.inj (Option.some.inj k1)
  obtain ⟨rfl, rfl, rfl, rfl⟩ := sf_inj e.2.2
  exact ⟨h2.uniq k2, h3.uniq k3, rfl, rfl⟩
theorem st_notM {q : Addr} {lo hi : Option Q2} {li hj : Bool} {t u : Int} (a : StAt CM CS H p lo hi li hj) (m : MAt CM H p t u) : False := by
  obtain ⟨⟨d, l, hh, h1, _⟩, _⟩ := a
  obtain ⟨dm, hm⟩ := m
  rw [h1] at hm
  have e := (HO.ins.inj (Option.some.inj hm)).2.2
  have e2 := congrArg (fun fs : List (Str × V) => fs.lookup ("top" : Str)) e
  have e3 : (sf l hh li hj).lookup ("top" : Str) = none := sf_no _ _ _ _ (by decide +kernel) (by decide +kernel) (by decide +kernel) (by decide +kernel)
  have e4 := mf_top t u
  rw [show (sf l hh li hj).lookup ("top" : Str) = (mf t u).lookup ("top" : Str) from e2, e4] at e3
  cases e3
/-- what is asked of the two classes -/
structure Two (K : PySem.W.Frag) (CM CS : Addr) : Prop where
  clM : Cls K CM
  iiM : IsC K CM
  ecM : EqC K CM
  clS : Cls K CS
  iiS : IsC K CS
  ecS : EqC K CS
  nMS : PySem.W.notFirst K CM (.ref CS) = true
  nSM : PySem.W.notFirst K CS (.ref CM) = true
  kMS : PySem.W.kitOne K (.ref CM) (.ref CS) = some false
  kSM : PySem.W.kitOne K (.ref CS) (.ref CM) = some false
def DAllS (K : PySem.W.Frag) (CM CS : Addr) : Eqb := DOr (DOr (DOwn K CS (REqS K CM CS)) (DRef CS (REqS K CM CS))) (DOwn K CM (REq K CM))
theorem LikeS.fwd {y : V} {b : Bool} (T : Two K CM CS) (h : LikeS CM CS H p y b) : DOwn K CS (REqS K CM CS) (.ref p) y H b := by
  cases h with
  | @st q lo hi lo' hi' li hj li' hj' a b =>
    obtain ⟨⟨d, l, hh, h1, _⟩, _⟩ := _root_.id a
    obtain ⟨⟨d', l', hh', k1, _⟩, _⟩ := _root_.id b
    refine ⟨p, d, _, _, rfl, h1, tyM k1 T.clS T.iiS, nf_self, fun e => ?_, p, lo, hi, li, hj, rfl, a, .inl ⟨q, lo', hi', li', hj', rfl, b, rfl⟩⟩
    cases e
    obtain ⟨rfl, rfl, rfl, rfl⟩ := a.uniq b
    exact eqS_self _ _ _ _
  | @kd _ Ty lo hi li hj a k =>
    obtain ⟨⟨d, l, hh, h1, _⟩, _⟩ := _root_.id a
    refine ⟨p, d, _, _, rfl, h1, k.ty, T.ecS.nf Ty k.mem, fun e => ?_, p, lo, hi, li, hj, rfl, a, .inr ⟨_, k.ty, T.ecS.kit Ty k.mem, rfl⟩⟩
    subst e
    exact (k.notIns h1).elim
  | @ms q t u lo hi li hj a m =>
    obtain ⟨⟨d, l, hh, h1, _⟩, _⟩ := _root_.id a
    obtain ⟨dm, hm⟩ := _root_.id m
    have ty := tyM hm T.clM T.iiM
    refine ⟨p, d, _, _, rfl, h1, ty, T.nSM, fun e => ?_, p, lo, hi, li, hj, rfl, a, .inr ⟨_, ty, T.kMS, rfl⟩⟩
    cases e
    exact (st_notM (q := p) a m).elim
theorem LikeS.bwd {y : V} {b : Bool} (T : Two K CM CS) (h : LikeS CM CS H p y b) : DAllS K CM CS y (.ref p) H b := by
  cases h with
  | @st q lo hi lo' hi' li hj li' hj' a b =>
    rw [eqS_comm]
    exact .inl (.inl (LikeS.fwd T (.st b a)))
  | @kd _ Ty lo hi li hj a k =>
    obtain ⟨⟨d, l, hh, h1, _⟩, _⟩ := _root_.id a
    refine .inl (.inr ⟨p, d, _, Ty, rfl, h1, k, fun e => ?_, p, lo, hi, li, hj, rfl, a, .inr ⟨_, k.ty, T.ecS.kit Ty k.mem, rfl⟩⟩)
    subst e
    exact (k.notIns h1).elim
  | @ms q t u lo hi li hj a m =>
    obtain ⟨⟨d, l, hh, h1, _⟩, _⟩ := _root_.id a
    obtain ⟨dm, hm⟩ := _root_.id m
    have ty := tyM h1 T.clS T.iiS
    refine .inr ⟨q, dm, _, _, rfl, hm, ty, T.nMS, fun e => ?_, q, t, u, rfl, m, .inr ⟨_, ty, T.kSM, rfl⟩⟩
    cases e
    exact (st_notM (q := p) a m).elim
theorem LikeS.inl {y : V} {b : Bool} (T : Two K CM CS) (h : LikeS CM CS H p y b) : InB (DAllS K CM CS) (.ref p) H [.non, y] b := by
  have go : ∀ {lo hi li hj}, StAt CM CS H p lo hi li hj → DAllS K CM CS .non (.ref p) H false := fun {lo hi li hj} a => LikeS.bwd T (.kd a .non)
  have nn : DAllS K CM CS .non (.ref p) H false := by
    cases h with
    | st a _ => exact go a
    | kd a _ => exact go a
    | ms a _ => exact go a
  refine .inr ⟨nn, ?_⟩
  cases b with
  | true => exact .inl ⟨h.bwd T, rfl⟩
  | false => exact .inr ⟨h.bwd T, rfl⟩
end
/-! ### texts of Stretches -/
def eT : Option Q2 → Str
  | none => ".."
  | some a => mTxt a.1 a.2
/-- the tuple of two ends and two truths -/
def EndsK (k : Nat) (H : Hp) (v : V) (ea eb : Option Q2) (ia ib : Bool) : Prop := ∃ p va vb, v = .ref p ∧ H p = some (.tup [va, vb, .bl ia, .bl ib]) ∧ EndV k H va ea ∧ EndV k H vb eb
theorem EndsK.nl {k : Nat} {H H' : Hp} {v : V} {ea eb : Option Q2} {ia ib : Bool} (a : EndsK k H v ea eb ia ib) (s : Nl H H') : EndsK k H' v ea eb ia ib := by
  obtain ⟨p, va, vb, h0, h1, h2, h3⟩ := a
  exact ⟨p, va, vb, h0, s _ _ h1 rfl, h2.nl s, h3.nl s⟩
theorem EndsK.same {k : Nat} {H H' : Hp} {v : V} {ea eb : Option Q2} {ia ib : Bool} (a : EndsK k H v ea eb ia ib) (s : Same H H') : EndsK k H' v ea eb ia ib := a.nl (Nl.of s)
theorem EndsAt.k {H : Hp} {p : Addr} {ea eb : Option Q2} {ia ib : Bool} (a : EndsAt H p ea eb ia ib) : EndsK 150 H (.ref p) ea eb ia ib := by
  obtain ⟨⟨va, vb, h1, h2, h3⟩, _⟩ := a
  exact ⟨p, va, vb, rfl, h1, h2.mono (by decide), h3.mono (by decide)⟩
end My
namespace My
open PySem PySem.Spec PyProof.Rows L2
/-! ### texts by their signs: partings at the last and the first sign -/
/-! ### x.rpartition(sep) -/
/-! ### a leading sign -/
def sw (c : Nat) : List Nat → Bool
  | [] => false
  | x :: _ => decide (x = c)
/-! ### the words of a measure's text -/
/-! ### the text of a Measure by its signs -/
end My
namespace My
open PySem PySem.Spec PyProof.Rows L2
/-! ### list.count(True) of truths -/
/-! ### Measures as fractions -/
theorem fr_of {t u A B : Int} (hu : 0 < u) (co : Int.gcd t u = 1) (hB : 0 < B) (e : t * B = A * u) : Fr t u A B := by
  have co' : Int.gcd u t = 1 := by rw [Int.gcd_comm]; exact co
  have d2 : u ∣ B := dvd_co (b := t) ⟨A, by rw [e, Int.mul_comm]⟩ co'
  obtain ⟨k, hk⟩ := d2
  have k0 : 0 < k := by
    rcases Int.lt_or_le 0 k with z | z
    · exact z
    · have := Int.mul_nonneg_of_nonpos_of_nonpos (show -u ≤ 0 by omega) z
      have e2 : -u * k = -(u * k) := Int.neg_mul ..
      omega
  have e1 : A = t * k := by
    have : A * u = (t * k) * u := by
      rw [← e, hk]
      simp only [Int.mul_assoc, Int.mul_comm, Int.mul_left_comm]
    exact Int.eq_of_mul_eq_mul_right (by omega) this
  refine ⟨hu, e, co, ?_, ?_⟩
  · rw [e1, Int.natAbs_mul]
    exact Nat.le_mul_of_pos_right _ (by omega)
  · rw [hk, Int.natAbs_mul]
    exact Nat.le_mul_of_pos_right _ (by omega)
def qadd (x y : Q2) : Q2 := (x.1 * y.2 + y.1 * x.2, x.2 * y.2)
def qsub (x y : Q2) : Q2 := (x.1 * y.2 - y.1 * x.2, x.2 * y.2)
def qmul (x y : Q2) : Q2 := (x.1 * y.1, x.2 * y.2)
def qprt (x : Q2) (m : Int) : Q2 := (x.1 * sgn m, x.2 * (m * sgn m))
def qmk (a b : Int) : Q2 := (a * sgn b, b * sgn b)
theorem sgn_pos {m : Int} (h : m ≠ 0) : 0 < m * sgn m := by
  unfold sgn; split
  · omega
  · rw [Int.mul_neg_one]; omega
structure QAt (C : Addr) (H : Hp) (p : Addr) (k : Nat) (x : Q2) : Prop where
  ob : ∃ t u, MAt C H p t u ∧ Fr t u x.1 x.2
  pos : 0 < x.2
  s1 : Sz k x.1
  s2 : Sz k x.2
theorem QAt.same {C p : Addr} {H H' : Hp} {k : Nat} {x : Q2} (h : QAt C H p k x) (s : Same H H') : QAt C H' p k x := by
  obtain ⟨⟨t, u, m, f⟩, h1, h2, h3⟩ := h
  exact ⟨⟨t, u, m.same s, f⟩, h1, h2, h3⟩
theorem QAt.mono {C p : Addr} {H : Hp} {k j : Nat} {x : Q2} (h : QAt C H p k x) (l : k ≤ j) : QAt C H p j x := ⟨h.ob, h.pos, h.s1.mono l, h.s2.mono l⟩
theorem QAt.kp {C p hd : Addr} {H H' : Hp} {n k : Nat} {x : Q2} (h : QAt C H p k x) (hh : HandAt H hd n) (s : Kp hd H H') : QAt C H' p k x := by
  obtain ⟨⟨t, u, m, f⟩, h1, h2, h3⟩ := h
  exact ⟨⟨t, u, m.kp hh s, f⟩, h1, h2, h3⟩
theorem QAt.nl {C p : Addr} {H H' : Hp} {k : Nat} {x : Q2} (h : QAt C H p k x) (s : Nl H H') : QAt C H' p k x := by
  obtain ⟨⟨t, u, ⟨d, m⟩, f⟩, h1, h2, h3⟩ := h
  exact ⟨⟨t, u, ⟨d, s _ _ m rfl⟩, f⟩, h1, h2, h3⟩
section
variable {C p q : Addr} {H : Hp} {Q : VK} {E : XK} {k j : Nat} {x y : Q2}
theorem QAt.raw (h : QAt C H p k x) {m : Str} (h1 : ¬ m = "top") (h2 : ¬ m = "bottom") : ∃ dx fs, H p = some (.ins C dx fs) ∧ fs.lookup m = none := by
  obtain ⟨⟨t, u, ⟨d, m⟩, f⟩, _⟩ := h
  exact ⟨d, _, m, mf_no _ _ h1 h2⟩
theorem q_add (hx : QAt C H p k x) (hy : QAt C H q j y) (l : k + j ≤ 8900) (l0 : 0 < k) (l1 : 0 < j) (f : ∀ (r : Addr) (H' : Hp), Same H H' → QAt C H' r (k + j + 1) (qadd x y) → Q (.ref r) H') :
    sp_bin2 C (fun t u t' u' => t * u' + t' * u) (fun t u t' u' => u * u') [.ref p, .ref q] H Q E := by
  obtain ⟨⟨t, u, m1, f1⟩, px, a1, a2⟩ := hx
  obtain ⟨⟨t', u', m2, f2⟩, py, b1, b2⟩ := hy
  refine ⟨p, q, t, u, t', u', rfl, m1, m2, f1.pos, f2.pos, (a1.le f1.lt).mono (by omega), (a2.le f1.lu).mono (by omega), (b1.le f2.lt).mono (by omega), (b2.le f2.lu).mono (by omega), ((a2.le f1.lu).mul (b2.le f2.lu)).mono (by omega), fun r t2 u2 H' _ s m f3 => ?_⟩
  refine f r H' s ⟨⟨t2, u2, m, fr_of f3.pos f3.co (Int.mul_pos px py) ?_⟩, Int.mul_pos px py, (a1.mul b2).add ((b1.mul a2).mono (by omega)), (a2.mul b2).mono (by omega)⟩
  have e1 := f1.eq
  have e2 := f2.eq
  have e3 := f3.eq
  have z : (t2 * (x.2 * y.2)) * (u * u') = ((x.1 * y.2 + y.1 * x.2) * u2) * (u * u') := by
    have : (t2 * (x.2 * y.2)) * (u * u') = (t2 * (u * u')) * (x.2 * y.2) := by grind
    rw [this, e3]
    have w1 : (t * u' + t' * u) * u2 * (x.2 * y.2) = ((t * x.2) * u' * y.2 + (t' * y.2) * u * x.2) * u2 := by grind
    rw [w1, e1, e2]
    grind
  have pu := Int.mul_pos f1.pos f2.pos
  exact Int.eq_of_mul_eq_mul_right (by omega) z
theorem q_sub (hx : QAt C H p k x) (hy : QAt C H q j y) (l : k + j ≤ 8900) (l0 : 0 < k) (l1 : 0 < j) (f : ∀ (r : Addr) (H' : Hp), Same H H' → QAt C H' r (k + j + 1) (qsub x y) → Q (.ref r) H') :
    sp_bin2 C (fun t u t' u' => t * u' - t' * u) (fun t u t' u' => u * u') [.ref p, .ref q] H Q E := by
  obtain ⟨⟨t, u, m1, f1⟩, px, a1, a2⟩ := hx
  obtain ⟨⟨t', u', m2, f2⟩, py, b1, b2⟩ := hy
  refine ⟨p, q, t, u, t', u', rfl, m1, m2, f1.pos, f2.pos, (a1.le f1.lt).mono (by omega), (a2.le f1.lu).mono (by omega), (b1.le f2.lt).mono (by omega), (b2.le f2.lu).mono (by omega), ((a2.le f1.lu).mul (b2.le f2.lu)).mono (by omega), fun r t2 u2 H' _ s m f3 => ?_⟩
  refine f r H' s ⟨⟨t2, u2, m, fr_of f3.pos f3.co (Int.mul_pos px py) ?_⟩, Int.mul_pos px py, (a1.mul b2).sub ((b1.mul a2).mono (by omega)), (a2.mul b2).mono (by omega)⟩
  have e1 := f1.eq
  have e2 := f2.eq
  have e3 := f3.eq
  have z : (t2 * (x.2 * y.2)) * (u * u') = ((x.1 * y.2 - y.1 * x.2) * u2) * (u * u') := by
    have : (t2 * (x.2 * y.2)) * (u * u') = (t2 * (u * u')) * (x.2 * y.2) := by grind
    rw [this, e3]
    have w1 : (t * u' - t' * u) * u2 * (x.2 * y.2) = ((t * x.2) * u' * y.2 - (t' * y.2) * u * x.2) * u2 := by grind
    rw [w1, e1, e2]
    grind
  have pu := Int.mul_pos f1.pos f2.pos
  exact Int.eq_of_mul_eq_mul_right (by omega) z
theorem q_mul (hx : QAt C H p k x) (hy : QAt C H q j y) (l : k + j ≤ 8900) (l0 : 0 < k) (l1 : 0 < j) (f : ∀ (r : Addr) (H' : Hp), Same H H' → QAt C H' r (k + j + 1) (qmul x y) → Q (.ref r) H') :
    sp_bin2 C (fun t u t' u' => t * t') (fun t u t' u' => u * u') [.ref p, .ref q] H Q E := by
  obtain ⟨⟨t, u, m1, f1⟩, px, a1, a2⟩ := hx
  obtain ⟨⟨t', u', m2, f2⟩, py, b1, b2⟩ := hy
  refine ⟨p, q, t, u, t', u', rfl, m1, m2, f1.pos, f2.pos, (a1.le f1.lt).mono (by omega), (a2.le f1.lu).mono (by omega), (b1.le f2.lt).mono (by omega), (b2.le f2.lu).mono (by omega), ((a2.le f1.lu).mul (b2.le f2.lu)).mono (by omega), fun r t2 u2 H' _ s m f3 => ?_⟩
  refine f r H' s ⟨⟨t2, u2, m, fr_of f3.pos f3.co (Int.mul_pos px py) ?_⟩, Int.mul_pos px py, (a1.mul b1).mono (by omega), (a2.mul b2).mono (by omega)⟩
  have e1 := f1.eq
  have e2 := f2.eq
  have e3 := f3.eq
  have z : (t2 * (x.2 * y.2)) * (u * u') = ((x.1 * y.1) * u2) * (u * u') := by
    have : (t2 * (x.2 * y.2)) * (u * u') = (t2 * (u * u')) * (x.2 * y.2) := by grind
    rw [this, e3]
    have w1 : (t * t') * u2 * (x.2 * y.2) = (t * x.2) * (t' * y.2) * u2 := by grind
    rw [w1, e1, e2]
    grind
  have pu := Int.mul_pos f1.pos f2.pos
  exact Int.eq_of_mul_eq_mul_right (by omega) z
theorem q_prt {m : Int} (hx : QAt C H p k x) (hm : m ≠ 0) (sm : Sz j m) (l : k + j ≤ 8900) (l0 : 0 < k) (l1 : 0 < j) (f : ∀ (r : Addr) (H' : Hp), Same H H' → QAt C H' r (k + j + 1) (qprt x m) → Q (.ref r) H') :
    sp_part2 C [.ref p, .int m] H Q E := by
  obtain ⟨⟨t, u, m1, f1⟩, px, a1, a2⟩ := hx
  have pm := sgn_pos hm
  have sgnN : (sgn m).natAbs = 1 := by rcases sgn_cases m with e | e <;> rw [e] <;> rfl
  refine ⟨p, t, u, m, rfl, m1, f1.pos, hm, (a1.le f1.lt).mono (by omega), (a2.le f1.lu).mono (by omega), sm.mono (by omega), ((a2.le f1.lu).mul sm).mono (by omega), fun r t2 u2 H' _ s mm f3 => ?_⟩
  have z1 : Sz (k + j + 1) (x.1 * sgn m) := (a1.le (y := x.1 * sgn m) (by rw [Int.natAbs_mul, sgnN, Nat.mul_one]; exact Nat.le_refl _)).mono (by omega)
  have z2 : Sz j (m * sgn m) := sm.le (by rw [Int.natAbs_mul, sgnN, Nat.mul_one]; exact Nat.le_refl _)
  refine f r H' s ⟨⟨t2, u2, mm, fr_of f3.pos f3.co (Int.mul_pos px pm) ?_⟩, Int.mul_pos px pm, z1, (a2.mul z2).mono (by omega)⟩
  have e1 := f1.eq
  have e3 := f3.eq
  have hu := f1.pos
  have z : (t2 * (x.2 * (m * sgn m))) * u = ((x.1 * sgn m) * u2) * u := by
    have w0 : (t2 * (x.2 * (m * sgn m))) * u = (t2 * (u * m)) * x.2 * sgn m := by grind
    rw [w0, e3]
    have w1 : t * u2 * x.2 * sgn m = (t * x.2) * u2 * sgn m := by grind
    rw [w1, e1]
    grind
  exact Int.eq_of_mul_eq_mul_right (by omega) z
theorem q_mk {a b t u : Int} {H' : Hp} (m : MAt C H' p t u) (f : Fr t u a b) (hb : b ≠ 0) (sa : Sz k a) (sb : Sz k b) : QAt C H' p k (qmk a b) := by
  have pm := sgn_pos hb
  have sgnN : (sgn b).natAbs = 1 := by rcases sgn_cases b with e | e <;> rw [e] <;> rfl
  refine ⟨⟨t, u, m, fr_of f.pos f.co pm ?_⟩, pm, sa.le (by show (a * sgn b).natAbs ≤ _; rw [Int.natAbs_mul, sgnN, Nat.mul_one]; exact Nat.le_refl _), sb.le (by show (b * sgn b).natAbs ≤ _; rw [Int.natAbs_mul, sgnN, Nat.mul_one]; exact Nat.le_refl _)⟩
  show t * (b * sgn b) = a * sgn b * u
  have e := f.eq
  have : t * (b * sgn b) = (t * b) * sgn b := by grind
  rw [this, e]
  grind
theorem q_below {al : Bool} (hx : QAt C H p k x) (hy : QAt C H q j y) (l : k ≤ 9000) (l1 : j ≤ 9000) (f : Q (.bl (ltq x y || (al && eqq x y))) H) : sp_below C [.ref p, .ref q, .bl al] H Q E := by
  obtain ⟨⟨t, u, m1, f1⟩, px, a1, a2⟩ := hx
  obtain ⟨⟨t', u', m2, f2⟩, py, b1, b2⟩ := hy
  refine ⟨p, q, t, u, t', u', al, rfl, m1, m2, (a1.le f1.lt).mono l, (a2.le f1.lu).mono l, (b1.le f2.lt).mono l1, (b2.le f2.lu).mono l1, ?_⟩
  have r1 : Re (t, u) x := ⟨f1.pos, px, f1.eq⟩
  have r2 : Re (t', u') y := ⟨f2.pos, py, f2.eq⟩
  have e : lessA t u t' u' al = (ltq x y || (al && eqq x y)) := by
    rw [← ltq_congr r1 r2, ← eqq_congr r1 r2]
    rfl
  rw [e]
  exact f
end
/-! the same, behind the arguments -/
section
variable {C p q : Addr} {H : Hp} {Q : VK} {E : XK} {k j : Nat} {x y : Q2} {σ : L2.St}
theorem q_addT (hx : QAt C H p k x) (hy : QAt C H q j y) (l : k + j ≤ 8900) (l0 : 0 < k) (l1 : 0 < j) (f : ∀ (r : Addr) (H' : Hp), Same H H' → QAt C H' r (k + j + 1) (qadd x y) → Q (.ref r) H') :
    tNil σ H (fun xs H2 => sp_bin2 C (fun t u t' u' => t * u' + t' * u) (fun t u t' u' => u * u') (.ref p :: ((.ref q :: xs) ++ [])) H2 Q E) := q_add (E := E) hx hy l l0 l1 f
theorem q_subT (hx : QAt C H p k x) (hy : QAt C H q j y) (l : k + j ≤ 8900) (l0 : 0 < k) (l1 : 0 < j) (f : ∀ (r : Addr) (H' : Hp), Same H H' → QAt C H' r (k + j + 1) (qsub x y) → Q (.ref r) H') :
    tNil σ H (fun xs H2 => sp_bin2 C (fun t u t' u' => t * u' - t' * u) (fun t u t' u' => u * u') (.ref p :: ((.ref q :: xs) ++ [])) H2 Q E) := q_sub (E := E) hx hy l l0 l1 f
theorem q_mulT (hx : QAt C H p k x) (hy : QAt C H q j y) (l : k + j ≤ 8900) (l0 : 0 < k) (l1 : 0 < j) (f : ∀ (r : Addr) (H' : Hp), Same H H' → QAt C H' r (k + j + 1) (qmul x y) → Q (.ref r) H') :
    tNil σ H (fun xs H2 => sp_bin2 C (fun t u t' u' => t * t') (fun t u t' u' => u * u') (.ref p :: ((.ref q :: xs) ++ [])) H2 Q E) := q_mul (E := E) hx hy l l0 l1 f
theorem q_prt2T (hx : QAt C H p k x) (l : k + 10 ≤ 8900) (l0 : 0 < k) (f : ∀ (r : Addr) (H' : Hp), Same H H' → QAt C H' r (k + 10 + 1) (qprt x 2) → Q (.ref r) H') :
    tNil σ H (fun xs H2 => sp_part2 C (.ref p :: (xs ++ [.int 2])) H2 Q E) := q_prt (E := E) (j := 10) hx (by decide) (by decide) l l0 (by decide) f
theorem q_belowT (hx : QAt C H p k x) (hy : QAt C H q j y) (l : k ≤ 9000) (l1 : j ≤ 9000) (f : Q (.bl (ltq x y)) H) :
    tNil σ H (fun xs H2 => sp_below C (.ref p :: ((.ref q :: xs) ++ [.bl false])) H2 Q E) := q_below (E := E) (al := false) hx hy l l1 (by rw [Bool.false_and, Bool.or_false]; exact f)
theorem q_belowA (hx : QAt C H p k x) (hy : QAt C H q j y) (l : k ≤ 9000) (l1 : j ≤ 9000) (f : Q (.bl (ltq x y || eqq x y)) H) :
    tCons (tC (.bl true)) tNil σ H (fun xs H2 => sp_below C (.ref p :: ((.ref q :: xs) ++ [])) H2 Q E) := q_below (E := E) (al := true) hx hy l l1 (by rw [Bool.true_and]; exact f)
end
/-! ### sums keep the order; the midst lies between -/
def qhalf (x y : Q2) : Q2 := qprt (qadd x y) 2
theorem qhalf_eq (x y : Q2) : qhalf x y = (x.1 * y.2 + y.1 * x.2, x.2 * y.2 * 2) := by
  unfold qhalf qprt qadd
  have : sgn 2 = 1 := by decide
  rw [this, Int.mul_one, Int.mul_one]
theorem half_lo {x y : Q2} (hx : 0 < x.2) (hy : 0 < y.2) : ltq x (qhalf x y) = ltq x y ∧ ltq (qhalf x y) y = ltq x y ∧ eqq (qhalf x y) x = eqq x y ∧ eqq x (qhalf x y) = eqq x y := by
  rw [qhalf_eq]
  unfold ltq eqq
  have e1 : x.1 * (x.2 * y.2 * 2) = (2 * (x.1 * y.2)) * x.2 := by grind
  have e2 : (x.1 * y.2 + y.1 * x.2) * x.2 = (x.1 * y.2 + y.1 * x.2) * x.2 := rfl
  have e3 : y.1 * (x.2 * y.2 * 2) = (2 * (y.1 * x.2)) * y.2 := by grind
  refine ⟨decide_eq_decide.mpr ?_, decide_eq_decide.mpr ?_, decide_eq_decide.mpr ?_, decide_eq_decide.mpr ?_⟩
  · show x.1 * (x.2 * y.2 * 2) < (x.1 * y.2 + y.1 * x.2) * x.2 ↔ _
    rw [e1]
    exact ⟨fun h => by have := Int.lt_of_mul_lt_mul_right h (Int.le_of_lt hx); omega, fun h => Int.mul_lt_mul_of_pos_right (by omega) hx⟩
  · show (x.1 * y.2 + y.1 * x.2) * y.2 < y.1 * (x.2 * y.2 * 2) ↔ _
    rw [e3]
    exact ⟨fun h => by have := Int.lt_of_mul_lt_mul_right h (Int.le_of_lt hy); omega, fun h => Int.mul_lt_mul_of_pos_right (by omega) hy⟩
  · show (x.1 * y.2 + y.1 * x.2) * x.2 = x.1 * (x.2 * y.2 * 2) ↔ _
    rw [e1]
    exact ⟨fun h => by have := Int.eq_of_mul_eq_mul_right (by omega) h; omega, fun h => by rw [h]; grind⟩
  · show x.1 * (x.2 * y.2 * 2) = (x.1 * y.2 + y.1 * x.2) * x.2 ↔ _
    rw [e1]
    exact ⟨fun h => by have := Int.eq_of_mul_eq_mul_right (by omega) h; omega, fun h => by rw [h]; grind⟩
/-! ### numbers of at most twelve figures -/
/-! ### constants by their signs -/
/-! ### a comprehension over a text -/
end My
namespace My
open PySem PySem.Spec PyProof.Rows L2
/-! ### comprehensions over anything that is walked -/
section
variable {J : It} {n : Nat} {G : Hp → Prop} {Y : Nat → Hp → V → Hp → Prop} {g : TG} {tt : TT} {te : TE} {vs : List Nat} {σ : L2.St} {H1 : Hp} {D : Addr} {Qd : Hp → Prop}
/-- the elements are known: z some y is told, z none is left out -/
theorem lcz (w : Walk J n G Y) (hGs : ∀ H H', G H → Same H H' → G H') (zs : List (Option V)) (hlen : zs.length = n) (hz : n < sizeLine) (hG : G H1) (hD : H1 D = none)
    (hs : ∀ (i : Nat) (x : V) (H H' : Hp) (z : Option V) (N : VK) (M : Hp → Prop), i < n → zs[i]? = some z → Same H1 H → Y i H x H' → (∀ y H4, z = some y → Same H H4 → N y H4) → (∀ H4, z = none → Same H H4 → M H4) →
      g x (wipe σ vs) H' fun σ2 H2 => wipe σ2 vs = wipe σ vs ∧ tt σ2 H2 fun b H3 => if b = true then te σ2 H3 N else M H3)
    (hd : ∀ H, Same H1 H → H D = some (.lst (zs.filterMap _root_.id)) → Qd H) :
    ∃ W : Nat → Nat → Hp → Prop, (∃ m, W 0 m (upd H1 D (.lst []))) ∧ ∀ i m H, W i m H →
      (J.stop i H ∧ Qd H) ∨ (J.go i H ∧ ∃ Nx : Hp → Prop, (∀ H', Nx H' → ∃ m', m' < m ∧ W (i + 1) m' H') ∧ ∀ x H', J.yld i H x H' → g x (wipe σ vs) H' fun σ2 H2 => wipe σ2 vs = wipe σ vs ∧ tt σ2 H2 fun b H3 =>
        if b = true then te σ2 H3 fun y H4 => ∃ acc, H4 D = some (.lst acc) ∧ acc.length < sizeLine ∧ Nx (upd H4 D (.lst (acc ++ [y]))) else Nx H3) := by
  refine lc_it w (fun i H => Same H1 H ∧ H D = some (.lst ((zs.take i).filterMap _root_.id))) ⟨same1 hD, upd_same⟩ (fun i H _ p => hGs _ _ hG p.1) (fun i x H H' hi p y => ?_) (fun H p => hd H p.1 ?_)
  · have hi2 : i < zs.length := by omega
    have tk : ∀ z, zs[i]? = some z → (zs.take (i + 1)).filterMap _root_.id = (zs.take i).filterMap _root_.id ++ z.toList := fun z e => by
      rw [List.take_add_one, e, List.filterMap_append]
      cases z <;> rfl
    have ez : zs[i]? = some zs[i] := List.getElem?_eq_getElem hi2
    refine hs i x H H' zs[i] _ _ hi ez p.1 y (fun v H4 e s4 => ⟨_, s4 _ _ p.2, ?_, ?_, ?_⟩) (fun H4 e s4 => ⟨p.1.trans s4, ?_⟩)
    · refine Nat.lt_of_le_of_lt (List.length_filterMap_le _ _) ?_
      rw [List.length_take]; omega
    · intro c o ec
      rw [upd_ne (ne_of_none ec hD)]
      exact s4 _ _ (p.1 _ _ ec)
    · rw [upd_same, tk _ ez, e]
      rfl
    · rw [tk _ ez, e, Option.toList_none, List.append_nil]
      exact s4 _ _ p.2
  · have e := p.2
    rw [← hlen, List.take_length] at e
    exact e
/-- the elements are told by what holds of them -/
theorem lcr (w : Walk J n G Y) (hGs : ∀ H H', G H → Same H H' → G H') (R : Nat → Hp → V → Prop) (hR : ∀ i H H' y, R i H y → Nl H H' → R i H' y) (hz : n < sizeLine) (hG : G H1) (hD : H1 D = none)
    (hs : ∀ (i : Nat) (x : V) (H H' : Hp) (N : VK) (M : Hp → Prop), i < n → Same H1 H → Y i H x H' → (∀ y H4, Same H H4 → R i H4 y → N y H4) →
      g x (wipe σ vs) H' fun σ2 H2 => wipe σ2 vs = wipe σ vs ∧ tt σ2 H2 fun b H3 => if b = true then te σ2 H3 N else M H3)
    (hd : ∀ H ys, Same H1 H → H D = some (.lst ys) → ys.length = n → (∀ i y, ys[i]? = some y → R i H y) → Qd H) :
    ∃ W : Nat → Nat → Hp → Prop, (∃ m, W 0 m (upd H1 D (.lst []))) ∧ ∀ i m H, W i m H →
      (J.stop i H ∧ Qd H) ∨ (J.go i H ∧ ∃ Nx : Hp → Prop, (∀ H', Nx H' → ∃ m', m' < m ∧ W (i + 1) m' H') ∧ ∀ x H', J.yld i H x H' → g x (wipe σ vs) H' fun σ2 H2 => wipe σ2 vs = wipe σ vs ∧ tt σ2 H2 fun b H3 =>
        if b = true then te σ2 H3 fun y H4 => ∃ acc, H4 D = some (.lst acc) ∧ acc.length < sizeLine ∧ Nx (upd H4 D (.lst (acc ++ [y]))) else Nx H3) := by
  refine lc_it w (fun i H => Same H1 H ∧ ∃ ys, H D = some (.lst ys) ∧ ys.length = i ∧ ∀ j y, ys[j]? = some y → R j H y) ⟨same1 hD, [], upd_same, rfl, fun j y hy => by simp at hy⟩ (fun i H _ p => hGs _ _ hG p.1) (fun i x H H' hi p y => ?_) (fun H p => ?_)
  · obtain ⟨s1, ys, h1, h2, h3⟩ := p
    refine hs i x H H' _ _ hi s1 y (fun v H4 s4 r4 => ⟨ys, s4 _ _ h1, by omega, ?_, ys ++ [v], upd_same, by rw [List.length_append, h2]; rfl, ?_⟩)
    · intro c o ec
      rw [upd_ne (ne_of_none ec hD)]
      exact s4 _ _ (s1 _ _ ec)
    · intro j z hj
      have n4 : Nl H4 (upd H4 D (.lst (ys ++ [v]))) := Nl.put (s4 _ _ h1)
      by_cases hlt : j < ys.length
      · rw [List.getElem?_append_left hlt] at hj
        exact hR _ _ _ _ (hR _ _ _ _ (h3 j z hj) (Nl.of s4)) n4
      · have hj2 : j = ys.length := by
          have := (List.getElem?_eq_some_iff.mp hj).1
          rw [List.length_append, List.length_singleton] at this
          omega
        subst hj2
        rw [List.getElem?_append_right (Nat.le_refl _), Nat.sub_self] at hj
        cases hj
        rw [h2]
        exact hR _ _ _ _ r4 n4
  · obtain ⟨s1, ys, h1, h2, h3⟩ := p
    exact hd H ys s1 h1 h2 h3
end
/-! ### several Measures -/
/-- the values ps are Measures of the fractions zs -/
structure Mks (C : Addr) (H : Hp) (k : Nat) (ps : List V) (zs : List Q2) : Prop where
  len : ps.length = zs.length
  all : ∀ (i : Nat) (v : V) (z : Q2), ps[i]? = some v → zs[i]? = some z → ∃ p, v = V.ref p ∧ QAt C H p k z
section
variable {C : Addr} {H H' : Hp} {k : Nat} {ps : List V} {zs : List Q2} {v : V}
theorem Mks.same (m : Mks C H k ps zs) (s : Same H H') : Mks C H' k ps zs := ⟨m.len, fun i v z h1 h2 => by
  obtain ⟨p, e, q⟩ := m.all i v z h1 h2
  exact ⟨p, e, q.same s⟩⟩
theorem Mks.kp {hd : Addr} {n : Nat} (m : Mks C H k ps zs) (hh : HandAt H hd n) (s : Kp hd H H') : Mks C H' k ps zs := ⟨m.len, fun i v z h1 h2 => by
  obtain ⟨p, e, q⟩ := m.all i v z h1 h2
  exact ⟨p, e, q.kp hh s⟩⟩
theorem Mks.at (m : Mks C H k ps zs) {i : Nat} {z : Q2} (h : zs[i]? = some z) : ∃ p, ps[i]? = some (.ref p) ∧ QAt C H p k z := by
  have hi : i < ps.length := by rw [m.len]; exact (List.getElem?_eq_some_iff.mp h).1
  obtain ⟨p, e, q⟩ := m.all i _ z (List.getElem?_eq_getElem hi) h
  exact ⟨p, by rw [List.getElem?_eq_getElem hi, e], q⟩
theorem Mks.of (m : Mks C H k ps zs) {i : Nat} {v : V} (h : ps[i]? = some v) : ∃ p z, v = .ref p ∧ zs[i]? = some z ∧ QAt C H p k z := by
  have hi : i < zs.length := by rw [← m.len]; exact (List.getElem?_eq_some_iff.mp h).1
  obtain ⟨p, e, q⟩ := m.all i v _ h (List.getElem?_eq_getElem hi)
  exact ⟨p, _, e, List.getElem?_eq_getElem hi, q⟩
/-- None, or a Measure -/
def QO (C : Addr) (H : Hp) (k : Nat) (v : V) : Option Q2 → Prop
  | none => v = .non
  | some z => ∃ p, v = .ref p ∧ QAt C H p k z
theorem QO.same : ∀ {e : Option Q2}, QO C H k v e → Same H H' → QO C H' k v e
  | none, h, _ => h
  | some _, ⟨p, h1, h2⟩, s => ⟨p, h1, h2.same s⟩
theorem QO.kp {hd : Addr} {n : Nat} : ∀ {e : Option Q2}, QO C H k v e → HandAt H hd n → Kp hd H H' → QO C H' k v e
  | none, h, _, _ => h
  | some _, ⟨p, h1, h2⟩, hh, s => ⟨p, h1, h2.kp hh s⟩
/-- the exact numbers of such a Measure -/
theorem QAt.low {p : Addr} {z : Q2} (q : QAt C H p k z) (l : k ≤ 4000) : ∃ a : Q2, MAt C H p a.1 a.2 ∧ Low a ∧ Re a z := by
  obtain ⟨⟨t, u, m, f⟩, h1, h2, h3⟩ := q
  exact ⟨(t, u), m, ⟨f.pos, f.co, (h2.le f.lt).mono l, (h3.le f.lu).mono l⟩, f.pos, h1, f.eq⟩
theorem QO.low (l : k ≤ 4000) : ∀ {e : Option Q2}, QO C H k v e → ∃ m, MsV C H v m ∧ LowO m ∧ ReO m e
  | none, h => ⟨none, h, trivial, trivial⟩
  | some _, ⟨p, h1, h2⟩ => by
    obtain ⟨a, ma, la, ra⟩ := h2.low l
    exact ⟨some a, ⟨p, h1, ma⟩, la, ra⟩
theorem QAt.of {p : Addr} {a z : Q2} (m : MAt C H p a.1 a.2) (l : Low a) (r : Re a z) (s1 : Sz k z.1) (s2 : Sz k z.2) : QAt C H p k z :=
  ⟨⟨a.1, a.2, m, fr_of l.pos l.co r.2.1 r.2.2⟩, r.2.1, s1, s2⟩
end
/-! ### a Ladder -/
def lf (T : V) (r : Str) (l h : V) : List (Str × V) := [("marks", T), ("rule", .str r), ("least", l), ("most", h)]
theorem lf_put (T : V) (r : Str) (l h : V) : putF "most" h (putF "least" l (putF "rule" (.str r) (putF "marks" T []))) = lf T r l h := by
  have e1 : putF ("rule" : Str) (.str r) (putF ("marks" : Str) T []) = ([("marks", T), ("rule", .str r)] : List (Str × V)) := by
    show (if ("marks" : Str) = "rule" then [(("marks" : Str), V.str r)] else (("marks" : Str), T) :: putF "rule" (.str r) []) = _
    rw [if_neg (by decide +kernel)] <;> rfl
  have e2 : putF ("least" : Str) l [("marks", T), ("rule", .str r)] = ([("marks", T), ("rule", .str r), ("least", l)] : List (Str × V)) := by
    show (if ("marks" : Str) = "least" then _ else (("marks" : Str), T) :: (if ("rule" : Str) = "least" then _ else (("rule" : Str), V.str r) :: putF "least" l [])) = _
    rw [if_neg (by decide +kernel), if_neg (by decide +kernel)] <;> rfl
  have e3 : putF ("most" : Str) h [("marks", T), ("rule", .str r), ("least", l)] = lf T r l h := by
    show (if ("marks" : Str) = "most" then _ else (("marks" : Str), T) :: (if ("rule" : Str) = "most" then _ else (("rule" : Str), V.str r) :: (if ("least" : Str) = "most" then _ else (("least" : Str), l) :: putF "most" h []))) = _
    rw [if_neg (by decide +kernel), if_neg (by decide +kernel), if_neg (by decide +kernel)] <;> rfl
  rw [e1, e2, e3]
section
variable (T : V) (r : Str) (l h : V)
theorem lf_marks : (lf T r l h).lookup ("marks" : Str) = some T := by
  rw [← lf_put, lookup_putF, if_neg (by decide +kernel), lookup_putF, if_neg (by decide +kernel), lookup_putF, if_neg (by decide +kernel), lookup_putF, if_pos rfl]
theorem lf_rule : (lf T r l h).lookup ("rule" : Str) = some (.str r) := by
  rw [← lf_put, lookup_putF, if_neg (by decide +kernel), lookup_putF, if_neg (by decide +kernel), lookup_putF, if_pos rfl]
theorem lf_least : (lf T r l h).lookup ("least" : Str) = some l := by
  rw [← lf_put, lookup_putF, if_neg (by decide +kernel), lookup_putF, if_pos rfl]
theorem lf_most : (lf T r l h).lookup ("most" : Str) = some h := by
  rw [← lf_put, lookup_putF, if_pos rfl]
theorem lf_no {m : Str} (h1 : ¬ m = "marks") (h2 : ¬ m = "rule") (h3 : ¬ m = "least") (h4 : ¬ m = "most") : (lf T r l h).lookup m = none := by
  rw [← lf_put, lookup_putF, if_neg h4, lookup_putF, if_neg h3, lookup_putF, if_neg h2, lookup_putF, if_neg h1] <;> rfl
end
/-- rows that rise -/
def RiseQ (zs : List Q2) : Prop := ∀ i a b, zs[i]? = some a → zs[i + 1]? = some b → ltq a b = true
/-- the first row that isn't above the one ahead -/
def SlipQ (zs : List Q2) : Option Nat → Prop
  | none => RiseQ zs
  | some n => 1 ≤ n ∧ n < zs.length ∧ (∀ a b, zs[n - 1]? = some a → zs[n]? = some b → ltq a b = false) ∧ ∀ i a b, i + 1 < n → zs[i]? = some a → zs[i + 1]? = some b → ltq a b = true
def optI : Option Nat → V
  | none => .non
  | some n => .int (n : Int)
def leq (a b : Q2) : Bool := ltq a b || eqq a b
/-- least isn't above most -/
def spanB : Option Q2 → Option Q2 → Bool
  | some a, some b => !ltq b a
  | _, _ => true
def IsRule (r : Str) : Prop := r = "up" ∨ r = "down" ∨ r = "near"
structure LadAt (K : PySem.W.Frag) (CM CL : Addr) (H : Hp) (p : Addr) (k : Nat) (zs : List Q2) (r : Str) (lo hi : Option Q2) : Prop where
  ob : ∃ dx T ps l h, H p = some (.ins CL dx (lf (.ref T) r l h)) ∧ SqT K H T ps ∧ Mks CM H k ps zs ∧ QO CM H k l lo ∧ QO CM H k h hi
  len0 : 0 < zs.length
  len1 : zs.length ≤ 24
  rise : RiseQ zs
  rule : IsRule r
  span : spanB lo hi = true
theorem LadAt.same {K : PySem.W.Frag} {CM CL p : Addr} {H H' : Hp} {k : Nat} {zs : List Q2} {r : Str} {lo hi : Option Q2} (a : LadAt K CM CL H p k zs r lo hi) (s : Same H H') : LadAt K CM CL H' p k zs r lo hi := by
  obtain ⟨⟨dx, T, ps, l, h, h1, h2, h3, h4, h5⟩, a1, a2, a3, a4, a5⟩ := a
  exact ⟨⟨dx, T, ps, l, h, s _ _ h1, s.sqt h2, h3.same s, h4.same s, h5.same s⟩, a1, a2, a3, a4, a5⟩
theorem LadAt.raw {K : PySem.W.Frag} {CM CL p : Addr} {H : Hp} {k : Nat} {zs : List Q2} {r : Str} {lo hi : Option Q2} (a : LadAt K CM CL H p k zs r lo hi) {m : Str} (h1 : ¬ m = "marks") (h2 : ¬ m = "rule") (h3 : ¬ m = "least") (h4 : ¬ m = "most") : ∃ dx fs, H p = some (.ins CL dx fs) ∧ fs.lookup m = none := by
  obtain ⟨⟨dx, T, ps, l, h, e1, _⟩, _⟩ := a
  exact ⟨dx, _, e1, lf_no _ _ _ _ h1 h2 h3 h4⟩
/-- the midsts of neighbours -/
def midq : List Q2 → List Q2
  | a :: b :: r => qhalf a b :: midq (b :: r)
  | _ => []
def sizeR (zs : List Q2) (r : Str) (x : Q2) : Int :=
  if r = "up" then (zs.countP (fun a => ltq a x) : Nat) else if r = "down" then (zs.countP (fun a => leq a x) : Nat) - 1 else ((midq zs).countP (fun a => leq a x) : Nat)
def loOk : Option Q2 → Q2 → Bool
  | none, _ => true
  | some a, x => !ltq x a
def hiOk : Option Q2 → Q2 → Bool
  | none, _ => true
  | some b, x => !ltq b x
def inO (lo hi : Option Q2) (x : Q2) : Bool := loOk lo x && hiOk hi x
def sizeQ (zs : List Q2) (r : Str) (lo hi : Option Q2) (x : Q2) : Option Nat :=
  if inO lo hi x = true then (if 0 ≤ sizeR zs r x ∧ sizeR zs r x < zs.length then some (sizeR zs r x).toNat else none) else none
theorem sizeQ_out {zs : List Q2} {r : Str} {lo hi : Option Q2} {x : Q2} (h : inO lo hi x = false) : none = sizeQ zs r lo hi x := by
  unfold sizeQ
  rw [h]
  rfl
theorem inO_lo {a : Q2} {hi : Option Q2} {x : Q2} (h : ltq x a = true) : inO (some a) hi x = false := by
  show (!ltq x a && hiOk hi x) = false
  rw [h]; rfl
theorem inO_hi {b : Q2} {lo : Option Q2} {x : Q2} (h : ltq b x = true) : inO lo (some b) x = false := by
  show (loOk lo x && !ltq b x) = false
  rw [h]; cases loOk lo x <;> rfl
theorem midq_len : ∀ zs : List Q2, (midq zs).length = zs.length - 1
  | [] => rfl
  | [_] => rfl
  | a :: b :: r => by
    show (midq (b :: r)).length + 1 = _
    rw [midq_len (b :: r)]
    simp
theorem midq_get : ∀ (zs : List Q2) (i : Nat) (a b : Q2), zs[i]? = some a → zs[i + 1]? = some b → (midq zs)[i]? = some (qhalf a b)
  | [], i, a, b, h, _ => by simp at h
  | [x], i, a, b, _, h => by simp at h
  | x :: y :: r, 0, a, b, h1, h2 => by
    cases h1; cases h2; rfl
  | x :: y :: r, i + 1, a, b, h1, h2 => by
    have := midq_get (y :: r) i a b (by simpa using h1) (by simpa using h2)
    simpa [midq] using this
theorem atI_of {xs : List V} {z : Int} {n : Nat} {v : V} (e : z = (n : Int)) (h : xs[n]? = some v) : atI xs z = some v := by
  rw [e]; exact atI_nat h
theorem ge2 {n : Nat} {zs : List Q2} (h : n < zs.length) : ∃ a, zs[n]? = some a := ⟨_, List.getElem?_eq_getElem h⟩
/-- a constant of the module: a tuple of texts -/
def strsOf : List Value → Option (List Str)
  | [] => some []
  | .str x _ :: r => (strsOf r).map (x :: ·)
  | _ => none
theorem strsOf_ok : ∀ {l : List Value} {ss : List Str}, strsOf l = some ss → Vals (ss.map V.str) l
  | [], ss, h => by cases h; exact .nil
  | .str x t :: r, ss, h => by
    cases e : strsOf r with
    | none => simp [strsOf, e] at h
    | some l =>
      simp [strsOf, e] at h
      subst h
      exact .cons ⟨t, rfl⟩ (strsOf_ok e)
def tupB (x : Str) (ss : List Str) : PySem.W.Frag → Bool := fun K => match K.lookup (He.ga K x) with
  | some ⟨.type "tuple", _, .seq its _, _⟩ => decide (its.size ≤ sizeLine) && decide (strsOf its.toList = some ss)
  | _ => false
theorem tup_ok {x : Str} {ss : List Str} {K : PySem.W.Frag} (c : tupB x ss K = true) : ∀ H, SqT K H (He.ga K x) (ss.map V.str) := by
  intro H
  unfold tupB at c
  split at c
  · rename_i d its n sl e
    obtain ⟨c1, c2⟩ := He.ba c
    exact .inr ⟨_, its, n, e, rfl, rfl, of_decide_eq_true c1, strsOf_ok (of_decide_eq_true c2)⟩
  · cases c
theorem tyTup {K : PySem.W.Frag} {H : Hp} {T : Addr} {ps : List V} (h : SqT K H T ps) : TyX K H (.ref T) (.type "tuple") := by
  rcases h with (h | ⟨o, h⟩) | ⟨o, its, n, h, c, _⟩
  · exact .base (.tup h)
  · exact .fTuple h
  · exact .kTuple h c
/-! ### what the defs of ladders promise -/
def sp_slip (K : PySem.W.Frag) (CM : Addr) : Sp := fun vs H Q _ => ∃ (T : Addr) (k : Nat) (ps : List V) (zs : List Q2), vs = [.ref T] ∧ SqT K H T ps ∧ Mks CM H k ps zs ∧ k ≤ 9000 ∧ zs.length ≤ 1000 ∧ ∀ o, SlipQ zs o → Q (optI o) H
def sp_arem (K : PySem.W.Frag) (CM : Addr) : Sp := fun vs H Q _ => ∃ (T : Addr) (k : Nat) (ps : List V) (zs : List Q2), vs = [.ref T] ∧ SqT K H T ps ∧ Mks CM H k ps zs ∧ 0 < zs.length ∧ zs.length ≤ 24 ∧ ∀ H', Same H H' → Q (.bl true) H'
def sp_isrule : Sp := fun vs H Q _ => ∃ r : Str, vs = [.str r] ∧ IsRule r ∧ Q (.bl true) H
def sp_linit (K : PySem.W.Frag) (CM CL : Addr) : Sp := fun vs H Q _ => ∃ (p dx T : Addr) (k : Nat) (ps : List V) (zs : List Q2) (r : Str) (l h : V) (lo hi : Option Q2), vs = [.ref p, .ref T, .str r, l, h] ∧ H p = some (.ins CL dx []) ∧ SqT K H T ps ∧ Mks CM H k ps zs ∧ k ≤ 4000 ∧ 0 < zs.length ∧ zs.length ≤ 24 ∧ RiseQ zs ∧ IsRule r ∧
  QO CM H k l lo ∧ QO CM H k h hi ∧ spanB lo hi = true ∧ ∀ H', H' p = some (.ins CL dx (lf (.ref T) r l h)) → (∀ q o, H q = some o → q ≠ p → H' q = some o) → Q .non H'
def sp_mids (K : PySem.W.Frag) (CM : Addr) : Sp := fun vs H Q _ => ∃ (T : Addr) (k : Nat) (ps : List V) (zs : List Q2), vs = [.ref T] ∧ SqT K H T ps ∧ Mks CM H k ps zs ∧ 0 < k ∧ k ≤ 1000 ∧ 0 < zs.length ∧ zs.length ≤ 24 ∧ ∀ (D : Addr) (ys : List V) (H' : Hp), Same H H' → H' D = some (.lst ys) → Mks CM H' (k + k + 1 + 10 + 1) ys (midq zs) → Q (.ref D) H'
def sp_sizeR (K : PySem.W.Frag) (CM : Addr) : Sp := fun vs H Q _ => ∃ (T q : Addr) (k : Nat) (ps : List V) (zs : List Q2) (r : Str) (x : Q2), vs = [.ref T, .str r, .ref q] ∧ SqT K H T ps ∧ Mks CM H k ps zs ∧ QAt CM H q k x ∧ 0 < k ∧ k ≤ 1000 ∧ 0 < zs.length ∧ zs.length ≤ 24 ∧ ∀ H', Same H H' → Q (.int (sizeR zs r x)) H'
def sp_size (K : PySem.W.Frag) (CM CL : Addr) : Sp := fun vs H Q _ => ∃ (p q : Addr) (k : Nat) (zs : List Q2) (r : Str) (lo hi : Option Q2) (x : Q2), vs = [.ref p, .ref q] ∧ LadAt K CM CL H p k zs r lo hi ∧ QAt CM H q k x ∧ 0 < k ∧ k ≤ 1000 ∧ ∀ H', Same H H' → Q (optI (sizeQ zs r lo hi x)) H'
/-- a Ladder is made -/
theorem lad_made {K : PySem.W.Frag} {CM CL T : Addr} {H : Hp} {Qa : Addr → Hp → Prop} {E : XK} {k : Nat} {ps : List V} {zs : List Q2} {r : Str} {l h : V} {lo hi : Option Q2} (hT : SqT K H T ps) (hm : Mks CM H k ps zs) (hk : k ≤ 4000) (l0 : 0 < zs.length) (l1 : zs.length ≤ 24) (ri : RiseQ zs) (ru : IsRule r)
    (q1 : QO CM H k l lo) (q2 : QO CM H k h hi) (sp : spanB lo hi = true) (f : ∀ (p : Addr) (H' : Hp), H p = none → Same H H' → LadAt K CM CL H' p k zs r lo hi → (∃ dx, H' p = some (.ins CL dx (lf (.ref T) r l h))) → Qa p H') :
    ∀ x dx, H x = none → H dx = none → dx ≠ x → sp_linit K CM CL [.ref x, .ref T, .str r, l, h] (upd (upd H dx (.own x)) x (.ins CL dx [])) (fun v H2 => v = .non ∧ Qa x H2) E := by
  intro x dx nx nd ne
  have s0 : Same H (upd (upd H dx (.own x)) x (.ins CL dx [])) := fun c o e => by
    rw [upd_ne (ne_of_none e nx)]
    exact up1 nd e
  refine ⟨x, dx, T, k, ps, zs, r, l, h, lo, hi, rfl, upd_same, s0.sqt hT, hm.same s0, hk, l0, l1, ri, ru, q1.same s0, q2.same s0, sp, fun H' hx kp => ⟨rfl, ?_⟩⟩
  have s1 : Same H H' := made_same nx nd kp
  exact f x H' nx s1 ⟨⟨dx, T, ps, l, h, hx, s1.sqt hT, hm.same s1, q1.same s1, q2.same s1⟩, l0, l1, ri, ru, sp⟩ ⟨dx, hx⟩
theorem zipF_len {f : Q2 → Bool} : ∀ {ps : List V} {zs : List Q2}, ps.length = zs.length → ((List.zipWith (fun (p : V) (z : Q2) => if f z then some p else none) ps zs).filterMap _root_.id).length = zs.countP f
  | [], [], _ => rfl
  | p :: ps, z :: zs, h => by
    have ih := zipF_len (f := f) (ps := ps) (zs := zs) (by simpa using h)
    rw [List.zipWith_cons_cons, List.countP_cons]
    cases e : f z
    · simpa using ih
    · simpa using ih
  | [], _ :: _, h => by simp at h
  | _ :: _, [], h => by simp at h
theorem zipF_get {f : Q2 → Bool} {ps : List V} {zs : List Q2} {i : Nat} {p : V} {z : Q2} {o : Option V} (h1 : ps[i]? = some p) (h2 : zs[i]? = some z) (h : (List.zipWith (fun (p : V) (z : Q2) => if f z then some p else none) ps zs)[i]? = some o) : o = if f z then some p else none := by
  rw [List.getElem?_zipWith, h1, h2] at h
  exact (Option.some.inj h).symm
theorem iteDT {c A B : Prop} [Decidable c] (hc : c) (h : A) : if decide c = true then A else B := by
  rw [if_pos (decide_eq_true hc)]; exact h
theorem iteDF {c A B : Prop} [Decidable c] (hc : ¬ c) (h : B) : if decide c = true then A else B := by
  rw [if_neg (by simpa using hc)]; exact h
theorem iteNT {c A B : Prop} [Decidable c] (hc : ¬ c) (h : A) : if (!decide c) = true then A else B := by
  rw [if_pos (by simpa using hc)]; exact h
section
variable {C H p k} {m : Str} {R : Prop}
theorem meth_q {x : Q2} (q : QAt C H p k x) (h1 : ¬ m = "top") (h2 : ¬ m = "bottom") (h : R) : ∃ a dx fs, V.ref p = .ref a ∧ H a = some (.ins C dx fs) ∧ fs.lookup m = none ∧ R := by
  obtain ⟨dx, fs, e1, e2⟩ := q.raw h1 h2
  exact ⟨p, dx, fs, rfl, e1, e2, h⟩
theorem meth_l {K : PySem.W.Frag} {CM : Addr} {zs : List Q2} {r : Str} {lo hi : Option Q2} (q : LadAt K CM C H p k zs r lo hi) (h1 : ¬ m = "marks") (h2 : ¬ m = "rule") (h3 : ¬ m = "least") (h4 : ¬ m = "most") (h : R) : ∃ a dx fs, V.ref p = .ref a ∧ H a = some (.ins C dx fs) ∧ fs.lookup m = none ∧ R := by
  obtain ⟨dx, fs, e1, e2⟩ := q.raw h1 h2 h3 h4
  exact ⟨p, dx, fs, rfl, e1, e2, h⟩
theorem meth_s {CM : Addr} {lo hi : Option Q2} {li hj : Bool} (q : StAt CM C H p lo hi li hj) (h1 : ¬ m = "low") (h2 : ¬ m = "high") (h3 : ¬ m = "low_in") (h4 : ¬ m = "high_in") (h : R) : ∃ a dx fs, V.ref p = .ref a ∧ H a = some (.ins C dx fs) ∧ fs.lookup m = none ∧ R := by
  obtain ⟨dx, fs, e1, e2⟩ := q.raw h1 h2 h3 h4
  exact ⟨p, dx, fs, rfl, e1, e2, h⟩
end
end My
namespace K36
open PySem PySem.Spec PyProof.Rows L2 My
/-! ### the text by places -/
def topS (i : Nat) : Stmt := PySem.Challenge.pw_sizeladders_k36_whole_rounds_by_measures.main.body.getD i (.Pass ⟨0, 0, 0, 0⟩)
abbrev s_is_whole : Stmt := (topS 11)
abbrev s_is_tuple_of : Stmt := (topS 12)
abbrev s_are_wholes : Stmt := (topS 13)
abbrev s_is_word : Stmt := (topS 14)
abbrev s_common_part : Stmt := (topS 16)
abbrev s_Measure_init : Stmt := (inClass (topS 18) 0)
abbrev s_Measure_eq : Stmt := (inClass (topS 18) 1)
abbrev s_Measure_plus : Stmt := (inClass (topS 18) 4)
abbrev s_Measure_minus : Stmt := (inClass (topS 18) 5)
abbrev s_Measure_parted : Stmt := (inClass (topS 18) 7)
abbrev s_Measure_is_below : Stmt := (inClass (topS 18) 8)
abbrev s_is_measure_or_none : Stmt := (topS 19)
abbrev s_slip_of : Stmt := (topS 21)
abbrev s_is_empty : Stmt := (topS 23)
abbrev s_cut_low : Stmt := (topS 25)
abbrev s_cut_high : Stmt := (topS 26)
abbrev s_some_measure : Stmt := (topS 27)
abbrev s_Stretch_init : Stmt := (inClass (topS 28) 0)
abbrev s_Stretch_shared : Stmt := (inClass (topS 28) 6)
abbrev s_Stretch_cut : Stmt := (inClass (topS 28) 7)
abbrev s_are_marks : Stmt := (topS 32)
abbrev s_is_rule : Stmt := (topS 33)
abbrev s_is_span : Stmt := (topS 34)
abbrev s_midsts_of : Stmt := (topS 35)
abbrev s_size_by_rule : Stmt := (topS 36)
abbrev s_end_at : Stmt := (topS 37)
abbrev s_stretch_by_rule : Stmt := (topS 38)
abbrev s_has_size : Stmt := (topS 39)
abbrev s_Ladder_init : Stmt := (inClass (topS 41) 0)
abbrev s_Ladder_len : Stmt := (inClass (topS 41) 4)
abbrev s_Ladder_size : Stmt := (inClass (topS 41) 5)
abbrev s_Ladder_stretch : Stmt := (inClass (topS 41) 6)
abbrev s_shared_by : Stmt := (topS 43)
abbrev s_common_measures : Stmt := (topS 44)
abbrev s_led : Stmt := (topS 45)
abbrev s_comes_to : Stmt := (topS 46)
abbrev s_way_of : Stmt := (topS 48)
abbrev s_run_behind : Stmt := (topS 49)
abbrev s_runs_of : Stmt := (topS 50)
abbrev s_size_ahead : Stmt := (topS 51)
abbrev s_sizes_to : Stmt := (topS 52)
abbrev s_row_to : Stmt := (topS 53)
abbrev s_round_from : Stmt := (topS 54)
abbrev s_end_rows : Stmt := (topS 55)
abbrev s_drift_of : Stmt := (topS 56)
abbrev s_most_drift : Stmt := (topS 57)
abbrev s_are_runs : Stmt := (topS 59)
abbrev s_are_sizes : Stmt := (topS 60)
abbrev s_are_steps : Stmt := (topS 61)
abbrev s_is_row : Stmt := (topS 62)
abbrev s_is_stop : Stmt := (topS 63)
abbrev s_is_return : Stmt := (topS 64)
abbrev s_shows_round : Stmt := (topS 65)
abbrev s_l_begin : Stmt := (topS 67)
abbrev s_l_pick : Stmt := (topS 68)
abbrev s_l_of : Stmt := (topS 69)
abbrev s_l_parts : Stmt := (topS 70)
abbrev s_l_less : Stmt := (topS 71)
abbrev s_l_plus : Stmt := (topS 72)
abbrev s_l_mid : Stmt := (topS 73)
abbrev s_l_drawn : Stmt := (topS 74)
abbrev s_l_made : Stmt := (topS 75)
abbrev s_l_scaled : Stmt := (topS 76)
abbrev s_l_ladders : Stmt := (topS 77)
abbrev s_l_rising : Stmt := (topS 78)
abbrev s_l_tried : Stmt := (topS 79)
abbrev s_l_leads : Stmt := (topS 80)
abbrev s_l_rows_right : Stmt := (topS 81)
abbrev s_l_start_right : Stmt := (topS 82)
abbrev s_l_right : Stmt := (topS 83)
abbrev s_law : Stmt := (topS 84)
abbrev N_is_whole : List Str := ["thing"]
abbrev p_is_whole : List Str := ["thing"]
theorem sc_is_whole : FnScope N_is_whole p_is_whole (defScope s_is_whole) := ⟨rfl, rfl, rfl, by decide +kernel, rfl, by decide +kernel, by decide +kernel⟩
abbrev N_is_tuple_of : List Str := ["thing", "many"]
abbrev p_is_tuple_of : List Str := ["thing", "many"]
theorem sc_is_tuple_of : FnScope N_is_tuple_of p_is_tuple_of (defScope s_is_tuple_of) := ⟨rfl, rfl, rfl, by decide +kernel, rfl, by decide +kernel, by decide +kernel⟩
abbrev N_are_wholes : List Str := ["thing", "part"]
abbrev p_are_wholes : List Str := ["thing"]
theorem sc_are_wholes : FnScope N_are_wholes p_are_wholes (defScope s_are_wholes) := ⟨rfl, rfl, rfl, by decide +kernel, rfl, by decide +kernel, by decide +kernel⟩
abbrev N_is_word : List Str := ["thing", "word"]
abbrev p_is_word : List Str := ["thing", "word"]
theorem sc_is_word : FnScope N_is_word p_is_word (defScope s_is_word) := ⟨rfl, rfl, rfl, by decide +kernel, rfl, by decide +kernel, by decide +kernel⟩
abbrev N_common_part : List Str := ["one", "other", "great", "small"]
abbrev p_common_part : List Str := ["one", "other"]
theorem sc_common_part : FnScope N_common_part p_common_part (defScope s_common_part) := ⟨rfl, rfl, rfl, by decide +kernel, rfl, by decide +kernel, by decide +kernel⟩
abbrev N_Measure_init : List Str := ["self", "top", "bottom", "common"]
abbrev p_Measure_init : List Str := ["self", "top", "bottom"]
theorem sc_Measure_init : FnScope N_Measure_init p_Measure_init (defScope s_Measure_init) := ⟨rfl, rfl, rfl, by decide +kernel, rfl, by decide +kernel, by decide +kernel⟩
abbrev N_Measure_eq : List Str := ["self", "other"]
abbrev p_Measure_eq : List Str := ["self", "other"]
theorem sc_Measure_eq : FnScope N_Measure_eq p_Measure_eq (defScope s_Measure_eq) := ⟨rfl, rfl, rfl, by decide +kernel, rfl, by decide +kernel, by decide +kernel⟩
abbrev N_Measure_plus : List Str := ["self", "other"]
abbrev p_Measure_plus : List Str := ["self", "other"]
theorem sc_Measure_plus : FnScope N_Measure_plus p_Measure_plus (defScope s_Measure_plus) := ⟨rfl, rfl, rfl, by decide +kernel, rfl, by decide +kernel, by decide +kernel⟩
abbrev N_Measure_minus : List Str := ["self", "other"]
abbrev p_Measure_minus : List Str := ["self", "other"]
theorem sc_Measure_minus : FnScope N_Measure_minus p_Measure_minus (defScope s_Measure_minus) := ⟨rfl, rfl, rfl, by decide +kernel, rfl, by decide +kernel, by decide +kernel⟩
abbrev N_Measure_parted : List Str := ["self", "many"]
abbrev p_Measure_parted : List Str := ["self", "many"]
theorem sc_Measure_parted : FnScope N_Measure_parted p_Measure_parted (defScope s_Measure_parted) := ⟨rfl, rfl, rfl, by decide +kernel, rfl, by decide +kernel, by decide +kernel⟩
abbrev N_Measure_is_below : List Str := ["self", "other", "alike", "here", "there"]
abbrev p_Measure_is_below : List Str := ["self", "other", "alike"]
theorem sc_Measure_is_below : FnScope N_Measure_is_below p_Measure_is_below (defScope s_Measure_is_below) := ⟨rfl, rfl, rfl, by decide +kernel, rfl, by decide +kernel, by decide +kernel⟩
abbrev N_is_measure_or_none : List Str := ["thing"]
abbrev p_is_measure_or_none : List Str := ["thing"]
theorem sc_is_measure_or_none : FnScope N_is_measure_or_none p_is_measure_or_none (defScope s_is_measure_or_none) := ⟨rfl, rfl, rfl, by decide +kernel, rfl, by decide +kernel, by decide +kernel⟩
abbrev N_slip_of : List Str := ["rows", "number"]
abbrev p_slip_of : List Str := ["rows"]
theorem sc_slip_of : FnScope N_slip_of p_slip_of (defScope s_slip_of) := ⟨rfl, rfl, rfl, by decide +kernel, rfl, by decide +kernel, by decide +kernel⟩
abbrev N_is_empty : List Str := ["low", "high", "low_in", "high_in"]
abbrev p_is_empty : List Str := ["low", "high", "low_in", "high_in"]
theorem sc_is_empty : FnScope N_is_empty p_is_empty (defScope s_is_empty) := ⟨rfl, rfl, rfl, by decide +kernel, rfl, by decide +kernel, by decide +kernel⟩
abbrev N_cut_low : List Str := ["one", "other"]
abbrev p_cut_low : List Str := ["one", "other"]
theorem sc_cut_low : FnScope N_cut_low p_cut_low (defScope s_cut_low) := ⟨rfl, rfl, rfl, by decide +kernel, rfl, by decide +kernel, by decide +kernel⟩
abbrev N_cut_high : List Str := ["one", "other"]
abbrev p_cut_high : List Str := ["one", "other"]
theorem sc_cut_high : FnScope N_cut_high p_cut_high (defScope s_cut_high) := ⟨rfl, rfl, rfl, by decide +kernel, rfl, by decide +kernel, by decide +kernel⟩
abbrev N_some_measure : List Str := ["stretch"]
abbrev p_some_measure : List Str := ["stretch"]
theorem sc_some_measure : FnScope N_some_measure p_some_measure (defScope s_some_measure) := ⟨rfl, rfl, rfl, by decide +kernel, rfl, by decide +kernel, by decide +kernel⟩
abbrev N_Stretch_init : List Str := ["self", "low", "high", "low_in", "high_in"]
abbrev p_Stretch_init : List Str := ["self", "low", "high", "low_in", "high_in"]
theorem sc_Stretch_init : FnScope N_Stretch_init p_Stretch_init (defScope s_Stretch_init) := ⟨rfl, rfl, rfl, by decide +kernel, rfl, by decide +kernel, by decide +kernel⟩
abbrev N_Stretch_shared : List Str := ["self", "other", "both"]
abbrev p_Stretch_shared : List Str := ["self", "other"]
theorem sc_Stretch_shared : FnScope N_Stretch_shared p_Stretch_shared (defScope s_Stretch_shared) := ⟨rfl, rfl, rfl, by decide +kernel, rfl, by decide +kernel, by decide +kernel⟩
abbrev N_Stretch_cut : List Str := ["self", "other", "low", "low_in", "high", "high_in"]
abbrev p_Stretch_cut : List Str := ["self", "other"]
theorem sc_Stretch_cut : FnScope N_Stretch_cut p_Stretch_cut (defScope s_Stretch_cut) := ⟨rfl, rfl, rfl, by decide +kernel, rfl, by decide +kernel, by decide +kernel⟩
abbrev N_are_marks : List Str := ["thing", "mark"]
abbrev p_are_marks : List Str := ["thing"]
theorem sc_are_marks : FnScope N_are_marks p_are_marks (defScope s_are_marks) := ⟨rfl, rfl, rfl, by decide +kernel, rfl, by decide +kernel, by decide +kernel⟩
abbrev N_is_rule : List Str := ["thing"]
abbrev p_is_rule : List Str := ["thing"]
theorem sc_is_rule : FnScope N_is_rule p_is_rule (defScope s_is_rule) := ⟨rfl, rfl, rfl, by decide +kernel, rfl, by decide +kernel, by decide +kernel⟩
abbrev N_is_span : List Str := ["least", "most"]
abbrev p_is_span : List Str := ["least", "most"]
theorem sc_is_span : FnScope N_is_span p_is_span (defScope s_is_span) := ⟨rfl, rfl, rfl, by decide +kernel, rfl, by decide +kernel, by decide +kernel⟩
abbrev N_midsts_of : List Str := ["marks", "at"]
abbrev p_midsts_of : List Str := ["marks"]
theorem sc_midsts_of : FnScope N_midsts_of p_midsts_of (defScope s_midsts_of) := ⟨rfl, rfl, rfl, by decide +kernel, rfl, by decide +kernel, by decide +kernel⟩
abbrev N_size_by_rule : List Str := ["marks", "rule", "measure", "mark", "midst"]
abbrev p_size_by_rule : List Str := ["marks", "rule", "measure"]
theorem sc_size_by_rule : FnScope N_size_by_rule p_size_by_rule (defScope s_size_by_rule) := ⟨rfl, rfl, rfl, by decide +kernel, rfl, by decide +kernel, by decide +kernel⟩
abbrev N_end_at : List Str := ["ends", "at"]
abbrev p_end_at : List Str := ["ends", "at"]
theorem sc_end_at : FnScope N_end_at p_end_at (defScope s_end_at) := ⟨rfl, rfl, rfl, by decide +kernel, rfl, by decide +kernel, by decide +kernel⟩
abbrev N_stretch_by_rule : List Str := ["marks", "rule", "number", "midsts"]
abbrev p_stretch_by_rule : List Str := ["marks", "rule", "number"]
theorem sc_stretch_by_rule : FnScope N_stretch_by_rule p_stretch_by_rule (defScope s_stretch_by_rule) := ⟨rfl, rfl, rfl, by decide +kernel, rfl, by decide +kernel, by decide +kernel⟩
abbrev N_has_size : List Str := ["ladder", "thing"]
abbrev p_has_size : List Str := ["ladder", "thing"]
theorem sc_has_size : FnScope N_has_size p_has_size (defScope s_has_size) := ⟨rfl, rfl, rfl, by decide +kernel, rfl, by decide +kernel, by decide +kernel⟩
abbrev N_Ladder_init : List Str := ["self", "marks", "rule", "least", "most", "slip"]
abbrev p_Ladder_init : List Str := ["self", "marks", "rule", "least", "most"]
theorem sc_Ladder_init : FnScope N_Ladder_init p_Ladder_init (defScope s_Ladder_init) := ⟨rfl, rfl, rfl, by decide +kernel, rfl, by decide +kernel, by decide +kernel⟩
abbrev N_Ladder_len : List Str := ["self"]
abbrev p_Ladder_len : List Str := ["self"]
theorem sc_Ladder_len : FnScope N_Ladder_len p_Ladder_len (defScope s_Ladder_len) := ⟨rfl, rfl, rfl, by decide +kernel, rfl, by decide +kernel, by decide +kernel⟩
abbrev N_Ladder_size : List Str := ["self", "measure", "number"]
abbrev p_Ladder_size : List Str := ["self", "measure"]
theorem sc_Ladder_size : FnScope N_Ladder_size p_Ladder_size (defScope s_Ladder_size) := ⟨rfl, rfl, rfl, by decide +kernel, rfl, by decide +kernel, by decide +kernel⟩
abbrev N_Ladder_stretch : List Str := ["self", "number", "bounds"]
abbrev p_Ladder_stretch : List Str := ["self", "number"]
theorem sc_Ladder_stretch : FnScope N_Ladder_stretch p_Ladder_stretch (defScope s_Ladder_stretch) := ⟨rfl, rfl, rfl, by decide +kernel, rfl, by decide +kernel, by decide +kernel⟩
abbrev N_shared_by : List Str := ["here", "there"]
abbrev p_shared_by : List Str := ["here", "there"]
theorem sc_shared_by : FnScope N_shared_by p_shared_by (defScope s_shared_by) := ⟨rfl, rfl, rfl, by decide +kernel, rfl, by decide +kernel, by decide +kernel⟩
abbrev N_common_measures : List Str := ["one", "number", "other", "here", "size"]
abbrev p_common_measures : List Str := ["one", "number", "other"]
theorem sc_common_measures : FnScope N_common_measures p_common_measures (defScope s_common_measures) := ⟨rfl, rfl, rfl, by decide +kernel, rfl, by decide +kernel, by decide +kernel⟩
abbrev N_led : List Str := ["one", "number", "other", "measures", "met", "size", "measure"]
abbrev p_led : List Str := ["one", "number", "other"]
theorem sc_led : FnScope N_led p_led (defScope s_led) := ⟨rfl, rfl, rfl, by decide +kernel, rfl, by decide +kernel, by decide +kernel⟩
abbrev N_comes_to : List Str := ["ladder", "thing", "number"]
abbrev p_comes_to : List Str := ["ladder", "thing", "number"]
theorem sc_comes_to : FnScope N_comes_to p_comes_to (defScope s_comes_to) := ⟨rfl, rfl, rfl, by decide +kernel, rfl, by decide +kernel, by decide +kernel⟩
abbrev N_way_of : List Str := ["ladders"]
abbrev p_way_of : List Str := ["ladders"]
theorem sc_way_of : FnScope N_way_of p_way_of (defScope s_way_of) := ⟨rfl, rfl, rfl, by decide +kernel, rfl, by decide +kernel, by decide +kernel⟩
abbrev N_run_behind : List Str := ["one", "run", "other", "first", "last", "runs", "met", "number", "each", "low", "high"]
abbrev p_run_behind : List Str := ["one", "run", "other"]
theorem sc_run_behind : FnScope N_run_behind p_run_behind (defScope s_run_behind) := ⟨rfl, rfl, rfl, by decide +kernel, rfl, by decide +kernel, by decide +kernel⟩
abbrev N_runs_of : List Str := ["way", "number", "runs", "at", "run"]
abbrev p_runs_of : List Str := ["way", "number"]
theorem sc_runs_of : FnScope N_runs_of p_runs_of (defScope s_runs_of) := ⟨rfl, rfl, rfl, by decide +kernel, rfl, by decide +kernel, by decide +kernel⟩
abbrev N_size_ahead : List Str := ["one", "run", "other", "size", "met"]
abbrev p_size_ahead : List Str := ["one", "run", "other", "size"]
theorem sc_size_ahead : FnScope N_size_ahead p_size_ahead (defScope s_size_ahead) := ⟨rfl, rfl, rfl, by decide +kernel, rfl, by decide +kernel, by decide +kernel⟩
abbrev N_sizes_to : List Str := ["way", "runs", "last", "sizes", "at"]
abbrev p_sizes_to : List Str := ["way", "runs", "last"]
theorem sc_sizes_to : FnScope N_sizes_to p_sizes_to (defScope s_sizes_to) := ⟨rfl, rfl, rfl, by decide +kernel, rfl, by decide +kernel, by decide +kernel⟩
abbrev N_row_to : List Str := ["way", "runs", "last", "sizes", "stretches", "measures", "ladder", "size", "at"]
abbrev p_row_to : List Str := ["way", "runs", "last"]
theorem sc_row_to : FnScope N_row_to p_row_to (defScope s_row_to) := ⟨rfl, rfl, rfl, by decide +kernel, rfl, by decide +kernel, by decide +kernel⟩
abbrev N_round_from : List Str := ["ladders", "number", "way", "runs", "low", "high"]
abbrev p_round_from : List Str := ["ladders", "number"]
theorem sc_round_from : FnScope N_round_from p_round_from (defScope s_round_from) := ⟨rfl, rfl, rfl, by decide +kernel, rfl, by decide +kernel, by decide +kernel⟩
abbrev N_end_rows : List Str := ["ladders", "number", "told"]
abbrev p_end_rows : List Str := ["ladders", "number"]
theorem sc_end_rows : FnScope N_end_rows p_end_rows (defScope s_end_rows) := ⟨rfl, rfl, rfl, by decide +kernel, rfl, by decide +kernel, by decide +kernel⟩
abbrev N_drift_of : List Str := ["row", "sizes", "measures"]
abbrev p_drift_of : List Str := ["row"]
theorem sc_drift_of : FnScope N_drift_of p_drift_of (defScope s_drift_of) := ⟨rfl, rfl, rfl, by decide +kernel, rfl, by decide +kernel, by decide +kernel⟩
abbrev N_most_drift : List Str := ["ladders", "rows", "widest", "number", "row"]
abbrev p_most_drift : List Str := ["ladders"]
theorem sc_most_drift : FnScope N_most_drift p_most_drift (defScope s_most_drift) := ⟨rfl, rfl, rfl, by decide +kernel, rfl, by decide +kernel, by decide +kernel⟩
abbrev N_are_runs : List Str := ["thing", "runs", "run"]
abbrev p_are_runs : List Str := ["thing", "runs"]
theorem sc_are_runs : FnScope N_are_runs p_are_runs (defScope s_are_runs) := ⟨rfl, rfl, rfl, by decide +kernel, rfl, by decide +kernel, by decide +kernel⟩
abbrev N_are_sizes : List Str := ["thing", "runs", "last", "at", "size"]
abbrev p_are_sizes : List Str := ["thing", "runs", "last"]
theorem sc_are_sizes : FnScope N_are_sizes p_are_sizes (defScope s_are_sizes) := ⟨rfl, rfl, rfl, by decide +kernel, rfl, by decide +kernel, by decide +kernel⟩
abbrev N_are_steps : List Str := ["thing", "way", "sizes", "at", "measure"]
abbrev p_are_steps : List Str := ["thing", "way", "sizes"]
theorem sc_are_steps : FnScope N_are_steps p_are_steps (defScope s_are_steps) := ⟨rfl, rfl, rfl, by decide +kernel, rfl, by decide +kernel, by decide +kernel⟩
abbrev N_is_row : List Str := ["thing", "way", "runs", "last", "sizes", "measures"]
abbrev p_is_row : List Str := ["thing", "way", "runs", "last"]
theorem sc_is_row : FnScope N_is_row p_is_row (defScope s_is_row) := ⟨rfl, rfl, rfl, by decide +kernel, rfl, by decide +kernel, by decide +kernel⟩
abbrev N_is_stop : List Str := ["thing", "runs"]
abbrev p_is_stop : List Str := ["thing", "runs"]
theorem sc_is_stop : FnScope N_is_stop p_is_stop (defScope s_is_stop) := ⟨rfl, rfl, rfl, by decide +kernel, rfl, by decide +kernel, by decide +kernel⟩
abbrev N_is_return : List Str := ["thing", "way", "runs", "word", "told", "low", "high"]
abbrev p_is_return : List Str := ["thing", "way", "runs"]
theorem sc_is_return : FnScope N_is_return p_is_return (defScope s_is_return) := ⟨rfl, rfl, rfl, by decide +kernel, rfl, by decide +kernel, by decide +kernel⟩
abbrev N_shows_round : List Str := ["ladders", "number", "thing", "way", "runs"]
abbrev p_shows_round : List Str := ["ladders", "number", "thing"]
theorem sc_shows_round : FnScope N_shows_round p_shows_round (defScope s_shows_round) := ⟨rfl, rfl, rfl, by decide +kernel, rfl, by decide +kernel, by decide +kernel⟩
abbrev N_l_begin : List Str := ["_law_script", "_law_seed", "_law_great", "_law_k", "_law_cell"]
abbrev p_l_begin : List Str := ["_law_script"]
theorem sc_l_begin : FnScope N_l_begin p_l_begin (defScope s_l_begin) := ⟨rfl, rfl, rfl, by decide +kernel, rfl, by decide +kernel, by decide +kernel⟩
abbrev N_l_pick : List Str := ["_law_pot", "_law_many", "_law_digit", "_law_turn", "_law_once"]
abbrev p_l_pick : List Str := ["_law_pot", "_law_many"]
theorem sc_l_pick : FnScope N_l_pick p_l_pick (defScope s_l_pick) := ⟨rfl, rfl, rfl, by decide +kernel, rfl, by decide +kernel, by decide +kernel⟩
abbrev N_l_of : List Str := ["_law_pot", "_law_some"]
abbrev p_l_of : List Str := ["_law_pot", "_law_some"]
theorem sc_l_of : FnScope N_l_of p_l_of (defScope s_l_of) := ⟨rfl, rfl, rfl, by decide +kernel, rfl, by decide +kernel, by decide +kernel⟩
abbrev N_l_parts : List Str := ["_law_top", "_law_bottom", "_law_one", "_law_other"]
abbrev p_l_parts : List Str := ["_law_top", "_law_bottom"]
theorem sc_l_parts : FnScope N_l_parts p_l_parts (defScope s_l_parts) := ⟨rfl, rfl, rfl, by decide +kernel, rfl, by decide +kernel, by decide +kernel⟩
abbrev N_l_less : List Str := ["_law_one", "_law_other"]
abbrev p_l_less : List Str := ["_law_one", "_law_other"]
theorem sc_l_less : FnScope N_l_less p_l_less (defScope s_l_less) := ⟨rfl, rfl, rfl, by decide +kernel, rfl, by decide +kernel, by decide +kernel⟩
abbrev N_l_plus : List Str := ["_law_one", "_law_other"]
abbrev p_l_plus : List Str := ["_law_one", "_law_other"]
theorem sc_l_plus : FnScope N_l_plus p_l_plus (defScope s_l_plus) := ⟨rfl, rfl, rfl, by decide +kernel, rfl, by decide +kernel, by decide +kernel⟩
abbrev N_l_mid : List Str := ["_law_one", "_law_other", "_law_both"]
abbrev p_l_mid : List Str := ["_law_one", "_law_other"]
theorem sc_l_mid : FnScope N_l_mid p_l_mid (defScope s_l_mid) := ⟨rfl, rfl, rfl, by decide +kernel, rfl, by decide +kernel, by decide +kernel⟩
abbrev N_l_drawn : List Str := ["_law_pot", "_law_most", "_law_rule", "_law_many", "_law_pool", "_law_step", "_law_marks", "_law_k", "_law_ends", "_law_way", "_law_at", "_law_beside"]
abbrev p_l_drawn : List Str := ["_law_pot", "_law_most"]
theorem sc_l_drawn : FnScope N_l_drawn p_l_drawn (defScope s_l_drawn) := ⟨rfl, rfl, rfl, by decide +kernel, rfl, by decide +kernel, by decide +kernel⟩
abbrev N_l_made : List Str := ["_law_ladder", "_law_marks", "_law_rule", "_law_least", "_law_most", "_law_ends", "_law_end", "_law_top", "_law_bottom"]
abbrev p_l_made : List Str := ["_law_ladder"]
theorem sc_l_made : FnScope N_l_made p_l_made (defScope s_l_made) := ⟨rfl, rfl, rfl, by decide +kernel, rfl, by decide +kernel, by decide +kernel⟩
abbrev N_l_scaled : List Str := ["_law_ladder", "_law_scale", "_law_marks", "_law_rule", "_law_least", "_law_most", "_law_found", "_law_ends", "_law_top", "_law_bottom", "_law_end"]
abbrev p_l_scaled : List Str := ["_law_ladder", "_law_scale"]
theorem sc_l_scaled : FnScope N_l_scaled p_l_scaled (defScope s_l_scaled) := ⟨rfl, rfl, rfl, by decide +kernel, rfl, by decide +kernel, by decide +kernel⟩
abbrev N_l_ladders : List Str := ["_law_pot", "_law_many", "_law_most", "_law_scale", "_law_k"]
abbrev p_l_ladders : List Str := ["_law_pot", "_law_many", "_law_most"]
theorem sc_l_ladders : FnScope N_l_ladders p_l_ladders (defScope s_l_ladders) := ⟨rfl, rfl, rfl, by decide +kernel, rfl, by decide +kernel, by decide +kernel⟩
abbrev N_l_rising : List Str := ["_law_points", "_law_found", "_law_point", "_law_at", "_law_one"]
abbrev p_l_rising : List Str := ["_law_points"]
theorem sc_l_rising : FnScope N_l_rising p_l_rising (defScope s_l_rising) := ⟨rfl, rfl, rfl, by decide +kernel, rfl, by decide +kernel, by decide +kernel⟩
abbrev N_l_tried : List Str := ["_law_ladders_here", "_law_ends", "_law_marks", "_law_rule", "_law_least", "_law_most", "_law_points", "_law_low", "_law_high", "_law_end", "_law_top", "_law_bottom"]
abbrev p_l_tried : List Str := ["_law_ladders_here"]
theorem sc_l_tried : FnScope N_l_tried p_l_tried (defScope s_l_tried) := ⟨rfl, rfl, rfl, by decide +kernel, rfl, by decide +kernel, by decide +kernel⟩
abbrev N_l_leads : List Str := ["_law_one", "_law_other", "_law_found", "_law_here", "_law_there"]
abbrev p_l_leads : List Str := ["_law_one", "_law_other"]
theorem sc_l_leads : FnScope N_l_leads p_l_leads (defScope s_l_leads) := ⟨rfl, rfl, rfl, by decide +kernel, rfl, by decide +kernel, by decide +kernel⟩
abbrev N_l_rows_right : List Str := ["_law_order", "_law_told", "_law_row", "_law_end", "_law_sizes", "_law_measures", "_law_at", "_law_measure"]
abbrev p_l_rows_right : List Str := ["_law_order", "_law_told"]
theorem sc_l_rows_right : FnScope N_l_rows_right p_l_rows_right (defScope s_l_rows_right) := ⟨rfl, rfl, rfl, by decide +kernel, rfl, by decide +kernel, by decide +kernel⟩
abbrev N_l_start_right : List Str := ["_law_made_here", "_law_order", "_law_edges", "_law_number", "_law_told", "_law_here", "_law_runs", "_law_some", "_law_there", "_law_size", "_law_good"]
abbrev p_l_start_right : List Str := ["_law_made_here", "_law_order", "_law_edges", "_law_number"]
theorem sc_l_start_right : FnScope N_l_start_right p_l_start_right (defScope s_l_start_right) := ⟨rfl, rfl, rfl, by decide +kernel, rfl, by decide +kernel, by decide +kernel⟩
abbrev N_l_right : List Str := ["_law_ladders_here", "_law_made_here", "_law_order", "_law_measures", "_law_drifts", "_law_sizes", "_law_edges", "_law_at", "_law_number", "_law_some", "_law_found", "_law_run", "_law_alone", "_law_ladder", "_law_one", "_law_measure"]
abbrev p_l_right : List Str := ["_law_ladders_here"]
theorem sc_l_right : FnScope N_l_right p_l_right (defScope s_l_right) := ⟨rfl, rfl, rfl, by decide +kernel, rfl, by decide +kernel, by decide +kernel⟩
abbrev N_law : List Str := ["_law_script", "_law_pot", "_law_turn"]
abbrev p_law : List Str := ["_law_script"]
theorem sc_law : FnScope N_law p_law (defScope s_law) := ⟨rfl, rfl, rfl, by decide +kernel, rfl, by decide +kernel, by decide +kernel⟩
/-! ### what the top has written -/
structure Fds where
  is_whole : FuncData
  is_tuple_of : FuncData
  are_wholes : FuncData
  is_word : FuncData
  common_part : FuncData
  Measure_init : FuncData
  Measure_eq : FuncData
  Measure_plus : FuncData
  Measure_minus : FuncData
  Measure_parted : FuncData
  Measure_is_below : FuncData
  is_measure_or_none : FuncData
  slip_of : FuncData
  is_empty : FuncData
  cut_low : FuncData
  cut_high : FuncData
  some_measure : FuncData
  Stretch_init : FuncData
  Stretch_shared : FuncData
  Stretch_cut : FuncData
  are_marks : FuncData
  is_rule : FuncData
  is_span : FuncData
  midsts_of : FuncData
  size_by_rule : FuncData
  end_at : FuncData
  stretch_by_rule : FuncData
  has_size : FuncData
  Ladder_init : FuncData
  Ladder_len : FuncData
  Ladder_size : FuncData
  Ladder_stretch : FuncData
  shared_by : FuncData
  common_measures : FuncData
  led : FuncData
  comes_to : FuncData
  way_of : FuncData
  run_behind : FuncData
  runs_of : FuncData
  size_ahead : FuncData
  sizes_to : FuncData
  row_to : FuncData
  round_from : FuncData
  end_rows : FuncData
  drift_of : FuncData
  most_drift : FuncData
  are_runs : FuncData
  are_sizes : FuncData
  are_steps : FuncData
  is_row : FuncData
  is_stop : FuncData
  is_return : FuncData
  shows_round : FuncData
  l_begin : FuncData
  l_pick : FuncData
  l_of : FuncData
  l_parts : FuncData
  l_less : FuncData
  l_plus : FuncData
  l_mid : FuncData
  l_drawn : FuncData
  l_made : FuncData
  l_scaled : FuncData
  l_ladders : FuncData
  l_rising : FuncData
  l_tried : FuncData
  l_leads : FuncData
  l_rows_right : FuncData
  l_start_right : FuncData
  l_right : FuncData
  law : FuncData
structure Txt (K : PySem.W.Frag) (mg : Str → Option Value) (φ : Fds) : Prop where
  g_is_whole : mg "is_whole" = some (.ref (He.ga K "is_whole"))
  g_is_tuple_of : mg "is_tuple_of" = some (.ref (He.ga K "is_tuple_of"))
  g_are_wholes : mg "are_wholes" = some (.ref (He.ga K "are_wholes"))
  g_is_word : mg "is_word" = some (.ref (He.ga K "is_word"))
  g_common_part : mg "common_part" = some (.ref (He.ga K "common_part"))
  g_is_measure_or_none : mg "is_measure_or_none" = some (.ref (He.ga K "is_measure_or_none"))
  g_slip_of : mg "slip_of" = some (.ref (He.ga K "slip_of"))
  g_is_empty : mg "is_empty" = some (.ref (He.ga K "is_empty"))
  g_cut_low : mg "cut_low" = some (.ref (He.ga K "cut_low"))
  g_cut_high : mg "cut_high" = some (.ref (He.ga K "cut_high"))
  g_some_measure : mg "some_measure" = some (.ref (He.ga K "some_measure"))
  g_are_marks : mg "are_marks" = some (.ref (He.ga K "are_marks"))
  g_is_rule : mg "is_rule" = some (.ref (He.ga K "is_rule"))
  g_is_span : mg "is_span" = some (.ref (He.ga K "is_span"))
  g_midsts_of : mg "midsts_of" = some (.ref (He.ga K "midsts_of"))
  g_size_by_rule : mg "size_by_rule" = some (.ref (He.ga K "size_by_rule"))
  g_end_at : mg "end_at" = some (.ref (He.ga K "end_at"))
  g_stretch_by_rule : mg "stretch_by_rule" = some (.ref (He.ga K "stretch_by_rule"))
  g_has_size : mg "has_size" = some (.ref (He.ga K "has_size"))
  g_shared_by : mg "shared_by" = some (.ref (He.ga K "shared_by"))
  g_common_measures : mg "common_measures" = some (.ref (He.ga K "common_measures"))
  g_led : mg "led" = some (.ref (He.ga K "led"))
  g_comes_to : mg "comes_to" = some (.ref (He.ga K "comes_to"))
  g_way_of : mg "way_of" = some (.ref (He.ga K "way_of"))
  g_run_behind : mg "run_behind" = some (.ref (He.ga K "run_behind"))
  g_runs_of : mg "runs_of" = some (.ref (He.ga K "runs_of"))
  g_size_ahead : mg "size_ahead" = some (.ref (He.ga K "size_ahead"))
  g_sizes_to : mg "sizes_to" = some (.ref (He.ga K "sizes_to"))
  g_row_to : mg "row_to" = some (.ref (He.ga K "row_to"))
  g_round_from : mg "round_from" = some (.ref (He.ga K "round_from"))
  g_end_rows : mg "end_rows" = some (.ref (He.ga K "end_rows"))
  g_drift_of : mg "drift_of" = some (.ref (He.ga K "drift_of"))
  g_most_drift : mg "most_drift" = some (.ref (He.ga K "most_drift"))
  g_are_runs : mg "are_runs" = some (.ref (He.ga K "are_runs"))
  g_are_sizes : mg "are_sizes" = some (.ref (He.ga K "are_sizes"))
  g_are_steps : mg "are_steps" = some (.ref (He.ga K "are_steps"))
  g_is_row : mg "is_row" = some (.ref (He.ga K "is_row"))
  g_is_stop : mg "is_stop" = some (.ref (He.ga K "is_stop"))
  g_is_return : mg "is_return" = some (.ref (He.ga K "is_return"))
  g_shows_round : mg "shows_round" = some (.ref (He.ga K "shows_round"))
  g_l_begin : mg "_law_begin" = some (.ref (He.ga K "_law_begin"))
  g_l_pick : mg "_law_pick" = some (.ref (He.ga K "_law_pick"))
  g_l_of : mg "_law_of" = some (.ref (He.ga K "_law_of"))
  g_l_parts : mg "_law_parts" = some (.ref (He.ga K "_law_parts"))
  g_l_less : mg "_law_less" = some (.ref (He.ga K "_law_less"))
  g_l_plus : mg "_law_plus" = some (.ref (He.ga K "_law_plus"))
  g_l_mid : mg "_law_mid" = some (.ref (He.ga K "_law_mid"))
  g_l_drawn : mg "_law_drawn" = some (.ref (He.ga K "_law_drawn"))
  g_l_made : mg "_law_made" = some (.ref (He.ga K "_law_made"))
  g_l_scaled : mg "_law_scaled" = some (.ref (He.ga K "_law_scaled"))
  g_l_ladders : mg "_law_ladders" = some (.ref (He.ga K "_law_ladders"))
  g_l_rising : mg "_law_rising" = some (.ref (He.ga K "_law_rising"))
  g_l_tried : mg "_law_tried" = some (.ref (He.ga K "_law_tried"))
  g_l_leads : mg "_law_leads" = some (.ref (He.ga K "_law_leads"))
  g_l_rows_right : mg "_law_rows_right" = some (.ref (He.ga K "_law_rows_right"))
  g_l_start_right : mg "_law_start_right" = some (.ref (He.ga K "_law_start_right"))
  g_l_right : mg "_law_right" = some (.ref (He.ga K "_law_right"))
  g_law : mg "law" = some (.ref (He.ga K "law"))
  g_Measure : mg "Measure" = some (.ref (He.ga K "Measure"))
  g_Stretch : mg "Stretch" = some (.ref (He.ga K "Stretch"))
  g_Ladder : mg "Ladder" = some (.ref (He.ga K "Ladder"))
  g_RULES : mg "RULES" = some (.ref (He.ga K "RULES"))
  v_MOST_MARKS : ∃ t, mg "MOST_MARKS" = some (.int 24 t)
  z_abs : mg "abs" = none
  z_all : mg "all" = none
  z_bool : mg "bool" = none
  z_enumerate : mg "enumerate" = none
  z_int : mg "int" = none
  z_isinstance : mg "isinstance" = none
  z_len : mg "len" = none
  z_list : mg "list" = none
  z_max : mg "max" = none
  z_min : mg "min" = none
  z_range : mg "range" = none
  z_reversed : mg "reversed" = none
  z_sorted : mg "sorted" = none
  z_str : mg "str" = none
  z_tuple : mg "tuple" = none
  z_zip : mg "zip" = none
  cl_Measure : Cls K (He.ga K "Measure")
  na_Measure_top : NoAttr K (He.ga K "Measure") "top"
  na_Measure_bottom : NoAttr K (He.ga K "Measure") "bottom"
  me_Measure_eq : Meth K (He.ga K "Measure") "__eq__" (He.ma K (He.ga K "Measure") "__eq__")
  me_Measure_plus : Meth K (He.ga K "Measure") "plus" (He.ma K (He.ga K "Measure") "plus")
  me_Measure_minus : Meth K (He.ga K "Measure") "minus" (He.ma K (He.ga K "Measure") "minus")
  me_Measure_parted : Meth K (He.ga K "Measure") "parted" (He.ma K (He.ga K "Measure") "parted")
  me_Measure_is_below : Meth K (He.ga K "Measure") "is_below" (He.ma K (He.ga K "Measure") "is_below")
  mk_Measure : Mk K (He.ga K "Measure") (He.ma K (He.ga K "Measure") "__init__")
  cl_Stretch : Cls K (He.ga K "Stretch")
  na_Stretch_low : NoAttr K (He.ga K "Stretch") "low"
  na_Stretch_high : NoAttr K (He.ga K "Stretch") "high"
  na_Stretch_low_in : NoAttr K (He.ga K "Stretch") "low_in"
  na_Stretch_high_in : NoAttr K (He.ga K "Stretch") "high_in"
  me_Stretch_shared : Meth K (He.ga K "Stretch") "shared" (He.ma K (He.ga K "Stretch") "shared")
  me_Stretch_cut : Meth K (He.ga K "Stretch") "cut" (He.ma K (He.ga K "Stretch") "cut")
  mk_Stretch : Mk K (He.ga K "Stretch") (He.ma K (He.ga K "Stretch") "__init__")
  cl_Ladder : Cls K (He.ga K "Ladder")
  na_Ladder_marks : NoAttr K (He.ga K "Ladder") "marks"
  na_Ladder_rule : NoAttr K (He.ga K "Ladder") "rule"
  na_Ladder_least : NoAttr K (He.ga K "Ladder") "least"
  na_Ladder_most : NoAttr K (He.ga K "Ladder") "most"
  me_Ladder_len : Meth K (He.ga K "Ladder") "__len__" (He.ma K (He.ga K "Ladder") "__len__")
  me_Ladder_size : Meth K (He.ga K "Ladder") "size" (He.ma K (He.ga K "Ladder") "size")
  me_Ladder_stretch : Meth K (He.ga K "Ladder") "stretch" (He.ma K (He.ga K "Ladder") "stretch")
  mk_Ladder : Mk K (He.ga K "Ladder") (He.ma K (He.ga K "Ladder") "__init__")
  ii_Measure : IsC K (He.ga K "Measure")
  ii_Stretch : IsC K (He.ga K "Stretch")
  ii_Ladder : IsC K (He.ga K "Ladder")
  ec_Measure : EqC K (He.ga K "Measure")
  tp_RULES : ∀ H, SqT K H (He.ga K "RULES") ((["up", "down", "near"] : List Str).map V.str)
  k_Measure_Measure : PySem.W.kitOne K (.ref (He.ga K "Measure")) (.ref (He.ga K "Measure")) = some true
  k_Stretch_Stretch : PySem.W.kitOne K (.ref (He.ga K "Stretch")) (.ref (He.ga K "Stretch")) = some true
  k_Measure_Stretch : PySem.W.kitOne K (.ref (He.ga K "Measure")) (.ref (He.ga K "Stretch")) = some false
  k_Stretch_Measure : PySem.W.kitOne K (.ref (He.ga K "Stretch")) (.ref (He.ga K "Measure")) = some false
  k_Ladder_Ladder : PySem.W.kitOne K (.ref (He.ga K "Ladder")) (.ref (He.ga K "Ladder")) = some true
  k_int_Measure : PySem.W.kitOne K (.type "int") (.ref (He.ga K "Measure")) = some false
  k_str_Measure : PySem.W.kitOne K (.type "str") (.ref (He.ga K "Measure")) = some false
  k_NoneType_Measure : PySem.W.kitOne K (.type "NoneType") (.ref (He.ga K "Measure")) = some false
  k_tuple_Measure : PySem.W.kitOne K (.type "tuple") (.ref (He.ga K "Measure")) = some false
  k_Measure_tuple : PySem.W.kitOne K (.ref (He.ga K "Measure")) (.type "tuple") = some false
  f_is_whole : FunD K "is_whole" "is_whole" (defArgs s_is_whole) (defBody s_is_whole) (defScope s_is_whole) [] [] (He.fAd K ("is_whole", none)) φ.is_whole
  f_is_tuple_of : FunD K "is_tuple_of" "is_tuple_of" (defArgs s_is_tuple_of) (defBody s_is_tuple_of) (defScope s_is_tuple_of) [] [] (He.fAd K ("is_tuple_of", none)) φ.is_tuple_of
  f_are_wholes : FunD K "are_wholes" "are_wholes" (defArgs s_are_wholes) (defBody s_are_wholes) (defScope s_are_wholes) [] [] (He.fAd K ("are_wholes", none)) φ.are_wholes
  f_is_word : FunD K "is_word" "is_word" (defArgs s_is_word) (defBody s_is_word) (defScope s_is_word) [] [] (He.fAd K ("is_word", none)) φ.is_word
  f_common_part : FunD K "common_part" "common_part" (defArgs s_common_part) (defBody s_common_part) (defScope s_common_part) [] [] (He.fAd K ("common_part", none)) φ.common_part
  f_Measure_init : FunD K "__init__" "Measure.__init__" (defArgs s_Measure_init) (defBody s_Measure_init) (defScope s_Measure_init) [V.int 1] [] (He.fAd K ("Measure", some "__init__")) φ.Measure_init
  f_Measure_eq : FunD K "__eq__" "Measure.__eq__" (defArgs s_Measure_eq) (defBody s_Measure_eq) (defScope s_Measure_eq) [] [] (He.fAd K ("Measure", some "__eq__")) φ.Measure_eq
  f_Measure_plus : FunD K "plus" "Measure.plus" (defArgs s_Measure_plus) (defBody s_Measure_plus) (defScope s_Measure_plus) [] [] (He.fAd K ("Measure", some "plus")) φ.Measure_plus
  f_Measure_minus : FunD K "minus" "Measure.minus" (defArgs s_Measure_minus) (defBody s_Measure_minus) (defScope s_Measure_minus) [] [] (He.fAd K ("Measure", some "minus")) φ.Measure_minus
  f_Measure_parted : FunD K "parted" "Measure.parted" (defArgs s_Measure_parted) (defBody s_Measure_parted) (defScope s_Measure_parted) [V.int 2] [] (He.fAd K ("Measure", some "parted")) φ.Measure_parted
  f_Measure_is_below : FunD K "is_below" "Measure.is_below" (defArgs s_Measure_is_below) (defBody s_Measure_is_below) (defScope s_Measure_is_below) [V.bl false] [] (He.fAd K ("Measure", some "is_below")) φ.Measure_is_below
  f_is_measure_or_none : FunD K "is_measure_or_none" "is_measure_or_none" (defArgs s_is_measure_or_none) (defBody s_is_measure_or_none) (defScope s_is_measure_or_none) [] [] (He.fAd K ("is_measure_or_none", none)) φ.is_measure_or_none
  f_slip_of : FunD K "slip_of" "slip_of" (defArgs s_slip_of) (defBody s_slip_of) (defScope s_slip_of) [] [] (He.fAd K ("slip_of", none)) φ.slip_of
  f_is_empty : FunD K "is_empty" "is_empty" (defArgs s_is_empty) (defBody s_is_empty) (defScope s_is_empty) [] [] (He.fAd K ("is_empty", none)) φ.is_empty
  f_cut_low : FunD K "cut_low" "cut_low" (defArgs s_cut_low) (defBody s_cut_low) (defScope s_cut_low) [] [] (He.fAd K ("cut_low", none)) φ.cut_low
  f_cut_high : FunD K "cut_high" "cut_high" (defArgs s_cut_high) (defBody s_cut_high) (defScope s_cut_high) [] [] (He.fAd K ("cut_high", none)) φ.cut_high
  f_some_measure : FunD K "some_measure" "some_measure" (defArgs s_some_measure) (defBody s_some_measure) (defScope s_some_measure) [] [] (He.fAd K ("some_measure", none)) φ.some_measure
  f_Stretch_init : FunD K "__init__" "Stretch.__init__" (defArgs s_Stretch_init) (defBody s_Stretch_init) (defScope s_Stretch_init) [V.bl false, V.bl true] [] (He.fAd K ("Stretch", some "__init__")) φ.Stretch_init
  f_Stretch_shared : FunD K "shared" "Stretch.shared" (defArgs s_Stretch_shared) (defBody s_Stretch_shared) (defScope s_Stretch_shared) [] [] (He.fAd K ("Stretch", some "shared")) φ.Stretch_shared
  f_Stretch_cut : FunD K "cut" "Stretch.cut" (defArgs s_Stretch_cut) (defBody s_Stretch_cut) (defScope s_Stretch_cut) [] [] (He.fAd K ("Stretch", some "cut")) φ.Stretch_cut
  f_are_marks : FunD K "are_marks" "are_marks" (defArgs s_are_marks) (defBody s_are_marks) (defScope s_are_marks) [] [] (He.fAd K ("are_marks", none)) φ.are_marks
  f_is_rule : FunD K "is_rule" "is_rule" (defArgs s_is_rule) (defBody s_is_rule) (defScope s_is_rule) [] [] (He.fAd K ("is_rule", none)) φ.is_rule
  f_is_span : FunD K "is_span" "is_span" (defArgs s_is_span) (defBody s_is_span) (defScope s_is_span) [] [] (He.fAd K ("is_span", none)) φ.is_span
  f_midsts_of : FunD K "midsts_of" "midsts_of" (defArgs s_midsts_of) (defBody s_midsts_of) (defScope s_midsts_of) [] [] (He.fAd K ("midsts_of", none)) φ.midsts_of
  f_size_by_rule : FunD K "size_by_rule" "size_by_rule" (defArgs s_size_by_rule) (defBody s_size_by_rule) (defScope s_size_by_rule) [] [] (He.fAd K ("size_by_rule", none)) φ.size_by_rule
  f_end_at : FunD K "end_at" "end_at" (defArgs s_end_at) (defBody s_end_at) (defScope s_end_at) [] [] (He.fAd K ("end_at", none)) φ.end_at
  f_stretch_by_rule : FunD K "stretch_by_rule" "stretch_by_rule" (defArgs s_stretch_by_rule) (defBody s_stretch_by_rule) (defScope s_stretch_by_rule) [] [] (He.fAd K ("stretch_by_rule", none)) φ.stretch_by_rule
  f_has_size : FunD K "has_size" "has_size" (defArgs s_has_size) (defBody s_has_size) (defScope s_has_size) [] [] (He.fAd K ("has_size", none)) φ.has_size
  f_Ladder_init : FunD K "__init__" "Ladder.__init__" (defArgs s_Ladder_init) (defBody s_Ladder_init) (defScope s_Ladder_init) [V.str "up", V.non, V.non] [] (He.fAd K ("Ladder", some "__init__")) φ.Ladder_init
  f_Ladder_len : FunD K "__len__" "Ladder.__len__" (defArgs s_Ladder_len) (defBody s_Ladder_len) (defScope s_Ladder_len) [] [] (He.fAd K ("Ladder", some "__len__")) φ.Ladder_len
  f_Ladder_size : FunD K "size" "Ladder.size" (defArgs s_Ladder_size) (defBody s_Ladder_size) (defScope s_Ladder_size) [] [] (He.fAd K ("Ladder", some "size")) φ.Ladder_size
  f_Ladder_stretch : FunD K "stretch" "Ladder.stretch" (defArgs s_Ladder_stretch) (defBody s_Ladder_stretch) (defScope s_Ladder_stretch) [] [] (He.fAd K ("Ladder", some "stretch")) φ.Ladder_stretch
  f_shared_by : FunD K "shared_by" "shared_by" (defArgs s_shared_by) (defBody s_shared_by) (defScope s_shared_by) [] [] (He.fAd K ("shared_by", none)) φ.shared_by
  f_common_measures : FunD K "common_measures" "common_measures" (defArgs s_common_measures) (defBody s_common_measures) (defScope s_common_measures) [] [] (He.fAd K ("common_measures", none)) φ.common_measures
  f_led : FunD K "led" "led" (defArgs s_led) (defBody s_led) (defScope s_led) [] [] (He.fAd K ("led", none)) φ.led
  f_comes_to : FunD K "comes_to" "comes_to" (defArgs s_comes_to) (defBody s_comes_to) (defScope s_comes_to) [] [] (He.fAd K ("comes_to", none)) φ.comes_to
  f_way_of : FunD K "way_of" "way_of" (defArgs s_way_of) (defBody s_way_of) (defScope s_way_of) [] [] (He.fAd K ("way_of", none)) φ.way_of
  f_run_behind : FunD K "run_behind" "run_behind" (defArgs s_run_behind) (defBody s_run_behind) (defScope s_run_behind) [] [] (He.fAd K ("run_behind", none)) φ.run_behind
  f_runs_of : FunD K "runs_of" "runs_of" (defArgs s_runs_of) (defBody s_runs_of) (defScope s_runs_of) [] [] (He.fAd K ("runs_of", none)) φ.runs_of
  f_size_ahead : FunD K "size_ahead" "size_ahead" (defArgs s_size_ahead) (defBody s_size_ahead) (defScope s_size_ahead) [] [] (He.fAd K ("size_ahead", none)) φ.size_ahead
  f_sizes_to : FunD K "sizes_to" "sizes_to" (defArgs s_sizes_to) (defBody s_sizes_to) (defScope s_sizes_to) [] [] (He.fAd K ("sizes_to", none)) φ.sizes_to
  f_row_to : FunD K "row_to" "row_to" (defArgs s_row_to) (defBody s_row_to) (defScope s_row_to) [] [] (He.fAd K ("row_to", none)) φ.row_to
  f_round_from : FunD K "round_from" "round_from" (defArgs s_round_from) (defBody s_round_from) (defScope s_round_from) [] [] (He.fAd K ("round_from", none)) φ.round_from
  f_end_rows : FunD K "end_rows" "end_rows" (defArgs s_end_rows) (defBody s_end_rows) (defScope s_end_rows) [] [] (He.fAd K ("end_rows", none)) φ.end_rows
  f_drift_of : FunD K "drift_of" "drift_of" (defArgs s_drift_of) (defBody s_drift_of) (defScope s_drift_of) [] [] (He.fAd K ("drift_of", none)) φ.drift_of
  f_most_drift : FunD K "most_drift" "most_drift" (defArgs s_most_drift) (defBody s_most_drift) (defScope s_most_drift) [] [] (He.fAd K ("most_drift", none)) φ.most_drift
  f_are_runs : FunD K "are_runs" "are_runs" (defArgs s_are_runs) (defBody s_are_runs) (defScope s_are_runs) [] [] (He.fAd K ("are_runs", none)) φ.are_runs
  f_are_sizes : FunD K "are_sizes" "are_sizes" (defArgs s_are_sizes) (defBody s_are_sizes) (defScope s_are_sizes) [] [] (He.fAd K ("are_sizes", none)) φ.are_sizes
  f_are_steps : FunD K "are_steps" "are_steps" (defArgs s_are_steps) (defBody s_are_steps) (defScope s_are_steps) [] [] (He.fAd K ("are_steps", none)) φ.are_steps
  f_is_row : FunD K "is_row" "is_row" (defArgs s_is_row) (defBody s_is_row) (defScope s_is_row) [] [] (He.fAd K ("is_row", none)) φ.is_row
  f_is_stop : FunD K "is_stop" "is_stop" (defArgs s_is_stop) (defBody s_is_stop) (defScope s_is_stop) [] [] (He.fAd K ("is_stop", none)) φ.is_stop
  f_is_return : FunD K "is_return" "is_return" (defArgs s_is_return) (defBody s_is_return) (defScope s_is_return) [] [] (He.fAd K ("is_return", none)) φ.is_return
  f_shows_round : FunD K "shows_round" "shows_round" (defArgs s_shows_round) (defBody s_shows_round) (defScope s_shows_round) [] [] (He.fAd K ("shows_round", none)) φ.shows_round
  f_l_begin : FunD K "_law_begin" "_law_begin" (defArgs s_l_begin) (defBody s_l_begin) (defScope s_l_begin) [] [] (He.fAd K ("_law_begin", none)) φ.l_begin
  f_l_pick : FunD K "_law_pick" "_law_pick" (defArgs s_l_pick) (defBody s_l_pick) (defScope s_l_pick) [] [] (He.fAd K ("_law_pick", none)) φ.l_pick
  f_l_of : FunD K "_law_of" "_law_of" (defArgs s_l_of) (defBody s_l_of) (defScope s_l_of) [] [] (He.fAd K ("_law_of", none)) φ.l_of
  f_l_parts : FunD K "_law_parts" "_law_parts" (defArgs s_l_parts) (defBody s_l_parts) (defScope s_l_parts) [] [] (He.fAd K ("_law_parts", none)) φ.l_parts
  f_l_less : FunD K "_law_less" "_law_less" (defArgs s_l_less) (defBody s_l_less) (defScope s_l_less) [] [] (He.fAd K ("_law_less", none)) φ.l_less
  f_l_plus : FunD K "_law_plus" "_law_plus" (defArgs s_l_plus) (defBody s_l_plus) (defScope s_l_plus) [] [] (He.fAd K ("_law_plus", none)) φ.l_plus
  f_l_mid : FunD K "_law_mid" "_law_mid" (defArgs s_l_mid) (defBody s_l_mid) (defScope s_l_mid) [] [] (He.fAd K ("_law_mid", none)) φ.l_mid
  f_l_drawn : FunD K "_law_drawn" "_law_drawn" (defArgs s_l_drawn) (defBody s_l_drawn) (defScope s_l_drawn) [] [] (He.fAd K ("_law_drawn", none)) φ.l_drawn
  f_l_made : FunD K "_law_made" "_law_made" (defArgs s_l_made) (defBody s_l_made) (defScope s_l_made) [] [] (He.fAd K ("_law_made", none)) φ.l_made
  f_l_scaled : FunD K "_law_scaled" "_law_scaled" (defArgs s_l_scaled) (defBody s_l_scaled) (defScope s_l_scaled) [] [] (He.fAd K ("_law_scaled", none)) φ.l_scaled
  f_l_ladders : FunD K "_law_ladders" "_law_ladders" (defArgs s_l_ladders) (defBody s_l_ladders) (defScope s_l_ladders) [] [] (He.fAd K ("_law_ladders", none)) φ.l_ladders
  f_l_rising : FunD K "_law_rising" "_law_rising" (defArgs s_l_rising) (defBody s_l_rising) (defScope s_l_rising) [] [] (He.fAd K ("_law_rising", none)) φ.l_rising
  f_l_tried : FunD K "_law_tried" "_law_tried" (defArgs s_l_tried) (defBody s_l_tried) (defScope s_l_tried) [] [] (He.fAd K ("_law_tried", none)) φ.l_tried
  f_l_leads : FunD K "_law_leads" "_law_leads" (defArgs s_l_leads) (defBody s_l_leads) (defScope s_l_leads) [] [] (He.fAd K ("_law_leads", none)) φ.l_leads
  f_l_rows_right : FunD K "_law_rows_right" "_law_rows_right" (defArgs s_l_rows_right) (defBody s_l_rows_right) (defScope s_l_rows_right) [] [] (He.fAd K ("_law_rows_right", none)) φ.l_rows_right
  f_l_start_right : FunD K "_law_start_right" "_law_start_right" (defArgs s_l_start_right) (defBody s_l_start_right) (defScope s_l_start_right) [] [] (He.fAd K ("_law_start_right", none)) φ.l_start_right
  f_l_right : FunD K "_law_right" "_law_right" (defArgs s_l_right) (defBody s_l_right) (defScope s_l_right) [] [] (He.fAd K ("_law_right", none)) φ.l_right
  f_law : FunD K "law" "law" (defArgs s_law) (defBody s_law) (defScope s_law) [] [] (He.fAd K ("law", none)) φ.law
def asL : List Addr := [3, 6, 4, 21, 31, 44, 56, 68, 89, 101, 123, 135, 145, 152, 157, 164, 171, 178, 254, 265, 272, 279, 286, 293, 300, 307, 374, 379, 384, 391, 398, 403, 408, 415, 422, 429, 436, 494, 505, 510, 515, 522, 529, 534, 541, 548, 555, 560, 567, 574, 581, 586, 591, 596, 601, 608, 615, 622, 629, 636, 643, 650, 657, 664, 671, 678, 685, 690, 695, 700, 705, 710, 717, 724, 729, 734, 741, 0, 20, 30, 43, 55, 67, 88, 100, 122, 134, 144, 151, 156, 163, 170, 177, 253, 264, 271, 278, 285, 292, 299, 306, 373, 383, 390, 397, 402, 407, 414, 421, 428, 435, 493, 504, 509, 514, 521, 528, 533, 540, 547, 554, 559, 566, 573, 580, 585, 590, 595, 600, 607, 614, 621, 628, 635, 642, 649, 656, 663, 670, 677, 684, 689, 694, 699, 704, 709, 716, 723, 728, 733, 740, 15, 16, 17, 18, 19, 29, 32, 42, 54, 66, 86, 87, 99, 102, 120, 121, 133, 136, 139, 140, 141, 142, 143, 146, 147, 148, 149, 150, 153, 154, 155, 158, 159, 160, 161, 162, 165, 166, 167, 168, 169, 172, 173, 174, 175, 176, 193, 200, 207, 214, 221, 228, 235, 243, 251, 252, 255, 256, 259, 260, 261, 262, 263, 266, 267, 268, 269, 270, 273, 274, 275, 276, 277, 280, 281, 282, 283, 284, 287, 288, 289, 290, 291, 294, 295, 296, 297, 298, 301, 302, 303, 304, 305, 322, 329, 336, 343, 350, 357, 364, 371, 372, 375, 376, 380, 381, 382, 385, 386, 387, 388, 389, 392, 393, 394, 395, 396, 399, 400, 401, 404, 405, 406, 409, 410, 411, 412, 413, 416, 417, 418, 419, 420, 423, 424, 425, 426, 427, 430, 431, 432, 433, 434, 451, 458, 463, 470, 477, 484, 491, 492, 495, 496, 499, 500, 501, 502, 503, 506, 507, 508, 511, 512, 513, 516, 517, 518, 519, 520, 523, 524, 525, 526, 527, 530, 531, 532, 535, 536, 537, 538, 539, 542, 543, 544, 545, 546, 549, 550, 551, 552, 553, 556, 557, 558, 561, 562, 563, 564, 565, 568, 569, 570, 571, 572, 575, 576, 577, 578, 579, 582, 583, 584, 587, 588, 589, 592, 593, 594, 597, 598, 599, 602, 603, 604, 605, 606, 609, 610, 611, 612, 613, 616, 617, 618, 619, 620, 623, 624, 625, 626, 627, 630, 631, 632, 633, 634, 637, 638, 639, 640, 641, 644, 645, 646, 647, 648, 651, 652, 653, 654, 655, 658, 659, 660, 661, 662, 665, 666, 667, 668, 669, 672, 673, 674, 675, 676, 679, 680, 681, 682, 683, 686, 687, 688, 691, 692, 693, 696, 697, 698, 701, 702, 703, 706, 707, 708, 711, 712, 713, 714, 715, 718, 719, 720, 721, 722, 725, 726, 727, 730, 731, 732, 735, 736, 737, 738, 739, 85, 74, 119, 108, 192, 186, 199, 206, 213, 220, 227, 234, 242, 236, 250, 244, 321, 315, 328, 335, 342, 349, 356, 363, 370, 450, 444, 457, 462, 469, 476, 483, 490, 80, 81, 82, 83, 84, 114, 115, 116, 117, 118, 187, 188, 189, 190, 191, 194, 195, 196, 197, 198, 201, 202, 203, 204, 205, 208, 209, 210, 211, 212, 215, 216, 217, 218, 219, 222, 223, 224, 225, 226, 229, 230, 231, 232, 233, 237, 238, 239, 240, 241, 245, 246, 247, 248, 249, 316, 317, 318, 319, 320, 323, 324, 325, 326, 327, 330, 331, 332, 333, 334, 337, 338, 339, 340, 341, 344, 345, 346, 347, 348, 351, 352, 353, 354, 355, 358, 359, 360, 361, 362, 365, 366, 367, 368, 369, 445, 446, 447, 448, 449, 452, 453, 454, 455, 456, 459, 460, 461, 464, 465, 466, 467, 468, 471, 472, 473, 474, 475, 478, 479, 480, 481, 482, 485, 486, 487, 488, 489]
def obsL (as : List Addr) (fa : List He.Fa) (fn : List He.DefD) (ex : List (PySem.W.Frag → Bool)) (g : Addr → Option Obj) : He.AlD × Bool := (He.obsD fa fn (He.frG g as), ex.all fun f => f (He.frG g as))
def hookL (as : List Addr) (fa : List He.Fa) (fn : List He.DefD) (ex : List (PySem.W.Frag → Bool)) : PySem.W.Hook where
  α := He.AlD × Bool
  obs := fun s => obsL as fa fn ex s.heap.get?
  val := fun _ => (He.valD fn, true)
  says := fun _ h => ∃ K : PySem.W.Frag, K.In h ∧ He.SaysD fa fn K ∧ (ex.all fun f => f K) = true
  of := fun _ _ e => ⟨_, He.frG_in, congrArg (fun z : He.AlD × Bool => z.1) e, congrArg (fun z : He.AlD × Bool => z.2) e⟩
  keeps := fun _ _ _ ⟨K, hK, c⟩ k => ⟨K, PySem.W.Frag.In.keeps hK k, c⟩
theorem obsL_eq {as : List Addr} {fa : List He.Fa} {fn : List He.DefD} {ex : List (PySem.W.Frag → Bool)} {g : Addr → Option Obj} {s : Shared} (h : ∀ a, g a = s.heap.get? a) : obsL as fa fn ex g = (hookL as fa fn ex).obs s := by
  have e : g = s.heap.get? := funext h
  rw [e] <;> rfl
/-! ### the head -/
def h_is_whole : He.DefD := ⟨("is_whole", none), "is_whole", "is_whole", defArgs s_is_whole, defBody s_is_whole, defScope s_is_whole, [], []⟩
def h_is_tuple_of : He.DefD := ⟨("is_tuple_of", none), "is_tuple_of", "is_tuple_of", defArgs s_is_tuple_of, defBody s_is_tuple_of, defScope s_is_tuple_of, [], []⟩
def h_are_wholes : He.DefD := ⟨("are_wholes", none), "are_wholes", "are_wholes", defArgs s_are_wholes, defBody s_are_wholes, defScope s_are_wholes, [], []⟩
def h_is_word : He.DefD := ⟨("is_word", none), "is_word", "is_word", defArgs s_is_word, defBody s_is_word, defScope s_is_word, [], []⟩
def h_common_part : He.DefD := ⟨("common_part", none), "common_part", "common_part", defArgs s_common_part, defBody s_common_part, defScope s_common_part, [], []⟩
def h_Measure_init : He.DefD := ⟨("Measure", some "__init__"), "__init__", "Measure.__init__", defArgs s_Measure_init, defBody s_Measure_init, defScope s_Measure_init, [.int 1], []⟩
def h_Measure_eq : He.DefD := ⟨("Measure", some "__eq__"), "__eq__", "Measure.__eq__", defArgs s_Measure_eq, defBody s_Measure_eq, defScope s_Measure_eq, [], []⟩
def h_Measure_plus : He.DefD := ⟨("Measure", some "plus"), "plus", "Measure.plus", defArgs s_Measure_plus, defBody s_Measure_plus, defScope s_Measure_plus, [], []⟩
def h_Measure_minus : He.DefD := ⟨("Measure", some "minus"), "minus", "Measure.minus", defArgs s_Measure_minus, defBody s_Measure_minus, defScope s_Measure_minus, [], []⟩
def h_Measure_parted : He.DefD := ⟨("Measure", some "parted"), "parted", "Measure.parted", defArgs s_Measure_parted, defBody s_Measure_parted, defScope s_Measure_parted, [.int 2], []⟩
def h_Measure_is_below : He.DefD := ⟨("Measure", some "is_below"), "is_below", "Measure.is_below", defArgs s_Measure_is_below, defBody s_Measure_is_below, defScope s_Measure_is_below, [.bl false], []⟩
def h_is_measure_or_none : He.DefD := ⟨("is_measure_or_none", none), "is_measure_or_none", "is_measure_or_none", defArgs s_is_measure_or_none, defBody s_is_measure_or_none, defScope s_is_measure_or_none, [], []⟩
def h_slip_of : He.DefD := ⟨("slip_of", none), "slip_of", "slip_of", defArgs s_slip_of, defBody s_slip_of, defScope s_slip_of, [], []⟩
def h_is_empty : He.DefD := ⟨("is_empty", none), "is_empty", "is_empty", defArgs s_is_empty, defBody s_is_empty, defScope s_is_empty, [], []⟩
def h_cut_low : He.DefD := ⟨("cut_low", none), "cut_low", "cut_low", defArgs s_cut_low, defBody s_cut_low, defScope s_cut_low, [], []⟩
def h_cut_high : He.DefD := ⟨("cut_high", none), "cut_high", "cut_high", defArgs s_cut_high, defBody s_cut_high, defScope s_cut_high, [], []⟩
def h_some_measure : He.DefD := ⟨("some_measure", none), "some_measure", "some_measure", defArgs s_some_measure, defBody s_some_measure, defScope s_some_measure, [], []⟩
def h_Stretch_init : He.DefD := ⟨("Stretch", some "__init__"), "__init__", "Stretch.__init__", defArgs s_Stretch_init, defBody s_Stretch_init, defScope s_Stretch_init, [.bl false, .bl true], []⟩
def h_Stretch_shared : He.DefD := ⟨("Stretch", some "shared"), "shared", "Stretch.shared", defArgs s_Stretch_shared, defBody s_Stretch_shared, defScope s_Stretch_shared, [], []⟩
def h_Stretch_cut : He.DefD := ⟨("Stretch", some "cut"), "cut", "Stretch.cut", defArgs s_Stretch_cut, defBody s_Stretch_cut, defScope s_Stretch_cut, [], []⟩
def h_are_marks : He.DefD := ⟨("are_marks", none), "are_marks", "are_marks", defArgs s_are_marks, defBody s_are_marks, defScope s_are_marks, [], []⟩
def h_is_rule : He.DefD := ⟨("is_rule", none), "is_rule", "is_rule", defArgs s_is_rule, defBody s_is_rule, defScope s_is_rule, [], []⟩
def h_is_span : He.DefD := ⟨("is_span", none), "is_span", "is_span", defArgs s_is_span, defBody s_is_span, defScope s_is_span, [], []⟩
def h_midsts_of : He.DefD := ⟨("midsts_of", none), "midsts_of", "midsts_of", defArgs s_midsts_of, defBody s_midsts_of, defScope s_midsts_of, [], []⟩
def h_size_by_rule : He.DefD := ⟨("size_by_rule", none), "size_by_rule", "size_by_rule", defArgs s_size_by_rule, defBody s_size_by_rule, defScope s_size_by_rule, [], []⟩
def h_end_at : He.DefD := ⟨("end_at", none), "end_at", "end_at", defArgs s_end_at, defBody s_end_at, defScope s_end_at, [], []⟩
def h_stretch_by_rule : He.DefD := ⟨("stretch_by_rule", none), "stretch_by_rule", "stretch_by_rule", defArgs s_stretch_by_rule, defBody s_stretch_by_rule, defScope s_stretch_by_rule, [], []⟩
def h_has_size : He.DefD := ⟨("has_size", none), "has_size", "has_size", defArgs s_has_size, defBody s_has_size, defScope s_has_size, [], []⟩
def h_Ladder_init : He.DefD := ⟨("Ladder", some "__init__"), "__init__", "Ladder.__init__", defArgs s_Ladder_init, defBody s_Ladder_init, defScope s_Ladder_init, [.str "up", .non, .non], []⟩
def h_Ladder_len : He.DefD := ⟨("Ladder", some "__len__"), "__len__", "Ladder.__len__", defArgs s_Ladder_len, defBody s_Ladder_len, defScope s_Ladder_len, [], []⟩
def h_Ladder_size : He.DefD := ⟨("Ladder", some "size"), "size", "Ladder.size", defArgs s_Ladder_size, defBody s_Ladder_size, defScope s_Ladder_size, [], []⟩
def h_Ladder_stretch : He.DefD := ⟨("Ladder", some "stretch"), "stretch", "Ladder.stretch", defArgs s_Ladder_stretch, defBody s_Ladder_stretch, defScope s_Ladder_stretch, [], []⟩
def h_shared_by : He.DefD := ⟨("shared_by", none), "shared_by", "shared_by", defArgs s_shared_by, defBody s_shared_by, defScope s_shared_by, [], []⟩
def h_common_measures : He.DefD := ⟨("common_measures", none), "common_measures", "common_measures", defArgs s_common_measures, defBody s_common_measures, defScope s_common_measures, [], []⟩
def h_led : He.DefD := ⟨("led", none), "led", "led", defArgs s_led, defBody s_led, defScope s_led, [], []⟩
def h_comes_to : He.DefD := ⟨("comes_to", none), "comes_to", "comes_to", defArgs s_comes_to, defBody s_comes_to, defScope s_comes_to, [], []⟩
def h_way_of : He.DefD := ⟨("way_of", none), "way_of", "way_of", defArgs s_way_of, defBody s_way_of, defScope s_way_of, [], []⟩
def h_run_behind : He.DefD := ⟨("run_behind", none), "run_behind", "run_behind", defArgs s_run_behind, defBody s_run_behind, defScope s_run_behind, [], []⟩
def h_runs_of : He.DefD := ⟨("runs_of", none), "runs_of", "runs_of", defArgs s_runs_of, defBody s_runs_of, defScope s_runs_of, [], []⟩
def h_size_ahead : He.DefD := ⟨("size_ahead", none), "size_ahead", "size_ahead", defArgs s_size_ahead, defBody s_size_ahead, defScope s_size_ahead, [], []⟩
def h_sizes_to : He.DefD := ⟨("sizes_to", none), "sizes_to", "sizes_to", defArgs s_sizes_to, defBody s_sizes_to, defScope s_sizes_to, [], []⟩
def h_row_to : He.DefD := ⟨("row_to", none), "row_to", "row_to", defArgs s_row_to, defBody s_row_to, defScope s_row_to, [], []⟩
def h_round_from : He.DefD := ⟨("round_from", none), "round_from", "round_from", defArgs s_round_from, defBody s_round_from, defScope s_round_from, [], []⟩
def h_end_rows : He.DefD := ⟨("end_rows", none), "end_rows", "end_rows", defArgs s_end_rows, defBody s_end_rows, defScope s_end_rows, [], []⟩
def h_drift_of : He.DefD := ⟨("drift_of", none), "drift_of", "drift_of", defArgs s_drift_of, defBody s_drift_of, defScope s_drift_of, [], []⟩
def h_most_drift : He.DefD := ⟨("most_drift", none), "most_drift", "most_drift", defArgs s_most_drift, defBody s_most_drift, defScope s_most_drift, [], []⟩
def h_are_runs : He.DefD := ⟨("are_runs", none), "are_runs", "are_runs", defArgs s_are_runs, defBody s_are_runs, defScope s_are_runs, [], []⟩
def h_are_sizes : He.DefD := ⟨("are_sizes", none), "are_sizes", "are_sizes", defArgs s_are_sizes, defBody s_are_sizes, defScope s_are_sizes, [], []⟩
def h_are_steps : He.DefD := ⟨("are_steps", none), "are_steps", "are_steps", defArgs s_are_steps, defBody s_are_steps, defScope s_are_steps, [], []⟩
def h_is_row : He.DefD := ⟨("is_row", none), "is_row", "is_row", defArgs s_is_row, defBody s_is_row, defScope s_is_row, [], []⟩
def h_is_stop : He.DefD := ⟨("is_stop", none), "is_stop", "is_stop", defArgs s_is_stop, defBody s_is_stop, defScope s_is_stop, [], []⟩
def h_is_return : He.DefD := ⟨("is_return", none), "is_return", "is_return", defArgs s_is_return, defBody s_is_return, defScope s_is_return, [], []⟩
def h_shows_round : He.DefD := ⟨("shows_round", none), "shows_round", "shows_round", defArgs s_shows_round, defBody s_shows_round, defScope s_shows_round, [], []⟩
def h_l_begin : He.DefD := ⟨("_law_begin", none), "_law_begin", "_law_begin", defArgs s_l_begin, defBody s_l_begin, defScope s_l_begin, [], []⟩
def h_l_pick : He.DefD := ⟨("_law_pick", none), "_law_pick", "_law_pick", defArgs s_l_pick, defBody s_l_pick, defScope s_l_pick, [], []⟩
def h_l_of : He.DefD := ⟨("_law_of", none), "_law_of", "_law_of", defArgs s_l_of, defBody s_l_of, defScope s_l_of, [], []⟩
def h_l_parts : He.DefD := ⟨("_law_parts", none), "_law_parts", "_law_parts", defArgs s_l_parts, defBody s_l_parts, defScope s_l_parts, [], []⟩
def h_l_less : He.DefD := ⟨("_law_less", none), "_law_less", "_law_less", defArgs s_l_less, defBody s_l_less, defScope s_l_less, [], []⟩
def h_l_plus : He.DefD := ⟨("_law_plus", none), "_law_plus", "_law_plus", defArgs s_l_plus, defBody s_l_plus, defScope s_l_plus, [], []⟩
def h_l_mid : He.DefD := ⟨("_law_mid", none), "_law_mid", "_law_mid", defArgs s_l_mid, defBody s_l_mid, defScope s_l_mid, [], []⟩
def h_l_drawn : He.DefD := ⟨("_law_drawn", none), "_law_drawn", "_law_drawn", defArgs s_l_drawn, defBody s_l_drawn, defScope s_l_drawn, [], []⟩
def h_l_made : He.DefD := ⟨("_law_made", none), "_law_made", "_law_made", defArgs s_l_made, defBody s_l_made, defScope s_l_made, [], []⟩
def h_l_scaled : He.DefD := ⟨("_law_scaled", none), "_law_scaled", "_law_scaled", defArgs s_l_scaled, defBody s_l_scaled, defScope s_l_scaled, [], []⟩
def h_l_ladders : He.DefD := ⟨("_law_ladders", none), "_law_ladders", "_law_ladders", defArgs s_l_ladders, defBody s_l_ladders, defScope s_l_ladders, [], []⟩
def h_l_rising : He.DefD := ⟨("_law_rising", none), "_law_rising", "_law_rising", defArgs s_l_rising, defBody s_l_rising, defScope s_l_rising, [], []⟩
def h_l_tried : He.DefD := ⟨("_law_tried", none), "_law_tried", "_law_tried", defArgs s_l_tried, defBody s_l_tried, defScope s_l_tried, [], []⟩
def h_l_leads : He.DefD := ⟨("_law_leads", none), "_law_leads", "_law_leads", defArgs s_l_leads, defBody s_l_leads, defScope s_l_leads, [], []⟩
def h_l_rows_right : He.DefD := ⟨("_law_rows_right", none), "_law_rows_right", "_law_rows_right", defArgs s_l_rows_right, defBody s_l_rows_right, defScope s_l_rows_right, [], []⟩
def h_l_start_right : He.DefD := ⟨("_law_start_right", none), "_law_start_right", "_law_start_right", defArgs s_l_start_right, defBody s_l_start_right, defScope s_l_start_right, [], []⟩
def h_l_right : He.DefD := ⟨("_law_right", none), "_law_right", "_law_right", defArgs s_l_right, defBody s_l_right, defScope s_l_right, [], []⟩
def h_law : He.DefD := ⟨("law", none), "law", "law", defArgs s_law, defBody s_law, defScope s_law, [], []⟩
def fn : List He.DefD := [h_is_whole, h_is_tuple_of, h_are_wholes, h_is_word, h_common_part, h_Measure_init, h_Measure_eq, h_Measure_plus, h_Measure_minus, h_Measure_parted, h_Measure_is_below, h_is_measure_or_none, h_slip_of, h_is_empty, h_cut_low, h_cut_high, h_some_measure, h_Stretch_init, h_Stretch_shared, h_Stretch_cut, h_are_marks, h_is_rule, h_is_span, h_midsts_of, h_size_by_rule, h_end_at, h_stretch_by_rule, h_has_size, h_Ladder_init, h_Ladder_len, h_Ladder_size, h_Ladder_stretch, h_shared_by, h_common_measures, h_led, h_comes_to, h_way_of, h_run_behind, h_runs_of, h_size_ahead, h_sizes_to, h_row_to, h_round_from, h_end_rows, h_drift_of, h_most_drift, h_are_runs, h_are_sizes, h_are_steps, h_is_row, h_is_stop, h_is_return, h_shows_round, h_l_begin, h_l_pick, h_l_of, h_l_parts, h_l_less, h_l_plus, h_l_mid, h_l_drawn, h_l_made, h_l_scaled, h_l_ladders, h_l_rising, h_l_tried, h_l_leads, h_l_rows_right, h_l_start_right, h_l_right, h_law]
def fa : List He.Fa := [.glo "is_whole", .glo "is_tuple_of", .glo "are_wholes", .glo "is_word", .glo "common_part", .glo "is_measure_or_none", .glo "slip_of", .glo "is_empty", .glo "cut_low", .glo "cut_high", .glo "some_measure", .glo "are_marks", .glo "is_rule", .glo "is_span", .glo "midsts_of", .glo "size_by_rule", .glo "end_at", .glo "stretch_by_rule", .glo "has_size", .glo "shared_by", .glo "common_measures", .glo "led", .glo "comes_to", .glo "way_of", .glo "run_behind", .glo "runs_of", .glo "size_ahead", .glo "sizes_to", .glo "row_to", .glo "round_from", .glo "end_rows", .glo "drift_of", .glo "most_drift", .glo "are_runs", .glo "are_sizes", .glo "are_steps", .glo "is_row", .glo "is_stop", .glo "is_return", .glo "shows_round", .glo "_law_begin", .glo "_law_pick", .glo "_law_of", .glo "_law_parts", .glo "_law_less", .glo "_law_plus", .glo "_law_mid", .glo "_law_drawn", .glo "_law_made", .glo "_law_scaled", .glo "_law_ladders", .glo "_law_rising", .glo "_law_tried", .glo "_law_leads", .glo "_law_rows_right", .glo "_law_start_right", .glo "_law_right", .glo "law", .glo "Measure", .glo "Stretch", .glo "Ladder", .glo "RULES", .int "MOST_MARKS" 24, .free "abs", .free "all", .free "bool", .free "enumerate", .free "int", .free "isinstance", .free "len", .free "list", .free "max", .free "min", .free "range", .free "reversed", .free "sorted", .free "str", .free "tuple", .free "zip", .cls "Measure", .noat "Measure" "top", .noat "Measure" "bottom", .meth "Measure" "__eq__", .meth "Measure" "plus", .meth "Measure" "minus", .meth "Measure" "parted", .meth "Measure" "is_below", .mkr "Measure", .cls "Stretch", .noat "Stretch" "low", .noat "Stretch" "high", .noat "Stretch" "low_in", .noat "Stretch" "high_in", .meth "Stretch" "shared", .meth "Stretch" "cut", .mkr "Stretch", .cls "Ladder", .noat "Ladder" "marks", .noat "Ladder" "rule", .noat "Ladder" "least", .noat "Ladder" "most", .meth "Ladder" "__len__", .meth "Ladder" "size", .meth "Ladder" "stretch", .mkr "Ladder"]
abbrev R : PySem.W.OpenRow := PySem.W.OpenLaw.row PySem.Challenge.rw_sizeladders_k36_whole_rounds_by_measures
def ex : List (PySem.W.Frag → Bool) := [isCB "Measure", isCB "Stretch", isCB "Ladder", eqCB "Measure", tupB "RULES" ["up", "down", "near"], kitF (.inl "Measure") (.inl "Measure") true, kitF (.inl "Stretch") (.inl "Stretch") true, kitF (.inl "Measure") (.inl "Stretch") false, kitF (.inl "Stretch") (.inl "Measure") false, kitF (.inl "Ladder") (.inl "Ladder") true, kitF (.inr "int") (.inl "Measure") false, kitF (.inr "str") (.inl "Measure") false, kitF (.inr "NoneType") (.inl "Measure") false, kitF (.inr "tuple") (.inl "Measure") false, kitF (.inl "Measure") (.inr "tuple") false]
abbrev hk : PySem.W.Hook := hookL asL fa fn ex
def ob (s : PySem.W.SharedT) : He.AlD × Bool := obsL asL fa fn ex (HandSHeadRun.getT s)
theorem ob_eq (s : PySem.W.SharedT) : ob s = hk.obs s.abs := obsL_eq (HandSHeadRun.getT_eq s)
theorem run (w : World) : HandSHeadRun.RunEq R (PySem.W.view R.prog [84]) hk ob 20000 [("_wall" : PySem.Str), ("LadderError" : PySem.Str), ("NoMeasure" : PySem.Str), ("NoStretch" : PySem.Str), ("NoLadder" : PySem.Str), ("Slip" : PySem.Str), ("LandError" : PySem.Str), ("NoSize" : PySem.Str), ("NoBottom" : PySem.Str), ("is_whole" : PySem.Str), ("is_tuple_of" : PySem.Str), ("are_wholes" : PySem.Str), ("is_word" : PySem.Str), ("common_part" : PySem.Str), ("written" : PySem.Str), ("Measure" : PySem.Str), ("is_measure_or_none" : PySem.Str), ("slip_of" : PySem.Str), ("is_empty" : PySem.Str), ("end_text" : PySem.Str), ("cut_low" : PySem.Str), ("cut_high" : PySem.Str), ("some_measure" : PySem.Str), ("Stretch" : PySem.Str), ("MOST_MARKS" : PySem.Str), ("RULES" : PySem.Str), ("are_marks" : PySem.Str), ("is_rule" : PySem.Str), ("is_span" : PySem.Str), ("midsts_of" : PySem.Str), ("size_by_rule" : PySem.Str), ("end_at" : PySem.Str), ("stretch_by_rule" : PySem.Str), ("has_size" : PySem.Str), ("bound_text" : PySem.Str), ("Ladder" : PySem.Str), ("shared_by" : PySem.Str), ("common_measures" : PySem.Str), ("led" : PySem.Str), ("comes_to" : PySem.Str), ("way_of" : PySem.Str), ("run_behind" : PySem.Str), ("runs_of" : PySem.Str), ("size_ahead" : PySem.Str), ("sizes_to" : PySem.Str), ("row_to" : PySem.Str), ("round_from" : PySem.Str), ("end_rows" : PySem.Str), ("drift_of" : PySem.Str), ("most_drift" : PySem.Str), ("are_runs" : PySem.Str), ("are_sizes" : PySem.Str), ("are_steps" : PySem.Str), ("is_row" : PySem.Str), ("is_stop" : PySem.Str), ("is_return" : PySem.Str), ("shows_round" : PySem.Str), ("_law_begin" : PySem.Str), ("_law_pick" : PySem.Str), ("_law_of" : PySem.Str), ("_law_parts" : PySem.Str), ("_law_less" : PySem.Str), ("_law_plus" : PySem.Str), ("_law_mid" : PySem.Str), ("_law_drawn" : PySem.Str), ("_law_made" : PySem.Str), ("_law_scaled" : PySem.Str), ("_law_ladders" : PySem.Str), ("_law_rising" : PySem.Str), ("_law_tried" : PySem.Str), ("_law_leads" : PySem.Str), ("_law_rows_right" : PySem.Str), ("_law_start_right" : PySem.Str), ("_law_right" : PySem.Str)] w := by
  intro os
  kernel_rfl

end K36
namespace K36
open PySem PySem.Spec PyProof.Rows L2 My
theorem facts {K : PySem.W.Frag} {h : Heap} {mg : Str → Option Value} (X : K.In h) (G : h.Ns mainGlobals mg) (c : He.SaysD fa fn K) (cx : (ex.all fun f => f K) = true) : ∃ φ : Fds, Txt K mg φ := by
  obtain ⟨d0, F0⟩ := c.def_ 0 (d := h_is_whole) rfl
  obtain ⟨d1, F1⟩ := c.def_ 1 (d := h_is_tuple_of) rfl
  obtain ⟨d2, F2⟩ := c.def_ 2 (d := h_are_wholes) rfl
  obtain ⟨d3, F3⟩ := c.def_ 3 (d := h_is_word) rfl
  obtain ⟨d4, F4⟩ := c.def_ 4 (d := h_common_part) rfl
  obtain ⟨d5, F5⟩ := c.def_ 5 (d := h_Measure_init) rfl
  obtain ⟨d6, F6⟩ := c.def_ 6 (d := h_Measure_eq) rfl
  obtain ⟨d7, F7⟩ := c.def_ 7 (d := h_Measure_plus) rfl
  obtain ⟨d8, F8⟩ := c.def_ 8 (d := h_Measure_minus) rfl
  obtain ⟨d9, F9⟩ := c.def_ 9 (d := h_Measure_parted) rfl
  obtain ⟨d10, F10⟩ := c.def_ 10 (d := h_Measure_is_below) rfl
  obtain ⟨d11, F11⟩ := c.def_ 11 (d := h_is_measure_or_none) rfl
  obtain ⟨d12, F12⟩ := c.def_ 12 (d := h_slip_of) rfl
  obtain ⟨d13, F13⟩ := c.def_ 13 (d := h_is_empty) rfl
  obtain ⟨d14, F14⟩ := c.def_ 14 (d := h_cut_low) rfl
  obtain ⟨d15, F15⟩ := c.def_ 15 (d := h_cut_high) rfl
  obtain ⟨d16, F16⟩ := c.def_ 16 (d := h_some_measure) rfl
  obtain ⟨d17, F17⟩ := c.def_ 17 (d := h_Stretch_init) rfl
  obtain ⟨d18, F18⟩ := c.def_ 18 (d := h_Stretch_shared) rfl
  obtain ⟨d19, F19⟩ := c.def_ 19 (d := h_Stretch_cut) rfl
  obtain ⟨d20, F20⟩ := c.def_ 20 (d := h_are_marks) rfl
  obtain ⟨d21, F21⟩ := c.def_ 21 (d := h_is_rule) rfl
  obtain ⟨d22, F22⟩ := c.def_ 22 (d := h_is_span) rfl
  obtain ⟨d23, F23⟩ := c.def_ 23 (d := h_midsts_of) rfl
  obtain ⟨d24, F24⟩ := c.def_ 24 (d := h_size_by_rule) rfl
  obtain ⟨d25, F25⟩ := c.def_ 25 (d := h_end_at) rfl
  obtain ⟨d26, F26⟩ := c.def_ 26 (d := h_stretch_by_rule) rfl
  obtain ⟨d27, F27⟩ := c.def_ 27 (d := h_has_size) rfl
  obtain ⟨d28, F28⟩ := c.def_ 28 (d := h_Ladder_init) rfl
  obtain ⟨d29, F29⟩ := c.def_ 29 (d := h_Ladder_len) rfl
  obtain ⟨d30, F30⟩ := c.def_ 30 (d := h_Ladder_size) rfl
  obtain ⟨d31, F31⟩ := c.def_ 31 (d := h_Ladder_stretch) rfl
  obtain ⟨d32, F32⟩ := c.def_ 32 (d := h_shared_by) rfl
  obtain ⟨d33, F33⟩ := c.def_ 33 (d := h_common_measures) rfl
  obtain ⟨d34, F34⟩ := c.def_ 34 (d := h_led) rfl
  obtain ⟨d35, F35⟩ := c.def_ 35 (d := h_comes_to) rfl
  obtain ⟨d36, F36⟩ := c.def_ 36 (d := h_way_of) rfl
  obtain ⟨d37, F37⟩ := c.def_ 37 (d := h_run_behind) rfl
  obtain ⟨d38, F38⟩ := c.def_ 38 (d := h_runs_of) rfl
  obtain ⟨d39, F39⟩ := c.def_ 39 (d := h_size_ahead) rfl
  obtain ⟨d40, F40⟩ := c.def_ 40 (d := h_sizes_to) rfl
  obtain ⟨d41, F41⟩ := c.def_ 41 (d := h_row_to) rfl
  obtain ⟨d42, F42⟩ := c.def_ 42 (d := h_round_from) rfl
  obtain ⟨d43, F43⟩ := c.def_ 43 (d := h_end_rows) rfl
  obtain ⟨d44, F44⟩ := c.def_ 44 (d := h_drift_of) rfl
  obtain ⟨d45, F45⟩ := c.def_ 45 (d := h_most_drift) rfl
  obtain ⟨d46, F46⟩ := c.def_ 46 (d := h_are_runs) rfl
  obtain ⟨d47, F47⟩ := c.def_ 47 (d := h_are_sizes) rfl
  obtain ⟨d48, F48⟩ := c.def_ 48 (d := h_are_steps) rfl
  obtain ⟨d49, F49⟩ := c.def_ 49 (d := h_is_row) rfl
  obtain ⟨d50, F50⟩ := c.def_ 50 (d := h_is_stop) rfl
  obtain ⟨d51, F51⟩ := c.def_ 51 (d := h_is_return) rfl
  obtain ⟨d52, F52⟩ := c.def_ 52 (d := h_shows_round) rfl
  obtain ⟨d53, F53⟩ := c.def_ 53 (d := h_l_begin) rfl
  obtain ⟨d54, F54⟩ := c.def_ 54 (d := h_l_pick) rfl
  obtain ⟨d55, F55⟩ := c.def_ 55 (d := h_l_of) rfl
  obtain ⟨d56, F56⟩ := c.def_ 56 (d := h_l_parts) rfl
  obtain ⟨d57, F57⟩ := c.def_ 57 (d := h_l_less) rfl
  obtain ⟨d58, F58⟩ := c.def_ 58 (d := h_l_plus) rfl
  obtain ⟨d59, F59⟩ := c.def_ 59 (d := h_l_mid) rfl
  obtain ⟨d60, F60⟩ := c.def_ 60 (d := h_l_drawn) rfl
  obtain ⟨d61, F61⟩ := c.def_ 61 (d := h_l_made) rfl
  obtain ⟨d62, F62⟩ := c.def_ 62 (d := h_l_scaled) rfl
  obtain ⟨d63, F63⟩ := c.def_ 63 (d := h_l_ladders) rfl
  obtain ⟨d64, F64⟩ := c.def_ 64 (d := h_l_rising) rfl
  obtain ⟨d65, F65⟩ := c.def_ 65 (d := h_l_tried) rfl
  obtain ⟨d66, F66⟩ := c.def_ 66 (d := h_l_leads) rfl
  obtain ⟨d67, F67⟩ := c.def_ 67 (d := h_l_rows_right) rfl
  obtain ⟨d68, F68⟩ := c.def_ 68 (d := h_l_start_right) rfl
  obtain ⟨d69, F69⟩ := c.def_ 69 (d := h_l_right) rfl
  obtain ⟨d70, F70⟩ := c.def_ 70 (d := h_law) rfl
  refine ⟨⟨d0, d1, d2, d3, d4, d5, d6, d7, d8, d9, d10, d11, d12, d13, d14, d15, d16, d17, d18, d19, d20, d21, d22, d23, d24, d25, d26, d27, d28, d29, d30, d31, d32, d33, d34, d35, d36, d37, d38, d39, d40, d41, d42, d43, d44, d45, d46, d47, d48, d49, d50, d51, d52, d53, d54, d55, d56, d57, d58, d59, d60, d61, d62, d63, d64, d65, d66, d67, d68, d69, d70⟩, ?_⟩
  exact {
    g_is_whole := He.glo_ok X G (c.fact 0 (f := .glo "is_whole") rfl),
    g_is_tuple_of := He.glo_ok X G (c.fact 1 (f := .glo "is_tuple_of") rfl),
    g_are_wholes := He.glo_ok X G (c.fact 2 (f := .glo "are_wholes") rfl),
    g_is_word := He.glo_ok X G (c.fact 3 (f := .glo "is_word") rfl),
    g_common_part := He.glo_ok X G (c.fact 4 (f := .glo "common_part") rfl),
    g_is_measure_or_none := He.glo_ok X G (c.fact 5 (f := .glo "is_measure_or_none") rfl),
    g_slip_of := He.glo_ok X G (c.fact 6 (f := .glo "slip_of") rfl),
    g_is_empty := He.glo_ok X G (c.fact 7 (f := .glo "is_empty") rfl),
    g_cut_low := He.glo_ok X G (c.fact 8 (f := .glo "cut_low") rfl),
    g_cut_high := He.glo_ok X G (c.fact 9 (f := .glo "cut_high") rfl),
    g_some_measure := He.glo_ok X G (c.fact 10 (f := .glo "some_measure") rfl),
    g_are_marks := He.glo_ok X G (c.fact 11 (f := .glo "are_marks") rfl),
    g_is_rule := He.glo_ok X G (c.fact 12 (f := .glo "is_rule") rfl),
    g_is_span := He.glo_ok X G (c.fact 13 (f := .glo "is_span") rfl),
    g_midsts_of := He.glo_ok X G (c.fact 14 (f := .glo "midsts_of") rfl),
    g_size_by_rule := He.glo_ok X G (c.fact 15 (f := .glo "size_by_rule") rfl),
    g_end_at := He.glo_ok X G (c.fact 16 (f := .glo "end_at") rfl),
    g_stretch_by_rule := He.glo_ok X G (c.fact 17 (f := .glo "stretch_by_rule") rfl),
    g_has_size := He.glo_ok X G (c.fact 18 (f := .glo "has_size") rfl),
    g_shared_by := He.glo_ok X G (c.fact 19 (f := .glo "shared_by") rfl),
    g_common_measures := He.glo_ok X G (c.fact 20 (f := .glo "common_measures") rfl),
    g_led := He.glo_ok X G (c.fact 21 (f := .glo "led") rfl),
    g_comes_to := He.glo_ok X G (c.fact 22 (f := .glo "comes_to") rfl),
    g_way_of := He.glo_ok X G (c.fact 23 (f := .glo "way_of") rfl),
    g_run_behind := He.glo_ok X G (c.fact 24 (f := .glo "run_behind") rfl),
    g_runs_of := He.glo_ok X G (c.fact 25 (f := .glo "runs_of") rfl),
    g_size_ahead := He.glo_ok X G (c.fact 26 (f := .glo "size_ahead") rfl),
    g_sizes_to := He.glo_ok X G (c.fact 27 (f := .glo "sizes_to") rfl),
    g_row_to := He.glo_ok X G (c.fact 28 (f := .glo "row_to") rfl),
    g_round_from := He.glo_ok X G (c.fact 29 (f := .glo "round_from") rfl),
    g_end_rows := He.glo_ok X G (c.fact 30 (f := .glo "end_rows") rfl),
    g_drift_of := He.glo_ok X G (c.fact 31 (f := .glo "drift_of") rfl),
    g_most_drift := He.glo_ok X G (c.fact 32 (f := .glo "most_drift") rfl),
    g_are_runs := He.glo_ok X G (c.fact 33 (f := .glo "are_runs") rfl),
    g_are_sizes := He.glo_ok X G (c.fact 34 (f := .glo "are_sizes") rfl),
    g_are_steps := He.glo_ok X G (c.fact 35 (f := .glo "are_steps") rfl),
    g_is_row := He.glo_ok X G (c.fact 36 (f := .glo "is_row") rfl),
    g_is_stop := He.glo_ok X G (c.fact 37 (f := .glo "is_stop") rfl),
    g_is_return := He.glo_ok X G (c.fact 38 (f := .glo "is_return") rfl),
    g_shows_round := He.glo_ok X G (c.fact 39 (f := .glo "shows_round") rfl),
    g_l_begin := He.glo_ok X G (c.fact 40 (f := .glo "_law_begin") rfl),
    g_l_pick := He.glo_ok X G (c.fact 41 (f := .glo "_law_pick") rfl),
    g_l_of := He.glo_ok X G (c.fact 42 (f := .glo "_law_of") rfl),
    g_l_parts := He.glo_ok X G (c.fact 43 (f := .glo "_law_parts") rfl),
    g_l_less := He.glo_ok X G (c.fact 44 (f := .glo "_law_less") rfl),
    g_l_plus := He.glo_ok X G (c.fact 45 (f := .glo "_law_plus") rfl),
    g_l_mid := He.glo_ok X G (c.fact 46 (f := .glo "_law_mid") rfl),
    g_l_drawn := He.glo_ok X G (c.fact 47 (f := .glo "_law_drawn") rfl),
    g_l_made := He.glo_ok X G (c.fact 48 (f := .glo "_law_made") rfl),
    g_l_scaled := He.glo_ok X G (c.fact 49 (f := .glo "_law_scaled") rfl),
    g_l_ladders := He.glo_ok X G (c.fact 50 (f := .glo "_law_ladders") rfl),
    g_l_rising := He.glo_ok X G (c.fact 51 (f := .glo "_law_rising") rfl),
    g_l_tried := He.glo_ok X G (c.fact 52 (f := .glo "_law_tried") rfl),
    g_l_leads := He.glo_ok X G (c.fact 53 (f := .glo "_law_leads") rfl),
    g_l_rows_right := He.glo_ok X G (c.fact 54 (f := .glo "_law_rows_right") rfl),
    g_l_start_right := He.glo_ok X G (c.fact 55 (f := .glo "_law_start_right") rfl),
    g_l_right := He.glo_ok X G (c.fact 56 (f := .glo "_law_right") rfl),
    g_law := He.glo_ok X G (c.fact 57 (f := .glo "law") rfl),
    g_Measure := He.glo_ok X G (c.fact 58 (f := .glo "Measure") rfl),
    g_Stretch := He.glo_ok X G (c.fact 59 (f := .glo "Stretch") rfl),
    g_Ladder := He.glo_ok X G (c.fact 60 (f := .glo "Ladder") rfl),
    g_RULES := He.glo_ok X G (c.fact 61 (f := .glo "RULES") rfl),
    v_MOST_MARKS := He.int_ok X G (c.fact 62 (f := .int "MOST_MARKS" 24) rfl),
    z_abs := He.free_ok X G (c.fact 63 (f := .free "abs") rfl),
    z_all := He.free_ok X G (c.fact 64 (f := .free "all") rfl),
    z_bool := He.free_ok X G (c.fact 65 (f := .free "bool") rfl),
    z_enumerate := He.free_ok X G (c.fact 66 (f := .free "enumerate") rfl),
    z_int := He.free_ok X G (c.fact 67 (f := .free "int") rfl),
    z_isinstance := He.free_ok X G (c.fact 68 (f := .free "isinstance") rfl),
    z_len := He.free_ok X G (c.fact 69 (f := .free "len") rfl),
    z_list := He.free_ok X G (c.fact 70 (f := .free "list") rfl),
    z_max := He.free_ok X G (c.fact 71 (f := .free "max") rfl),
    z_min := He.free_ok X G (c.fact 72 (f := .free "min") rfl),
    z_range := He.free_ok X G (c.fact 73 (f := .free "range") rfl),
    z_reversed := He.free_ok X G (c.fact 74 (f := .free "reversed") rfl),
    z_sorted := He.free_ok X G (c.fact 75 (f := .free "sorted") rfl),
    z_str := He.free_ok X G (c.fact 76 (f := .free "str") rfl),
    z_tuple := He.free_ok X G (c.fact 77 (f := .free "tuple") rfl),
    z_zip := He.free_ok X G (c.fact 78 (f := .free "zip") rfl),
    cl_Measure := He.cls_ok (c.fact 79 (f := .cls "Measure") rfl),
    na_Measure_top := He.noat_ok (c.fact 80 (f := .noat "Measure" "top") rfl),
    na_Measure_bottom := He.noat_ok (c.fact 81 (f := .noat "Measure" "bottom") rfl),
    me_Measure_eq := He.meth_ok (c.fact 82 (f := .meth "Measure" "__eq__") rfl),
    me_Measure_plus := He.meth_ok (c.fact 83 (f := .meth "Measure" "plus") rfl),
    me_Measure_minus := He.meth_ok (c.fact 84 (f := .meth "Measure" "minus") rfl),
    me_Measure_parted := He.meth_ok (c.fact 85 (f := .meth "Measure" "parted") rfl),
    me_Measure_is_below := He.meth_ok (c.fact 86 (f := .meth "Measure" "is_below") rfl),
    mk_Measure := He.mkr_ok (c.fact 87 (f := .mkr "Measure") rfl),
    cl_Stretch := He.cls_ok (c.fact 88 (f := .cls "Stretch") rfl),
    na_Stretch_low := He.noat_ok (c.fact 89 (f := .noat "Stretch" "low") rfl),
    na_Stretch_high := He.noat_ok (c.fact 90 (f := .noat "Stretch" "high") rfl),
    na_Stretch_low_in := He.noat_ok (c.fact 91 (f := .noat "Stretch" "low_in") rfl),
    na_Stretch_high_in := He.noat_ok (c.fact 92 (f := .noat "Stretch" "high_in") rfl),
    me_Stretch_shared := He.meth_ok (c.fact 93 (f := .meth "Stretch" "shared") rfl),
    me_Stretch_cut := He.meth_ok (c.fact 94 (f := .meth "Stretch" "cut") rfl),
    mk_Stretch := He.mkr_ok (c.fact 95 (f := .mkr "Stretch") rfl),
    cl_Ladder := He.cls_ok (c.fact 96 (f := .cls "Ladder") rfl),
    na_Ladder_marks := He.noat_ok (c.fact 97 (f := .noat "Ladder" "marks") rfl),
    na_Ladder_rule := He.noat_ok (c.fact 98 (f := .noat "Ladder" "rule") rfl),
    na_Ladder_least := He.noat_ok (c.fact 99 (f := .noat "Ladder" "least") rfl),
    na_Ladder_most := He.noat_ok (c.fact 100 (f := .noat "Ladder" "most") rfl),
    me_Ladder_len := He.meth_ok (c.fact 101 (f := .meth "Ladder" "__len__") rfl),
    me_Ladder_size := He.meth_ok (c.fact 102 (f := .meth "Ladder" "size") rfl),
    me_Ladder_stretch := He.meth_ok (c.fact 103 (f := .meth "Ladder" "stretch") rfl),
    mk_Ladder := He.mkr_ok (c.fact 104 (f := .mkr "Ladder") rfl),
    ii_Measure := isC_ok (ex_at cx 0 (f := isCB "Measure") rfl),
    ii_Stretch := isC_ok (ex_at cx 1 (f := isCB "Stretch") rfl),
    ii_Ladder := isC_ok (ex_at cx 2 (f := isCB "Ladder") rfl),
    ec_Measure := eqC_ok (ex_at cx 3 (f := eqCB "Measure") rfl),
    tp_RULES := tup_ok (ex_at cx 4 (f := tupB "RULES" ["up", "down", "near"]) rfl),
    k_Measure_Measure := kitF_ok (ex_at cx 5 (f := kitF (.inl "Measure") (.inl "Measure") true) rfl),
    k_Stretch_Stretch := kitF_ok (ex_at cx 6 (f := kitF (.inl "Stretch") (.inl "Stretch") true) rfl),
    k_Measure_Stretch := kitF_ok (ex_at cx 7 (f := kitF (.inl "Measure") (.inl "Stretch") false) rfl),
    k_Stretch_Measure := kitF_ok (ex_at cx 8 (f := kitF (.inl "Stretch") (.inl "Measure") false) rfl),
    k_Ladder_Ladder := kitF_ok (ex_at cx 9 (f := kitF (.inl "Ladder") (.inl "Ladder") true) rfl),
    k_int_Measure := kitF_ok (ex_at cx 10 (f := kitF (.inr "int") (.inl "Measure") false) rfl),
    k_str_Measure := kitF_ok (ex_at cx 11 (f := kitF (.inr "str") (.inl "Measure") false) rfl),
    k_NoneType_Measure := kitF_ok (ex_at cx 12 (f := kitF (.inr "NoneType") (.inl "Measure") false) rfl),
    k_tuple_Measure := kitF_ok (ex_at cx 13 (f := kitF (.inr "tuple") (.inl "Measure") false) rfl),
    k_Measure_tuple := kitF_ok (ex_at cx 14 (f := kitF (.inl "Measure") (.inr "tuple") false) rfl),
    f_is_whole := F0,
    f_is_tuple_of := F1,
    f_are_wholes := F2,
    f_is_word := F3,
    f_common_part := F4,
    f_Measure_init := F5,
    f_Measure_eq := F6,
    f_Measure_plus := F7,
    f_Measure_minus := F8,
    f_Measure_parted := F9,
    f_Measure_is_below := F10,
    f_is_measure_or_none := F11,
    f_slip_of := F12,
    f_is_empty := F13,
    f_cut_low := F14,
    f_cut_high := F15,
    f_some_measure := F16,
    f_Stretch_init := F17,
    f_Stretch_shared := F18,
    f_Stretch_cut := F19,
    f_are_marks := F20,
    f_is_rule := F21,
    f_is_span := F22,
    f_midsts_of := F23,
    f_size_by_rule := F24,
    f_end_at := F25,
    f_stretch_by_rule := F26,
    f_has_size := F27,
    f_Ladder_init := F28,
    f_Ladder_len := F29,
    f_Ladder_size := F30,
    f_Ladder_stretch := F31,
    f_shared_by := F32,
    f_common_measures := F33,
    f_led := F34,
    f_comes_to := F35,
    f_way_of := F36,
    f_run_behind := F37,
    f_runs_of := F38,
    f_size_ahead := F39,
    f_sizes_to := F40,
    f_row_to := F41,
    f_round_from := F42,
    f_end_rows := F43,
    f_drift_of := F44,
    f_most_drift := F45,
    f_are_runs := F46,
    f_are_sizes := F47,
    f_are_steps := F48,
    f_is_row := F49,
    f_is_stop := F50,
    f_is_return := F51,
    f_shows_round := F52,
    f_l_begin := F53,
    f_l_pick := F54,
    f_l_of := F55,
    f_l_parts := F56,
    f_l_less := F57,
    f_l_plus := F58,
    f_l_mid := F59,
    f_l_drawn := F60,
    f_l_made := F61,
    f_l_scaled := F62,
    f_l_ladders := F63,
    f_l_rising := F64,
    f_l_tried := F65,
    f_l_leads := F66,
    f_l_rows_right := F67,
    f_l_start_right := F68,
    f_l_right := F69,
    f_law := F70 }
def sp_law (K : PySem.W.Frag) : Sp := fun vs H Q _ => ∃ (a : Addr) (ns : List Int), vs = [.ref a] ∧ SqL K H a (ns.map V.int) ∧ ns.length ≤ 63 ∧ ∀ H', Q (.bl true) H'

end K36
open PySem PySem.W PySem.Calls PyProof.Rows in
set_option maxRecDepth 100000 in
set_option maxHeartbeats 0 in
theorem K36.pre (hl : ∀ {P : Program} {w : World} {K : PySem.W.Frag} {mg : Str → Option Value} {base : Heap} {φ : K36.Fds} (T : K36.Txt K mg φ), L2.FnOk P w K mg base L2.CX0 17 (He.fAd K ("law", none)) φ.law K36.p_law (K36.sp_law K)) : PySem.Challenge.rw_sizeladders_k36_whole_rounds_by_measures.Holds := by
  w_on; o_law
  refine HandSHeadRun.head_any (r := OpenLaw.row PySem.Challenge.rw_sizeladders_k36_whole_rounds_by_measures) (q := view (OpenLaw.row PySem.Challenge.rw_sizeladders_k36_whole_rounds_by_measures).prog [84]) (H := K36.hk) (ob := K36.ob) (M := 20000) (loose := [("_wall" : PySem.Str), ("LadderError" : PySem.Str), ("NoMeasure" : PySem.Str), ("NoStretch" : PySem.Str), ("NoLadder" : PySem.Str), ("Slip" : PySem.Str), ("LandError" : PySem.Str), ("NoSize" : PySem.Str), ("NoBottom" : PySem.Str), ("is_whole" : PySem.Str), ("is_tuple_of" : PySem.Str), ("are_wholes" : PySem.Str), ("is_word" : PySem.Str), ("common_part" : PySem.Str), ("written" : PySem.Str), ("Measure" : PySem.Str), ("is_measure_or_none" : PySem.Str), ("slip_of" : PySem.Str), ("is_empty" : PySem.Str), ("end_text" : PySem.Str), ("cut_low" : PySem.Str), ("cut_high" : PySem.Str), ("some_measure" : PySem.Str), ("Stretch" : PySem.Str), ("MOST_MARKS" : PySem.Str), ("RULES" : PySem.Str), ("are_marks" : PySem.Str), ("is_rule" : PySem.Str), ("is_span" : PySem.Str), ("midsts_of" : PySem.Str), ("size_by_rule" : PySem.Str), ("end_at" : PySem.Str), ("stretch_by_rule" : PySem.Str), ("has_size" : PySem.Str), ("bound_text" : PySem.Str), ("Ladder" : PySem.Str), ("shared_by" : PySem.Str), ("common_measures" : PySem.Str), ("led" : PySem.Str), ("comes_to" : PySem.Str), ("way_of" : PySem.Str), ("run_behind" : PySem.Str), ("runs_of" : PySem.Str), ("size_ahead" : PySem.Str), ("sizes_to" : PySem.Str), ("row_to" : PySem.Str), ("round_from" : PySem.Str), ("end_rows" : PySem.Str), ("drift_of" : PySem.Str), ("most_drift" : PySem.Str), ("are_runs" : PySem.Str), ("are_sizes" : PySem.Str), ("are_steps" : PySem.Str), ("is_row" : PySem.Str), ("is_stop" : PySem.Str), ("is_return" : PySem.Str), ("shows_round" : PySem.Str), ("_law_begin" : PySem.Str), ("_law_pick" : PySem.Str), ("_law_of" : PySem.Str), ("_law_parts" : PySem.Str), ("_law_less" : PySem.Str), ("_law_plus" : PySem.Str), ("_law_mid" : PySem.Str), ("_law_drawn" : PySem.Str), ("_law_made" : PySem.Str), ("_law_scaled" : PySem.Str), ("_law_ladders" : PySem.Str), ("_law_rising" : PySem.Str), ("_law_tried" : PySem.Str), ("_law_leads" : PySem.Str), ("_law_rows_right" : PySem.Str), ("_law_start_right" : PySem.Str), ("_law_right" : PySem.Str)]) (d := HandSHeadRun.topDef (OpenLaw.row PySem.Challenge.rw_sizeladders_k36_whole_rounds_by_measures).prog 84) (kwd := []) K36.ob_eq
    (by kernel_rfl) (fun s => by kernel_rfl) K36.run (by kernel_rfl) (by kernel_rfl) (by kernel_rfl) (by rfl) (by first | assumption | decide +kernel) (by decide +kernel) ⟨rfl, rfl, rfl, rfl, rfl, by decide +kernel⟩ ?hw ?hc
  case hw => w_witness2
  case hc =>
    refine L2.walk_ofE (l := PySem.Challenge.rw_sizeladders_k36_whole_rounds_by_measures) (n := 63) (k := 17) (x := "_law_script") (CX := L2.CX0) rfl (by decide) (by kernel_rfl) ⟨rfl, by decide, by decide⟩ ?F (fun _ _ _ _ z => z)
    intro w mg fa h Y G hmg0
    obtain ⟨K, KX, c, cx⟩ := Y
    have hmg : mg ("law" : PySem.Str) = some (.ref fa) := by
      have e : (HandSHeadRun.topDef (OpenLaw.row PySem.Challenge.rw_sizeladders_k36_whole_rounds_by_measures).prog 84).name = ("law" : PySem.Str) := by kernel_rfl
      rw [← e]
      exact hmg0
    obtain ⟨φ, T⟩ := K36.facts KX G c cx
    have e := hmg.symm.trans T.g_law
    cases e
    have b := L2.FunD.bindsA (ps := K36.p_law) T.f_law fun _ _ _ _ _ _ us hl => match us, hl with | [_], _ => rfl
    exact ⟨K, φ.law, K36.sp_law K, KX, fun s v => b s [v] rfl, fun H a ns hl _ hS => ⟨a, ns, rfl, hS, hl, fun _ => rfl⟩, fun base _ _ => hl T⟩

namespace My
open PySem PySem.Spec PyProof.Rows L2
/-! ### enumerate of a tuple -/
theorem meets_en1 {v : Value} {o : Obj} {Hh : Heap → Prop} (B : Begins v o Hh) : Meets (Builtin.«enumerate.__new__» ⟨[.type "enumerate", v], []⟩) (fun _ R s => Hh s.heap ∧
      R (.ok (.ret (.ref (s.heap.push o).objs.size))) { s with heap := (s.heap.push o).push { cls := .type "enumerate", data := .fields #[.none, .bool false, .ref s.heap.objs.size, rawInt 0, .none, .none] } }) :=
  .of_wp fun prog w A R s hh => by
    obtain ⟨hp, g, d, tk, os⟩ := s
    obtain ⟨hb, hr⟩ := hh
    have sub := sub_enumerate
    have qi : ∀ {A' : Around} {E : Value → Shared → Prop} {Q : Value → Shared → Prop}, Q (.ref hp.objs.size) ⟨hp.push o, g, d, tk, os⟩ → wpAny (model prog w) A' (pyIter v) Q E ⟨hp, g, d, tk, os⟩ := fun q => B.iter prog w _ _ ⟨hp, g, d, tk, os⟩ _ hb q
    wp_walk using qi
    refine wpAny_stack_any fun st => wpAny_pure ?_
    split
    · rename_i c _ _ _ _ _
      cases (c == Value.type "enumerate")
      · wp_walk using qi
        exact ⟨_, rfl, hr⟩
      · wp_walk using qi
        exact ⟨_, rfl, hr⟩
    · wp_walk using qi
      exact ⟨_, rfl, hr⟩
theorem call_en1 {prog : Program} {w : World} {A : Around} {E : Value → Shared → Prop} {s : Shared} {v : Value} {o : Obj} {Hh : Heap → Prop} {Q : Value → Shared → Prop} (B : Begins v o Hh) (hb : Hh s.heap)
    (f : ∀ h', IsEnum h' (s.heap.objs.size + 1) s.heap.objs.size 0 .none → h'.get? s.heap.objs.size = some o → (∀ b u, s.heap.get? b = some u → h'.get? b = some u) → Q (.ref (s.heap.objs.size + 1)) { s with heap := h' }) :
    wpAny (model prog w) A (call (.type "enumerate") [v]) Q E s := by
  refine callType_new PySem.F.called_enumerate (by decide) (PySem.F.typeCall_enumerate_1 _) (PySem.F.newCall_enumerate_1 _) (fun ob => PySem.F.args_object_init_2 ob _) PySem.F.entry_enumerate_new (meets_en1 B) ⟨hb, ?_⟩
  have hz : (s.heap.push o).objs.size = s.heap.objs.size + 1 := Heap.size_push ..
  have en := Heap.get?_push_size (s.heap.push o) (o := { cls := .type "enumerate", data := .fields #[.none, .bool false, .ref s.heap.objs.size, rawInt 0, .none, .none] }) rfl
  show _ ∧ _
  rw [hz] at en ⊢
  exact ⟨⟨_, en, rfl⟩, f _ en (Heap.get?_push_of_some _ (Heap.get?_push_size _ B.free)) fun b u x => Heap.get?_push_of_some _ (Heap.get?_push_of_some _ x)⟩
/-- the tuple at a, its items in new pairs -/
def ItT (K : PySem.W.Frag) (a : Addr) : It :=
  ⟨fun i H => ∃ (xs : List V) (x : V), SqT K H a xs ∧ xs[i]? = some x, fun i H v H' => ∃ T x, v = .ref T ∧ H T = none ∧ H' = upd H T (.tup [.int (i : Nat), x]) ∧ ∀ xs, SqT K H a xs → xs[i]? = some x, fun i H => ∃ xs : List V, SqT K H a xs ∧ xs.length = i⟩
theorem ti_ne {h : Heap} {it a : Addr} {i : Nat} {its : Array Value} (x : h.IsTupleIter it a i) (y : h.IsTuple a its) : a ≠ it := by
  intro e
  subst e
  obtain ⟨o, e1, c1, _⟩ := x
  obtain ⟨o', e2, c2, _⟩ := y
  rw [e1] at e2
  cases e2
  rw [c1] at c2
  injection c2 with e
  exact absurd e (by decide)
theorem turn_enumT {P : Program} {w : World} {K : PySem.W.Frag} {elts : List Expr} {kk : Nat} {tpos : Pos} (a e it : Addr) :
    Turn P w K (.Tuple elts kk tpos) (ItT K a) [e, it] e (fun i h => (∃ old, IsEnum h e it ((i : Nat) : Int) old) ∧ h.IsTupleIter it a i ∧ e ≠ it ∧ e ≠ a) where
  mem := by simp
  obj := fun i h st b hb => by
    obtain ⟨⟨old, he⟩, ⟨o, ho, hc, hd⟩, _⟩ := st
    rcases (show b = e ∨ b = it by simpa using hb) with z | z
    · rw [z]; exact ⟨_, he, fun v q => nomatch q⟩
    · rw [z]; exact ⟨o, ho, fun v q => by rw [hd] at q; cases q⟩
  keep := fun i h h' st k => let ⟨⟨old, he⟩, hi, hne⟩ := st; ⟨⟨old, k e (by simp) _ he⟩, hi.at fun o q => k it (by simp) o q, hne⟩
  item := by
    intro X hP hw hK hc i pins s σ H E I hf st hg
    subst hP hw hK
    obtain ⟨⟨old, he⟩, hit, hne, hna⟩ := st
    obtain ⟨xs, x, hq, hx⟩ := hg
    obtain ⟨its, rv, p, hz⟩ := I.tuple hq
    have pT : s.heap.IsTuple a its.toArray := p
    obtain ⟨u, hu, ru⟩ := rv.get hx
    have hel : e < s.heap.objs.size := Heap.lt_size he
    have hil : it < s.heap.objs.size := by obtain ⟨_, q, _⟩ := hit; exact Heap.lt_size q
    have hi2 : i < its.toArray.size := by
      have := (List.getElem?_eq_some_iff.mp hu).1
      simpa using this
    have DD := Draws.tuple (prog := X.prog) (w := X.w) (A := X.A.in1) (I.ok.hd hc) it a (ti_ne hit pT) its.toArray
    refine wpAny_pyNext_enum_itemC DD he ⟨hit, pT⟩ hi2 hne (by simp [hne, hna]) fun y h' tk hy ho hst hT hsz hk => ?_
    have ey : y = u := by
      have : its[i]? = some y := by simpa using hy
      rw [hu] at this
      exact (Option.some.inj this).symm
    subst ey
    refine ⟨_, rfl, wpAny_letOwnedTupleGo_enum (s := { s with heap := h', toks := tk + 1 }) ho fun h'' he' sb => ?_⟩
    have hT2 : h''.get? s.heap.objs.size = some { cls := .type "tuple", data := .seq #[.int i tk, y] } := (sb.2 _ (Nat.ne_of_gt hel)).trans hT
    have new : ObjOk X.prog X.w (upd H s.heap.objs.size (.tup [.int (i : Nat), x])) h'' s.heap.objs.size (.tup [.int (i : Nat), x]) :=
      ⟨by show 2 ≤ sizeLine; decide, [.int i tk, y], .cons ⟨_, rfl⟩ (.cons ru .nil), ⟨_, hT2, rfl, _, rfl⟩⟩
    have I1 : Inv X pins σ (upd H s.heap.objs.size (.tup [.int (i : Nat), x])) { s with heap := h'', toks := tk + 1 } :=
      I.turnedNew (ch := [e, it]) (fun b ob hb q => (sb.2 b (fun z => hb (by simp [z]))).trans (hk b ob (fun z => hb (by simp [z])) (fun z => hb (by simp [z])) q)) hf (Nat.le_refl _) new
    refine ⟨.ref s.heap.objs.size, _, I1, rfl, ⟨_, x, rfl, I.hok.fresh (Nat.le_refl _), rfl, fun ys hy => by rw [I.tuple_inj hy hq]; exact hx⟩, ⟨⟨y, ?_⟩, hst.1.at fun o q => (sb.2 it (Ne.symm hne)).trans q, hne, hna⟩, fun b hb => ?_⟩
    · have e1 : ((i + 1 : Nat) : Int) = (i : Int) + 1 := by omega
      rw [e1]; exact he'
    · have hb' : b < s.heap.objs.size := by
        rcases (show b = e ∨ b = it by simpa using hb) with z | z
        · rw [z]; exact hel
        · rw [z]; exact hil
      rw [upd_ne (Nat.ne_of_lt hb')]
      exact (hf b hb).1
  done := by
    intro X hP hw hK hc i pins s σ H E I hf st hg
    subst hP hw hK
    obtain ⟨⟨old, he⟩, hit, hne, hna⟩ := st
    obtain ⟨xs, hq, hx⟩ := hg
    obtain ⟨its, rv, p, hz⟩ := I.tuple hq
    have pT : s.heap.IsTuple a its.toArray := p
    obtain ⟨f0, f1, f2, f3, f4, f5⟩ := hf it (by simp)
    have hl := rv.length
    have hi : i = its.toArray.size := by rw [List.size_toArray]; omega
    have DD := Draws.tuple (prog := X.prog) (w := X.w) (A := X.A.in1) (I.ok.hd hc) it a (ti_ne hit pT) its.toArray
    exact wpAny_pyNext_enum_endD DD he ⟨by rw [← hi]; exact hit, pT⟩ fun h' eb => ⟨rfl, I.turned (t' := s.toks) (fun b o hb q => eb b o hb q) f0 f1 f3 f4 f5⟩
  self := fun A i s Q E st h => let ⟨⟨_, he⟩, _⟩ := st; wpAny_pyIter_enum he h
def iEnumT (K : PySem.W.Frag) (ta : TA) : TI := fun σ H R => ta σ H fun vs H1 => ∃ a xs, vs = [.ref a] ∧ SqT K H1 a xs ∧ R (ItT K a) H1
theorem pi_enumT {X : Cx} {e : Expr} {ta : TA} {p pos tpos : Pos} {elts : List Expr} {kk : Nat} (hg : Gl X "enumerate") (hm : X.mg "enumerate" = none) (ha : PA X [e] ta) (hs : starEach [e] X.env = [(false, eval e X.env)] := by rfl) :
    PI X (.Tuple elts kk tpos) (.Call (.Name "enumerate" p) [e] [] pos) (iEnumT X.K ta) := by
  refine ⟨fun pins s σ H R I h => ?_⟩
  refine Call_ (ld_blt I hg hm boot_enumerate (PyProof.Rows.callWith_type1 (thn (ha.run pos pins s σ H _ I h) fun us s1 ⟨vs, H1, I1, r1, q1⟩ => ?_) hs rfl))
  obtain ⟨a, xs, ex, hq, q⟩ := q1
  subst ex
  cases r1 with
  | cons r rr =>
    cases rr
    cases r
    obtain ⟨its, rv, p', hz⟩ := I1.tuple hq
    have pT : s1.heap.IsTuple a its.toArray := p'
    have la : a < s1.heap.objs.size := by obtain ⟨_, q, _⟩ := pT; exact Heap.lt_size q
    refine call_en1 (begins_tuple a its.toArray) pT fun h' he hit hk => wpAny_pyIter_enum he ?_
    have I2 : Inv X pins σ H1 { s1 with heap := h' } := I1.kept (t' := s1.toks) hk
    refine ⟨s1.heap.objs.size + 1, [s1.heap.objs.size + 1, s1.heap.objs.size], _, _, H1, rfl, I2, turn_enumT a (s1.heap.objs.size + 1) s1.heap.objs.size, ⟨⟨.none, he⟩, ⟨_, hit, rfl, rfl⟩, Nat.succ_ne_self _, Nat.ne_of_gt (Nat.lt_succ_of_lt la)⟩, fun b hb => ?_, q⟩
    have hle : s1.heap.objs.size ≤ b := by
      rcases (show b = s1.heap.objs.size + 1 ∨ b = s1.heap.objs.size by simpa using hb) with z | z
      · rw [z]; exact Nat.le_add_right _ _
      · rw [z]; exact Nat.le_refl _
    exact I1.fpOk hle (I1.hok.fresh hle)
theorem walk_enumT {K : PySem.W.Frag} {a : Addr} {xs : List V} : Walk (ItT K a) xs.length (fun H => SqT K H a xs) (YPair (fun i => some (.int (i : Nat))) (fun i => xs[i]?)) := by
  refine ⟨fun i _ hi q => ⟨xs, xs[i], q, by simp [hi]⟩, fun _ q => ⟨xs, q, rfl⟩, fun i H v H' _ q y => ?_⟩
  obtain ⟨T, x, h1, h2, h3, h4⟩ := y
  exact ⟨T, .int (i : Nat), x, h1, h2, h3, rfl, h4 xs q⟩
section
variable {X : Cx}
/-! ### len of an own object -/
theorem call_lenO {CX : CXT} {n : Nat} {C f : Addr} {fd : FuncData} {ps : List Str} {sp : Sp} {E : XK} (F : FnOk X.prog X.w X.K X.mg X.base CX n f fd ps sp) (hm : Meth X.K C "__len__" f) (hb : Binds X.K fd ps []) (hx : Passes CX X E) (hr : Room (n + 1) X.A) :
    CallR X (.builtin "len") (fun xs H Q => ∃ x a dx fs, xs = [x] ∧ x = .ref a ∧ H a = some (.ins C dx fs) ∧ sp [.ref a] H (fun v H' => ∃ k : Nat, v = .int (k : Int) ∧ k < 1000 ∧ Q (.int (k : Int)) H') E) := by
  intro pins s σ H xs us Q I r h
  obtain ⟨x, a, dx, fs, rfl, rfl, ha, h⟩ := h
  obtain ⟨u, rfl, r1⟩ := vals1 r
  cases (show u = Value.ref a from r1)
  obtain ⟨mA, J, _⟩ := ins_get I.hok ha
  obtain ⟨od, J, _⟩ := J.look
  obtain ⟨m, hF⟩ := I.fr
  have sb : Sub X (n + 1) X.A := ⟨hr, rfl⟩
  refine PySem.W.len_K hF I.ok.mod.kin J hm.at_ hm.fn ?_
  refine thn (fn_at F hb hx sb.in1 I (vs := [.ref a]) (.cons rfl .nil) h) fun u s' q => ?_
  obtain ⟨v, H', I', rv, k, rfl, hk, q⟩ := q
  obtain ⟨t, rfl⟩ := rv
  exact ⟨⟨by omega, by omega⟩, .int (k : Int), H', I'.tok _, ⟨_, rfl⟩, q⟩
end
/-! ### max and min with a default -/
theorem ints_depth : ∀ ns : List Int, PyData.depthAll (ns.map PyData.int) ≤ 1
  | [] => by simp [PyData.depthAll]
  | n :: ns => by
    have := ints_depth ns
    simp [PyData.depthAll, PyData.depth] at this ⊢
    omega
section
variable {X : Cx} {K : PySem.W.Frag}
theorem maxL (hK : X.K = K := by rfl) (hc : X.calm = true := by rfl) : CallR X (.builtin "max") (rMax K) := by subst hK; exact cr_max hc
theorem minL (hK : X.K = K := by rfl) (hc : X.calm = true := by rfl) : CallR X (.builtin "min") (rMin K) := by subst hK; exact cr_min hc
/-! ### xs[::k] -/
def rTupL (K : PySem.W.Frag) : List V → Hp → VK → Prop := fun xs H Q => ∃ (p : Addr) (ys : List V), xs = [.ref p] ∧ SqL K H p ys ∧ ∀ l, H l = none → Q (.ref l) (upd H l (.tup ys))
theorem tupleL (hK : X.K = K := by rfl) : CallR X (.type "tuple") (rTupL K) := by
  subst hK
  intro pins s σ H xs us Q I r h
  obtain ⟨p, ys, e, h1, h2⟩ := h
  exact call_tuple_of pins s σ H xs us Q I r ⟨p, ys, e, .inl ⟨h1, h2⟩⟩
def rListOf (K : PySem.W.Frag) : List V → Hp → VK → Prop := fun xs H Q => ∃ (p : Addr) (ys : List V), xs = [.ref p] ∧ (SqL K H p ys ∨ SqT K H p ys) ∧ ∀ l, H l = none → Q (.ref l) (upd H l (.lst ys))
theorem listOf (hK : X.K = K := by rfl) : CallR X (.type "list") (rListOf K) := by
  subst hK
  exact call_list_of
theorem walk_zipT {a b : Addr} {xs ys : List V} {n : Nat} (hn : n = min xs.length ys.length) : Walk (RZ.ItzT K a b) n (fun H => SqT K H a xs ∧ SqT K H b ys) (YPair (fun i => xs[i]?) (fun i => ys[i]?)) := by
  subst hn
  refine ⟨fun i _ hi q => ?_, fun _ q => ⟨xs, ys, q.1, q.2, by omega⟩, fun i H v H' _ q y => ?_⟩
  · have h1 : i < xs.length := by omega
    have h2 : i < ys.length := by omega
    exact ⟨xs, ys, xs[i], ys[i], q.1, q.2, by simp [h1], by simp [h2]⟩
  · obtain ⟨T, x, z, h1, h2, h3, h4, h5⟩ := y
    exact ⟨T, x, z, h1, h2, h3, h4 xs q.1, h5 ys q.2⟩
end
theorem logS {m : Int} (h : m.natAbs < 2 ^ 60) : m.natAbs.log2 < 9000 := Nat.lt_of_lt_of_le (PySem.Flt.log2_lt_of (by decide) h) (by decide)
theorem szl {n : Nat} (h : n ≤ 1000) : n ≤ sizeLine := Nat.le_trans h (by decide)
theorem szb {n : Nat} (h : Nat.ble n 1000 = true) : n ≤ sizeLine := szl (Nat.le_of_ble_eq_true h)
theorem szs {n : Nat} (h : n < 1000) : n < sizeLine := Nat.lt_of_lt_of_le h (by decide)
theorem atI_end {xs : List V} {n : Nat} {v : V} (hn : n + 1 = xs.length) (h : xs[n]? = some v) : atI xs (-1) = some v := by
  have e : ixN xs.length (-1) = some n := by
    unfold ixN
    rw [if_neg (by decide), if_pos (by omega)]
    exact congrArg some (by omega)
  unfold atI
  rw [e]
  exact h
theorem qmk_pos {a b : Int} (h : 0 < b) : qmk a b = (a, b) := by
  have e : sgn b = 1 := by unfold sgn; rw [if_pos h]
  unfold qmk
  rw [e, Int.mul_one, Int.mul_one]
/-- a Measure is made -/
theorem q_made {C : Addr} {H : Hp} {Qa : Addr → Hp → Prop} {E : XK} {k : Nat} {a b : Int} (hb : 0 < b) (sa : Sz k a) (sb : Sz k b) (k0 : 0 < k) (k1 : k ≤ 8900) (f : ∀ (p : Addr) (H' : Hp), Same H H' → QAt C H' p k (a, b) → Qa p H') :
    ∀ x dx, H x = none → H dx = none → dx ≠ x → sp_minit C [.ref x, .int a, .int b] (upd (upd H dx (.own x)) x (.ins C dx [])) (fun v H2 => v = .non ∧ Qa x H2) E := by
  intro x dx nx nd ne
  refine ⟨x, dx, a, b, rfl, upd_same, by omega, Sz.log sb k0 (by omega), fun t u H' fr hx kp => ⟨rfl, ?_⟩⟩
  have q := q_mk (k := k) ⟨dx, hx⟩ fr (by omega) sa sb
  rw [qmk_pos hb] at q
  exact f x H' (made_same nx nd kp) q
/-! ### draws -/
end My
namespace My
open PySem PySem.Spec PyProof.Rows L2
theorem HandAt.put {H : Hp} {h l : Addr} {u : HO} {n : Nat} (a : HandAt H h n) (ne : l ≠ h) : HandAt (upd H l u) h n := by
  obtain ⟨x, y, z, h1, h2⟩ := a
  exact ⟨x, y, z, by rw [upd_ne ne.symm]; exact h1, h2⟩
theorem Kp.fresh {h l : Addr} {H H1 : Hp} (k : Kp h H H1) (hn : H1 l = none) (ne : l ≠ h) : H l = none := by
  cases e : H l with
  | none => rfl
  | some o => rw [k l o e ne] at hn; cases hn
theorem Kp.putN {h l : Addr} {H H1 : Hp} {u : HO} (k : Kp h H H1) (hn : H l = none) : Kp h H (upd H1 l u) := fun c o e n => by
  rw [upd_ne (ne_of_none e hn)]; exact k c o e n
theorem geI {n : Nat} {zs : List Int} (h : n < zs.length) : ∃ a, zs[n]? = some a := ⟨_, List.getElem?_eq_getElem h⟩
theorem mapI {ms : List Int} {n : Nat} {a : Int} (h : ms[n]? = some a) : (ms.map V.int)[n]? = some (.int a) := by rw [List.getElem?_map, h]; rfl
def optZ : Option Int → V
  | none => .non
  | some z => .int z
/-- a ladder in whole parts, as the laws draw it -/
structure LawL (H : Hp) (p : Addr) (part : Int) (ms : List Int) (r : Str) (lo hi : Option Int) : Prop where
  ob : ∃ T, H p = some (.tup [.int part, .ref T, .str r, optZ lo, optZ hi]) ∧ H T = some (.tup (ms.map V.int))
  p0 : 0 < part
  p1 : part ≤ 10007
  len0 : 0 < ms.length
  len1 : ms.length ≤ 24
  rise : ∀ (i : Nat) (a b : Int), ms[i]? = some a → ms[i + 1]? = some b → a < b
  four : ∀ m ∈ ms, m % 4 = 0
  bnd : ∀ m ∈ ms, -4000000 ≤ m ∧ m ≤ 4000000
  blo : ∀ z, lo = some z → -4000040 ≤ z ∧ z ≤ 4000040
  bhi : ∀ z, hi = some z → -4000040 ≤ z ∧ z ≤ 4000040
  rule : IsRule r
  span : ∀ a b, lo = some a → hi = some b → a ≤ b
section
variable {H H' : Hp} {p : Addr} {part : Int} {ms : List Int} {r : Str} {lo hi : Option Int}
theorem LawL.same (a : LawL H p part ms r lo hi) (s : Same H H') : LawL H' p part ms r lo hi := by
  obtain ⟨⟨T, h1, h2⟩, a1⟩ := a
  exact ⟨⟨T, s _ _ h1, s _ _ h2⟩, by assumption, by assumption, by assumption, by assumption, by assumption, by assumption, by assumption, by assumption, by assumption, by assumption, by assumption⟩
/-- the parts as fractions -/
def zq (d : Int) (ms : List Int) : List Q2 := ms.map fun m => (m, d)
def oq (d : Int) (o : Option Int) : Option Q2 := o.map fun m => (m, d)
theorem zq_get {d : Int} {ms : List Int} {i : Nat} {z : Q2} (h : (zq d ms)[i]? = some z) : ∃ m, ms[i]? = some m ∧ z = (m, d) := by
  unfold zq at h
  rw [List.getElem?_map] at h
  cases e : ms[i]? with
  | none => rw [e] at h; cases h
  | some m => rw [e] at h; exact ⟨m, rfl, (Option.some.inj h).symm⟩
theorem ltq_d {d a b : Int} (h : 0 < d) : ltq (a, d) (b, d) = decide (a < b) := by
  unfold ltq
  refine decide_eq_decide.mpr ⟨fun z => Int.lt_of_mul_lt_mul_right z (Int.le_of_lt h), fun z => Int.mul_lt_mul_of_pos_right z h⟩
theorem LawL.riseQ (a : LawL H p part ms r lo hi) : RiseQ (zq (4 * part) ms) := by
  intro i x y hx hy
  obtain ⟨m, hm, rfl⟩ := zq_get hx
  obtain ⟨m', hm', rfl⟩ := zq_get hy
  have := a.p0
  rw [ltq_d (by omega)]
  exact decide_eq_true (a.rise i m m' hm hm')
theorem LawL.spanQ (a : LawL H p part ms r lo hi) : spanB (oq (4 * part) lo) (oq (4 * part) hi) = true := by
  cases lo with
  | none => cases hi <;> rfl
  | some x =>
    cases hi with
    | none => rfl
    | some y =>
      have := a.p0
      have h := a.span x y rfl rfl
      show (!ltq (y, 4 * part) (x, 4 * part)) = true
      rw [ltq_d (by omega), decide_eq_false (by omega)]
      rfl
end
/-- whole numbers within a bound -/
def IntsB (B : Int) (xs : List V) : Prop := ∀ x ∈ xs, ∃ z : Int, x = .int z ∧ -B ≤ z ∧ z ≤ B
theorem IntsB.app {B : Int} {xs ys : List V} (a : IntsB B xs) (b : IntsB B ys) : IntsB B (xs ++ ys) := fun x h => by
  rcases List.mem_append.mp h with h | h
  · exact a x h
  · exact b x h
theorem IntsB.mono {B B' : Int} {xs : List V} (a : IntsB B xs) (l : B ≤ B') : IntsB B' xs := fun x h => by
  obtain ⟨z, e, h1, h2⟩ := a x h
  exact ⟨z, e, by omega, by omega⟩
theorem IntsB.ints {B : Int} : ∀ {xs : List V}, IntsB B xs → ∃ ys : List Int, xs = ys.map V.int ∧ ∀ y ∈ ys, -B ≤ y ∧ y ≤ B
  | [], _ => ⟨[], rfl, fun y h => by simp at h⟩
  | x :: xs, a => by
    obtain ⟨z, rfl, h1⟩ := a x (by simp)
    obtain ⟨ys, e, h2⟩ := IntsB.ints (xs := xs) fun w hw => a w (by simp [hw])
    refine ⟨z :: ys, by rw [e]; rfl, fun y hy => ?_⟩
    rcases List.mem_cons.mp hy with e | e
    · rw [e]; exact h1
    · exact h2 y e
theorem IntsB.of {B : Int} {ms : List Int} (h : ∀ m ∈ ms, -B ≤ m ∧ m ≤ B) : IntsB B (ms.map V.int) := fun x hx => by
  obtain ⟨m, hm, rfl⟩ := List.mem_map.mp hx
  exact ⟨m, rfl, h m hm⟩
/-! ### sizes by whole numbers -/
abbrev RiseI (ms : List Int) : Prop := ∀ (i : Nat) (a b : Int), ms[i]? = some a → ms[i + 1]? = some b → a < b
theorem RiseI.tail {x : Int} {ms : List Int} (h : RiseI (x :: ms)) : RiseI ms := fun i a b h1 h2 => h (i + 1) a b (by simpa using h1) (by simpa using h2)
theorem RiseI.head : ∀ {ms : List Int} {x : Int}, RiseI (x :: ms) → ∀ m ∈ ms, x < m
  | [], _, _, m, hm => by simp at hm
  | y :: ms, x, h, m, hm => by
    have h0 : x < y := h 0 x y rfl rfl
    rcases List.mem_cons.mp hm with e | e
    · rw [e]; exact h0
    · have := RiseI.head h.tail m e
      omega
theorem RiseI.lt {ms : List Int} (h : RiseI ms) : ∀ {j : Nat} {i : Nat} {a b : Int}, i < j → ms[i]? = some a → ms[j]? = some b → a < b
  | 0, _, _, _, hi, _, _ => by omega
  | j + 1, i, a, b, hi, ha, hb => by
    obtain ⟨c, hc⟩ := geI (zs := ms) (n := j) (by have := (List.getElem?_eq_some_iff.mp hb).1; omega)
    have h1 := h j c b hc hb
    by_cases e : i = j
    · subst e
      rw [ha] at hc
      cases hc
      exact h1
    · have := RiseI.lt h (show i < j by omega) ha hc
      omega
section
variable {ms : List Int} {d z : Int} {lo hi : Option Q2}
end
theorem rep_fm (n : Nat) : (List.replicate n (some (V.bl true))).filterMap _root_.id = (List.replicate n true).map V.bl := by
  induction n with
  | zero => rfl
  | succ n ih => rw [List.replicate_succ, List.replicate_succ]; simpa using ih
theorem rep_all (n : Nat) : (List.replicate n true).all _root_.id = true := by
  induction n with
  | zero => rfl
  | succ n ih => rw [List.replicate_succ]; simpa using ih
/-- the numbers from 0 on of which c holds -/
def idx (n : Nat) (c : Nat → Bool) : List Int := ((List.range n).filter c).map fun k : Nat => (k : Int)
theorem idx_mem {n : Nat} {c : Nat → Bool} {m : Int} : m ∈ idx n c ↔ ∃ k : Nat, k < n ∧ c k = true ∧ m = k := by
  unfold idx
  simp only [List.mem_map, List.mem_filter, List.mem_range]
  exact ⟨fun ⟨k, ⟨h1, h2⟩, h3⟩ => ⟨k, h1, h2, h3.symm⟩, fun ⟨k, h1, h2, h3⟩ => ⟨k, ⟨h1, h2⟩, h3.symm⟩⟩
def oIdx (n : Nat) (c : Nat → Bool) : List (Option V) := (List.range n).map fun k => if c k then some (.int (k : Int)) else none
theorem oIdx_len (n : Nat) (c : Nat → Bool) : (oIdx n c).length = n := by unfold oIdx; simp
theorem oIdx_get {n i : Nat} {c : Nat → Bool} {z : Option V} (h : (oIdx n c)[i]? = some z) : z = if c i then some (.int (i : Int)) else none := by
  unfold oIdx at h
  rw [List.getElem?_map] at h
  by_cases hi : i < n
  · rw [List.getElem?_range hi] at h
    exact (Option.some.inj h).symm
  · rw [List.getElem?_eq_none (by simpa using hi)] at h
    cases h
theorem oIdx_fm (n : Nat) (c : Nat → Bool) : (oIdx n c).filterMap _root_.id = (idx n c).map V.int := by
  unfold oIdx idx
  rw [List.filterMap_map, List.map_map]
  generalize List.range n = l
  induction l with
  | nil => rfl
  | cons x l ih =>
    rw [List.filterMap_cons, List.filter_cons]
    cases e : c x
    · simpa [e] using ih
    · simpa [e] using ih
/-! ### what the laws' own defs promise -/
end My
namespace My
open PySem PySem.Spec PyProof.Rows L2
/-! ### the stretches of a ladder's sizes -/
section
variable {X : Cx} {K : PySem.W.Frag}
/-- an item of a list or a tuple -/
def rIxLT (K : PySem.W.Frag) : R2 := fun x y H Q => ∃ (p : Addr) (xs : List V) (i : Int) (v : V), x = .ref p ∧ y = .int i ∧ (SqL K H p xs ∨ SqT K H p xs) ∧ atI xs i = some v ∧ Q v H
theorem ixs (hK : X.K = K := by rfl) : IxR X (rIxLT K) := by
  subst hK
  intro value slice pins s σ H x y v u Q I rx ry h hs
  obtain ⟨p, xs, i, w, e1, e2, hq | hq, h3, h4⟩ := h
  · exact ix_list value slice pins s σ H x y v u Q I rx ry ⟨p, xs, i, w, e1, e2, hq, h3, h4⟩ hs
  · exact ix_tup value slice pins s σ H x y v u Q I rx ry ⟨p, xs, i, w, e1, e2, hq, h3, h4⟩ hs
end
def endQ (zs : List Q2) (i : Int) : Option Q2 := if 0 ≤ i ∧ i < zs.length then zs[i.toNat]? else none
/-- both ends of a size by the rule alone, and whether they are in -/
def rulE (zs : List Q2) (r : Str) (n : Nat) : (Option Q2 × Bool) × (Option Q2 × Bool) :=
  if r = "up" then ((endQ zs ((n : Int) - 1), false), (zs[n]?, true)) else if r = "down" then ((zs[n]?, true), (endQ zs ((n : Int) + 1), false)) else ((endQ (midq zs) ((n : Int) - 1), true), (endQ (midq zs) n, false))
/-- a Stretch whose ends are these fractions -/
def StQ (CM CS : Addr) (H : Hp) (p : Addr) (x y : Option Q2 × Bool) : Prop := ∃ lo hi, StAt CM CS H p lo hi (x.2 && x.1.isSome) (y.2 && y.1.isSome) ∧ ReO lo x.1 ∧ ReO hi y.1
theorem StQ.same {CM CS p : Addr} {H H' : Hp} {x y : Option Q2 × Bool} (a : StQ CM CS H p x y) (s : Same H H') : StQ CM CS H' p x y := by
  obtain ⟨lo, hi, h1, h2, h3⟩ := a
  exact ⟨lo, hi, h1.same s, h2, h3⟩
def CutQ (CM CS : Addr) (H : Hp) (v : V) (x y : Option Q2 × Bool) : Prop := ∃ x' y', CutV CM CS H v x' y' ∧ Alike x' x ∧ Alike y' y
theorem CutQ.same {CM CS : Addr} {H H' : Hp} {v : V} {x y : Option Q2 × Bool} (a : CutQ CM CS H v x y) (s : Same H H') : CutQ CM CS H' v x y := by
  obtain ⟨x', y', h1, h2, h3⟩ := a
  exact ⟨x', y', h1.same s, h2, h3⟩
/-- both ends of a size's stretch -/
def sizE (zs : List Q2) (r : Str) (lo hi : Option Q2) (n : Nat) : (Option Q2 × Bool) × (Option Q2 × Bool) :=
  (cutLo (rulE zs r n).1.1 (rulE zs r n).1.2 lo true, cutHi (rulE zs r n).2.1 (rulE zs r n).2.2 hi true)
def sp_endat (K : PySem.W.Frag) (CM : Addr) : Sp := fun vs H Q _ => ∃ (T : Addr) (k : Nat) (ps : List V) (zs : List Q2) (i : Int), vs = [.ref T, .int i] ∧ (SqL K H T ps ∨ SqT K H T ps) ∧ Mks CM H k ps zs ∧ ∀ v, QO CM H k v (endQ zs i) → Q v H
def sp_strR (K : PySem.W.Frag) (CM CS : Addr) : Sp := fun vs H Q _ => ∃ (T : Addr) (k : Nat) (ps : List V) (zs : List Q2) (r : Str) (n : Nat), vs = [.ref T, .str r, .int n] ∧ SqT K H T ps ∧ Mks CM H k ps zs ∧ 0 < k ∧ k ≤ 1000 ∧ zs.length ≤ 24 ∧ n < zs.length ∧ RiseQ zs ∧
  ∀ (p : Addr) (H' : Hp), Same H H' → StQ CM CS H' p (rulE zs r n).1 (rulE zs r n).2 → Q (.ref p) H'
def sp_hassz (K : PySem.W.Frag) (CM CL : Addr) : Sp := fun vs H Q _ => ∃ (p : Addr) (k : Nat) (zs : List Q2) (r : Str) (lo hi : Option Q2) (n : Nat), vs = [.ref p, .int n] ∧ LadAt K CM CL H p k zs r lo hi ∧ n < zs.length ∧ Q (.bl true) H
def sp_llen (K : PySem.W.Frag) (CM CL : Addr) : Sp := fun vs H Q _ => ∃ (p : Addr) (k : Nat) (zs : List Q2) (r : Str) (lo hi : Option Q2), vs = [.ref p] ∧ LadAt K CM CL H p k zs r lo hi ∧ Q (.int (zs.length : Nat)) H
def sp_stretch (K : PySem.W.Frag) (CM CL CS : Addr) : Sp := fun vs H Q _ => ∃ (p : Addr) (k : Nat) (zs : List Q2) (r : Str) (lo hi : Option Q2) (n : Nat), vs = [.ref p, .int n] ∧ LadAt K CM CL H p k zs r lo hi ∧ 0 < k ∧ k ≤ 1000 ∧ n < zs.length ∧
  ∀ (v : V) (H' : Hp), Same H H' → CutQ CM CS H' v (sizE zs r lo hi n).1 (sizE zs r lo hi n).2 → Q v H'
/-! between neighbours there is something -/
theorem some_lt {a b : Q2} {i j : Bool} (h : ltq a b = true) : someB (some a) (some b) i j = true := by
  unfold someB
  first
    | (rw [h]; rfl)
    | (simp [h])
theorem mids_lt {a b c : Q2} (ha : 0 < a.2) (hb : 0 < b.2) (hc : 0 < c.2) (h1 : ltq a b = true) (h2 : ltq b c = true) : ltq (qhalf a b) (qhalf b c) = true := by
  have e1 := (half_lo ha hb).2.1
  have e2 := (half_lo hb hc).1
  rw [h1] at e1
  rw [h2] at e2
  have p1 : 0 < (qhalf a b).2 := by rw [qhalf_eq]; exact Int.mul_pos (Int.mul_pos ha hb) (by decide)
  have p2 : 0 < (qhalf b c).2 := by rw [qhalf_eq]; exact Int.mul_pos (Int.mul_pos hb hc) (by decide)
  exact ltq_trans hb p1 p2 e1 e2
theorem stq_made {CM CS : Addr} {H : Hp} {Qa : Addr → Hp → Prop} {E : XK} {k j : Nat} {l h : V} {a b : Option Q2} {ia ib : Bool} (ql : QO CM H k l a) (qh : QO CM H j h b) (hk : k ≤ 4000) (hj : j ≤ 4000) (so : someB a b ia ib = true)
    (f : ∀ (p : Addr) (H' : Hp), Same H H' → StQ CM CS H' p (a, ia) (b, ib) → Qa p H') :
    ∀ x dx, H x = none → H dx = none → dx ≠ x → sp_sinit CM CS [.ref x, l, h, .bl ia, .bl ib] (upd (upd H dx (.own x)) x (.ins CS dx [])) (fun v H2 => v = .non ∧ Qa x H2) E := by
  intro x dx nx nd ne
  obtain ⟨lo, m1, l1, r1⟩ := ql.low hk
  obtain ⟨hi, m2, l2, r2⟩ := qh.low hj
  have s0 : Same H (upd (upd H dx (.own x)) x (.ins CS dx [])) := fun c o e => by
    rw [upd_ne (ne_of_none e nx)]
    exact up1 nd e
  refine ⟨x, dx, l, h, lo, hi, ia, ib, rfl, upd_same, m1.same s0, m2.same s0, l1, l2, by rw [someB_congr r1 r2]; exact so, fun H' hx kp => ⟨rfl, ?_⟩⟩
  have s1 : Same H H' := made_same nx nd kp
  refine f x H' s1 ⟨lo, hi, ?_, r1, r2⟩
  have z := StAt.mk' (CM := CM) hx s1 m1 m2 l1 l2
  rw [r1.isS, r2.isS] at z
  exact z
theorem some_tt {lo hi : Option Q2} (h : spanB lo hi = true) : someB lo hi true true = true := by
  cases lo with
  | none => cases hi <;> rfl
  | some a =>
    cases hi with
    | none => rfl
    | some b =>
      have h' : ltq b a = false := by simpa [spanB] using h
      have t := lt_tri a b
      rw [h'] at t
      unfold someB
      rcases t with ⟨t1, t2, _⟩ | ⟨t1, t2, _⟩ | ⟨_, _, t3⟩
      · simp [t1, t2]
      · simp [t1, t2]
      · cases t3
/-- the fractions' bottoms are above nought -/
def PosL (zs : List Q2) : Prop := ∀ z ∈ zs, 0 < z.2
theorem Mks.posL {C : Addr} {H : Hp} {k : Nat} {ps : List V} {zs : List Q2} (m : Mks C H k ps zs) : PosL zs := fun z hz => by
  obtain ⟨i, hi⟩ := List.mem_iff_getElem?.mp hz
  obtain ⟨p, _, q⟩ := m.at hi
  exact q.pos
theorem endQ_in {zs : List Q2} {i : Int} {n : Nat} (e : i = (n : Int)) : endQ zs i = zs[n]? := by
  subst e
  unfold endQ
  by_cases h : n < zs.length
  · rw [if_pos (by omega)]; rfl
  · rw [if_neg (by omega)]
    exact (List.getElem?_eq_none (by omega)).symm
theorem endQ_none {zs : List Q2} {i : Int} (h : i < 0) : endQ zs i = none := by
  unfold endQ
  rw [if_neg (by omega)]
theorem some_up {zs : List Q2} {n : Nat} (hr : RiseQ zs) {i j : Bool} : someB (endQ zs ((n : Int) - 1)) zs[n]? i j = true := by
  cases n with
  | zero => rw [endQ_none (by omega)]; rfl
  | succ n =>
    rw [endQ_in (n := n) (by omega)]
    cases e1 : zs[n]? with
    | none => rfl
    | some a =>
      cases e2 : zs[n + 1]? with
      | none => rfl
      | some b => exact some_lt (hr n a b e1 e2)
theorem some_dn {zs : List Q2} {n : Nat} (hr : RiseQ zs) {i j : Bool} : someB zs[n]? (endQ zs ((n : Int) + 1)) i j = true := by
  rw [endQ_in (n := n + 1) (by omega)]
  cases e1 : zs[n]? with
  | none => rfl
  | some a =>
    cases e2 : zs[n + 1]? with
    | none => rfl
    | some b => exact some_lt (hr n a b e1 e2)
theorem midq_rise {zs : List Q2} (hr : RiseQ zs) (hp : PosL zs) : RiseQ (midq zs) := by
  intro i x y hx hy
  have l := (List.getElem?_eq_some_iff.mp hy).1
  rw [midq_len] at l
  obtain ⟨a, ha⟩ := ge2 (zs := zs) (n := i) (by omega)
  obtain ⟨b, hb⟩ := ge2 (zs := zs) (n := i + 1) (by omega)
  obtain ⟨c, hc⟩ := ge2 (zs := zs) (n := i + 1 + 1) (by omega)
  rw [midq_get zs i a b ha hb] at hx
  rw [midq_get zs (i + 1) b c hb hc] at hy
  cases hx; cases hy
  exact mids_lt (hp a (List.mem_of_getElem? ha)) (hp b (List.mem_of_getElem? hb)) (hp c (List.mem_of_getElem? hc)) (hr i a b ha hb) (hr (i + 1) b c hb hc)
theorem some_nr {zs : List Q2} {n : Nat} (hr : RiseQ zs) {i j : Bool} : someB (endQ zs ((n : Int) - 1)) (endQ zs (n : Int)) i j = true := by
  rw [endQ_in (n := n) rfl]
  exact some_up hr
end My
namespace My
open PySem PySem.Spec PyProof.Rows L2
/-! ### defs that are called where no text of a list or tuple is under way -/
section
variable {P : Program} {w : World} {K : PySem.W.Frag} {mg : Str → Option Value} {base : Heap} {x qual : Str} {params : Arguments} {body : List Stmt} {scope : Scope} {dvs : List V} {kws : List (Str × V)} {f : Addr} {fd : FuncData}
end
section
variable {X : Cx} {CX : CXT} {k : Nat} {f : Addr} {fd : FuncData} {ps : List Str} {sp : Sp} {dvs : List V} {ds : List Value} {E : XK} {x : Str} {p pos : Pos} {e : Expr} {es : List Expr} {t : TA}
end
/-! ### the law is called where none is under way -/
end My
namespace My
open PySem PySem.Spec PyProof.Rows L2
/-! ### tuples: sums and slices, whatever their lengths -/
section
variable {X : Cx} {K : PySem.W.Frag}
def rCatU (K : PySem.W.Frag) : R2 := fun x y H Q => ∃ (a b : Addr) (xs ys : List V), x = .ref a ∧ y = .ref b ∧ SqT K H a xs ∧ SqT K H b ys ∧ xs.length + ys.length ≤ sizeLine ∧ ∀ (p : Addr) (H' : Hp), Same H H' → SqT K H' p (xs ++ ys) → Q (.ref p) H'
theorem catU (hK : X.K = K := by rfl) : OpR X (binaryOp .Add) (rCatU K) := by
  subst hK
  intro pins s σ H x y v u Q I rx ry h
  obtain ⟨a, b, xs, ys, e1, e2, ha, hb, hz, q⟩ := h
  refine op_catA pins s σ H x y v u Q I rx ry ⟨a, b, xs, ys, e1, e2, ha, hb, hz, fun e => q b H (Same.refl _) ?_, fun _ e => q a H (Same.refl _) ?_, fun _ _ p np => q p _ (same1 np) (SqT.of upd_same)⟩
  · rw [e]; exact hb
  · rw [e, List.append_nil]; exact ha
def rSlU (K : PySem.W.Frag) : V → Option Int → Option Int → Hp → VK → Prop := fun x lo hi H Q => ∃ (a : Addr) (xs : List V), x = .ref a ∧ SqT K H a xs ∧ ∀ (p : Addr) (H' : Hp), Same H H' → SqT K H' p (cutV xs lo hi) → Q (.ref p) H'
theorem slU (hK : X.K = K := by rfl) : SlR X (rSlU K) := by
  subst hK
  intro pins s σ H x v vl vu lo hi sl Q I rx hs pl pu h
  obtain ⟨a, xs, e1, hx, q⟩ := h
  refine sl_tupA pins s σ H x v vl vu lo hi sl Q I rx hs pl pu ⟨a, xs, e1, hx, fun e => q a H (Same.refl _) ?_, fun _ p np => q p _ (same1 np) (SqT.of upd_same)⟩
  have e2 : cutV xs lo hi = xs := by
    unfold cutV
    rw [e.1, e.2, List.drop_zero, Nat.sub_zero, List.take_length]
  rw [e2]
  exact hx
end
theorem cutV_take (xs : List V) {i : Int} {n : Nat} (e : i = (n : Int)) : cutV xs none (some i) = xs.take n := by
  subst e
  unfold cutV
  rw [HT.sIx_none, HT.sIx_nat, List.drop_zero, Nat.sub_zero]
  by_cases h : n ≤ xs.length
  · rw [Nat.min_eq_left h]
  · rw [Nat.min_eq_right (by omega), List.take_length, List.take_of_length_le (by omega)]
theorem cutV_drop (xs : List V) {i : Int} {n : Nat} (e : i = (n : Int)) : cutV xs (some i) none = xs.drop n := by
  subst e
  unfold cutV
  rw [HT.sIx_none, HT.sIx_nat]
  by_cases h : n ≤ xs.length
  · rw [Nat.min_eq_left h, List.take_of_length_le (by rw [List.length_drop]; omega)]
  · rw [Nat.min_eq_right (by omega), Nat.sub_self, List.take_zero, List.drop_eq_nil_of_le (by omega)]
theorem Mks.cut {C : Addr} {H : Hp} {k : Nat} {ps : List V} {zs : List Q2} (m : Mks C H k ps zs) (n : Nat) : Mks C H k (ps.take n ++ ps.drop (n + 1)) (zs.take n ++ zs.drop (n + 1)) := by
  have l := m.len
  refine ⟨by simp only [List.length_append, List.length_take, List.length_drop]; omega, fun i v z h1 h2 => ?_⟩
  by_cases hi : i < n ∧ i < ps.length
  · rw [List.getElem?_append_left (by rw [List.length_take]; omega), List.getElem?_take_of_lt hi.1] at h1
    rw [List.getElem?_append_left (by rw [List.length_take]; omega), List.getElem?_take_of_lt hi.1] at h2
    exact m.all i v z h1 h2
  · rw [List.getElem?_append_right (by rw [List.length_take]; omega), List.getElem?_drop] at h1
    rw [List.getElem?_append_right (by rw [List.length_take]; omega), List.getElem?_drop] at h2
    have e : (ps.take n).length = (zs.take n).length := by rw [List.length_take, List.length_take, l]
    rw [e] at h1
    exact m.all _ v z h1 h2
/-! ### rows, as the laws draw them -/
structure RowsL (H : Hp) (p : Addr) (part : Int) (ts : List Int) : Prop where
  ob : ∃ T, H p = some (.tup [.int part, .ref T]) ∧ H T = some (.tup (ts.map V.int))
  p0 : 0 < part
  p1 : part ≤ 10007
  len0 : 0 < ts.length
  len1 : ts.length ≤ 24
  bnd : ∀ t ∈ ts, -2000000 ≤ t ∧ t ≤ 2000000
theorem RowsL.same {H H' : Hp} {p : Addr} {part : Int} {ts : List Int} (a : RowsL H p part ts) (s : Same H H') : RowsL H' p part ts := by
  obtain ⟨⟨T, h1, h2⟩, a1, a2, a3, a4, a5⟩ := a
  exact ⟨⟨T, s _ _ h1, s _ _ h2⟩, a1, a2, a3, a4, a5⟩
/-! ### tuples of whole numbers as data -/
def intsD (zs : List Int) : PyData := .tuple (zs.map PyData.int)
theorem dpI {K : PySem.W.Frag} {H : Hp} : ∀ zs : List Int, DpAll K H (zs.map V.int) (zs.map PyData.int)
  | [] => .nil
  | z :: zs => .cons (.int z) (dpI zs)
theorem dpT {K : PySem.W.Frag} {H : Hp} {p : Addr} {zs : List Int} (h : H p = some (.tup (zs.map V.int))) : Dp K H (.ref p) (intsD zs) := .tup (SqT.of h) (dpI zs)
end My
namespace My
open PySem PySem.Spec PyProof.Rows L2
/-! ### a list or a tuple, walked -/
section
variable {X : Cx} {tg : Expr}
end
/-- a def that calls itself, ahead of its own promise -/
theorem fn_never {P : Program} {w : World} {K : PySem.W.Frag} {mg : Str → Option Value} {base : Heap} {CX : CXT} {k : Nat} {f : Addr} {fd : FuncData} {ps : List Str} : FnOk P w K mg base CX k f fd ps (fun _ _ _ _ => False) :=
  ⟨fun _ _ _ _ h => h.elim, fun _ _ _ _ _ _ _ _ _ _ _ _ _ h => h.elim⟩
/-! ### fractions as pairs of whole numbers -/
def TQ (H : Hp) (v : V) (k : Nat) (z : Q2) : Prop := ∃ p, v = .ref p ∧ H p = some (.tup [.int z.1, .int z.2]) ∧ 0 < z.2 ∧ Sz k z.1 ∧ Sz k z.2
section
variable {H H' : Hp} {v : V} {k j : Nat} {z : Q2}
theorem TQ.same (a : TQ H v k z) (s : Same H H') : TQ H' v k z := by
  obtain ⟨p, h1, h2, h3⟩ := a
  exact ⟨p, h1, s _ _ h2, h3⟩
theorem TQ.nl (a : TQ H v k z) (s : Nl H H') : TQ H' v k z := by
  obtain ⟨p, h1, h2, h3⟩ := a
  exact ⟨p, h1, s _ _ h2 rfl, h3⟩
theorem TQ.kp {h : Addr} {n : Nat} (a : TQ H v k z) (hh : HandAt H h n) (s : Kp h H H') : TQ H' v k z := by
  obtain ⟨p, h1, h2, h3⟩ := a
  exact ⟨p, h1, s.get hh h2 rfl, h3⟩
theorem TQ.mono (a : TQ H v k z) (l : k ≤ j) : TQ H v j z := by
  obtain ⟨p, h1, h2, h3, h4, h5⟩ := a
  exact ⟨p, h1, h2, h3, h4.mono l, h5.mono l⟩
theorem TQ.pos (a : TQ H v k z) : 0 < z.2 := by
  obtain ⟨p, h1, h2, h3, h4, h5⟩ := a
  exact h3
theorem TQ.mk {p : Addr} {a b : Int} (h : H p = some (.tup [.int a, .int b])) (hb : 0 < b) (s1 : Sz k a) (s2 : Sz k b) : TQ H (.ref p) k (a, b) := ⟨p, rfl, h, hb, s1, s2⟩
end
structure Tqs (H : Hp) (k : Nat) (vs : List V) (zs : List Q2) : Prop where
  len : vs.length = zs.length
  all : ∀ (i : Nat) (v : V) (z : Q2), vs[i]? = some v → zs[i]? = some z → TQ H v k z
section
variable {H H' : Hp} {k j : Nat} {vs : List V} {zs : List Q2}
theorem Tqs.same (m : Tqs H k vs zs) (s : Same H H') : Tqs H' k vs zs := ⟨m.len, fun i v z h1 h2 => (m.all i v z h1 h2).same s⟩
theorem Tqs.nl (m : Tqs H k vs zs) (s : Nl H H') : Tqs H' k vs zs := ⟨m.len, fun i v z h1 h2 => (m.all i v z h1 h2).nl s⟩
theorem Tqs.kp {h : Addr} {n : Nat} (m : Tqs H k vs zs) (hh : HandAt H h n) (s : Kp h H H') : Tqs H' k vs zs := ⟨m.len, fun i v z h1 h2 => (m.all i v z h1 h2).kp hh s⟩
theorem Tqs.mono (m : Tqs H k vs zs) (l : k ≤ j) : Tqs H j vs zs := ⟨m.len, fun i v z h1 h2 => (m.all i v z h1 h2).mono l⟩
theorem Tqs.at (m : Tqs H k vs zs) {i : Nat} {z : Q2} (h : zs[i]? = some z) : ∃ v, vs[i]? = some v ∧ TQ H v k z := by
  have hi : i < vs.length := by rw [m.len]; exact (List.getElem?_eq_some_iff.mp h).1
  exact ⟨_, List.getElem?_eq_getElem hi, m.all i _ z (List.getElem?_eq_getElem hi) h⟩
theorem Tqs.of (m : Tqs H k vs zs) {i : Nat} {v : V} (h : vs[i]? = some v) : ∃ z, zs[i]? = some z ∧ TQ H v k z := by
  have hi : i < zs.length := by rw [← m.len]; exact (List.getElem?_eq_some_iff.mp h).1
  exact ⟨_, List.getElem?_eq_getElem hi, m.all i v _ h (List.getElem?_eq_getElem hi)⟩
theorem Tqs.snoc (m : Tqs H k vs zs) {v : V} {z : Q2} (t : TQ H v k z) : Tqs H k (vs ++ [v]) (zs ++ [z]) := by
  refine ⟨by rw [List.length_append, List.length_append, m.len]; rfl, fun i w y h1 h2 => ?_⟩
  by_cases hi : i < vs.length
  · rw [List.getElem?_append_left hi] at h1
    rw [List.getElem?_append_left (by rw [← m.len]; exact hi)] at h2
    exact m.all i w y h1 h2
  · have l1 := (List.getElem?_eq_some_iff.mp h1).1
    rw [List.length_append, List.length_singleton] at l1
    have e : i = vs.length := by omega
    rw [e, List.getElem?_append_right (Nat.le_refl _), Nat.sub_self] at h1
    rw [e, m.len, List.getElem?_append_right (Nat.le_refl _), Nat.sub_self] at h2
    cases h1; cases h2
    exact t
theorem Tqs.one {v : V} {z : Q2} (t : TQ H v k z) : Tqs H k [v] [z] := (⟨rfl, fun i w y h1 => by simp at h1⟩ : Tqs H k [] []).snoc t
theorem Tqs.cons (m : Tqs H k vs zs) {v : V} {z : Q2} (t : TQ H v k z) : Tqs H k (v :: vs) (z :: zs) := by
  refine ⟨by rw [List.length_cons, List.length_cons, m.len], fun i w y h1 h2 => ?_⟩
  cases i with
  | zero => cases h1; cases h2; exact t
  | succ i => exact m.all i w y (by simpa using h1) (by simpa using h2)
theorem Tqs.nil : Tqs H k [] [] := ⟨rfl, fun i w y h1 => by simp at h1⟩
theorem Mks.mono {C : Addr} {ps : List V} (m : Mks C H k ps zs) (l : k ≤ j) : Mks C H j ps zs := ⟨m.len, fun i v z h1 h2 => by
  obtain ⟨p, e, q⟩ := m.all i v z h1 h2
  exact ⟨p, e, q.mono l⟩⟩
theorem QO.mono {C : Addr} {v : V} (l : k ≤ j) : ∀ {e : Option Q2}, QO C H k v e → QO C H j v e
  | none, h => h
  | some _, ⟨p, h1, h2⟩ => ⟨p, h1, h2.mono l⟩
end
theorem leq_not {a b : Q2} : leq a b = !ltq b a := by
  unfold leq ltq eqq
  rw [← Bool.decide_or, ← decide_not]
  exact decide_eq_decide.mpr ⟨fun h => by omega, fun h => by omega⟩
theorem leq_congr {a b c d : Q2} (h : Re a c) (g : Re b d) : leq a b = leq c d := by rw [leq_not, leq_not, ltq_congr g h]
theorem span_leq (a b : Q2) : spanB (some a) (some b) = (ltq a b || eqq a b) := by
  show (!ltq b a) = leq a b
  rw [leq_not]
/-! ### what the defs of pairs promise -/
def sp_span (CM : Addr) : Sp := fun vs H Q _ => ∃ (l h : V) (k : Nat) (lo hi : Option Q2), vs = [l, h] ∧ QO CM H k l lo ∧ QO CM H k h hi ∧ k ≤ 9000 ∧ Q (.bl (spanB lo hi)) H
theorem rise_ltq {zs : List Q2} (h : RiseQ zs) (hp : ∀ z ∈ zs, 0 < z.2) : ∀ {j i : Nat} {a b : Q2}, i < j → zs[i]? = some a → zs[j]? = some b → ltq a b = true
  | 0, _, _, _, hi, _, _ => by omega
  | j + 1, i, a, b, hi, ha, hb => by
    obtain ⟨c, hc⟩ := ge2 (zs := zs) (n := j) (by have := (List.getElem?_eq_some_iff.mp hb).1; omega)
    have h1 := h j c b hc hb
    by_cases e : i = j
    · subst e
      rw [ha] at hc
      cases hc
      exact h1
    · exact ltq_trans (hp c (List.mem_of_getElem? hc)) (hp a (List.mem_of_getElem? ha)) (hp b (List.mem_of_getElem? hb)) (rise_ltq h hp (show i < j by omega) ha hc) h1
theorem Tqs.posL {H : Hp} {k : Nat} {vs : List V} {zs : List Q2} (m : Tqs H k vs zs) : ∀ z ∈ zs, 0 < z.2 := fun z hz => by
  obtain ⟨i, hi⟩ := List.mem_iff_getElem?.mp hz
  obtain ⟨v, _, t⟩ := m.at hi
  exact t.pos
/-- None, or a pair -/
def TOq (H : Hp) (k : Nat) (v : V) : Option Q2 → Prop
  | none => v = .non
  | some z => TQ H v k z
theorem TOq.same {H H' : Hp} {k : Nat} {v : V} : ∀ {e : Option Q2}, TOq H k v e → Same H H' → TOq H' k v e
  | none, h, _ => h
  | some _, h, s => TQ.same h s
theorem TOq.kp {H H' : Hp} {k n : Nat} {h : Addr} {v : V} : ∀ {e : Option Q2}, TOq H k v e → HandAt H h n → Kp h H H' → TOq H' k v e
  | none, h, _, _ => h
  | some _, h, hh, s => TQ.kp h hh s
theorem QO.nl {C : Addr} {H H' : Hp} {k : Nat} {v : V} (s : Nl H H') : ∀ {e : Option Q2}, QO C H k v e → QO C H' k v e
  | none, h => h
  | some _, ⟨p, h1, h2⟩ => ⟨p, h1, h2.nl s⟩
theorem sqt_kp {K : PySem.W.Frag} {H H' : Hp} {h a : Addr} {n : Nat} {xs : List V} (s : SqT K H a xs) (hh : HandAt H h n) (k : Kp h H H') : SqT K H' a xs := by
  rcases s with (s | ⟨o, s⟩) | s
  · exact .inl (.inl (k.get hh s rfl))
  · exact .inl (.inr ⟨o, k.get hh s rfl⟩)
  · exact .inr s
theorem LadAt.kp {K : PySem.W.Frag} {CM CL p h : Addr} {H H' : Hp} {k n : Nat} {zs : List Q2} {r : Str} {lo hi : Option Q2} (a : LadAt K CM CL H p k zs r lo hi) (hh : HandAt H h n) (s : Kp h H H') : LadAt K CM CL H' p k zs r lo hi := by
  obtain ⟨⟨dx, T, ps, l, u, h1, h2, h3, h4, h5⟩, a1, a2, a3, a4, a5⟩ := a
  exact ⟨⟨dx, T, ps, l, u, s.get hh h1 rfl, sqt_kp h2 hh s, h3.kp hh s, h4.kp hh s, h5.kp hh s⟩, a1, a2, a3, a4, a5⟩
end My
namespace My
open PySem PySem.Spec PyProof.Rows L2
/-! ### comprehensions that draw -/
/-! ### things that are the same, one within another -/
def AtomV (x : V) : Prop := (∃ z : Int, x = .int z) ∨ (∃ s : Str, x = .str s) ∨ x = .non ∨ ∃ b : Bool, x = .bl b
def SameV (K : PySem.W.Frag) (H : Hp) : Nat → V → V → Prop
  | 0, x, y => x = y ∧ AtomV x
  | n + 1, x, y => (x = y ∧ AtomV x) ∨ ∃ p q xs ys, x = .ref p ∧ y = .ref q ∧ SqT K H p xs ∧ SqT K H q ys ∧ xs.length = ys.length ∧ xs.length ≤ 900 ∧ ∀ (i : Nat) (a b : V), xs[i]? = some a → ys[i]? = some b → SameV K H n a b
theorem SameV.same {K : PySem.W.Frag} {H H' : Hp} (s : Same H H') : ∀ {n : Nat} {x y : V}, SameV K H n x y → SameV K H' n x y
  | 0, _, _, h => h
  | n + 1, _, _, .inl h => .inl h
  | n + 1, _, _, .inr ⟨p, q, xs, ys, h1, h2, h3, h4, h5, h6, h7⟩ => .inr ⟨p, q, xs, ys, h1, h2, s.sqt h3, s.sqt h4, h5, h6, fun i a b ha hb => SameV.same s (h7 i a b ha hb)⟩
theorem SameV.atom {K : PySem.W.Frag} {H : Hp} {x : V} (a : AtomV x) : ∀ n, SameV K H n x x
  | 0 => ⟨rfl, a⟩
  | _ + 1 => .inl ⟨rfl, a⟩
theorem SameV.ints {K : PySem.W.Frag} {H : Hp} {p q : Addr} {ss : List Int} (n : Nat) (hp : SqT K H p (ss.map V.int)) (hq : SqT K H q (ss.map V.int)) (l : ss.length ≤ 900) : SameV K H (n + 1) (.ref p) (.ref q) :=
  .inr ⟨p, q, _, _, rfl, rfl, hp, hq, rfl, by rw [List.length_map]; exact l, fun i a b ha hb => by
    rw [ha] at hb
    cases hb
    obtain ⟨s, _, rfl⟩ := List.mem_map.mp (List.mem_of_getElem? ha)
    exact SameV.atom (.inl ⟨s, rfl⟩) n⟩
/-! ### a Grid -/
def gf (a b c : V) : List (Str × V) := [("lengths", a), ("breadths", b), ("grade", c)]
section
variable (a b c : V)
end
/-- a ladder, whatever its rule and ends -/
def LadE (K : PySem.W.Frag) (CM CL : Addr) (H : Hp) (p : Addr) (k : Nat) (zs : List Q2) : Prop := ∃ r lo hi, LadAt K CM CL H p k zs r lo hi
structure GrdAt (K : PySem.W.Frag) (CM CL CG : Addr) (H : Hp) (p : Addr) (k : Nat) (L1 L2 : Addr) (g : Q2) : Prop where
  ob : ∃ dx q, H p = some (.ins CG dx (gf (.ref L1) (.ref L2) (.ref q))) ∧ QAt CM H q k g
theorem GrdAt.same {K : PySem.W.Frag} {CM CL CG : Addr} {H H' : Hp} {p : Addr} {k : Nat} {L1 L2 : Addr} {g : Q2} (a : GrdAt K CM CL CG H p k L1 L2 g) (s : Same H H') : GrdAt K CM CL CG H' p k L1 L2 g := by
  obtain ⟨dx, q, h1, h2⟩ := a.ob
  exact ⟨dx, q, s _ _ h1, h2.same s⟩
theorem GrdAt.kp {K : PySem.W.Frag} {CM CL CG : Addr} {H H' : Hp} {p h : Addr} {k n : Nat} {L1 L2 : Addr} {g : Q2} (a : GrdAt K CM CL CG H p k L1 L2 g) (hh : HandAt H h n) (s : Kp h H H') : GrdAt K CM CL CG H' p k L1 L2 g := by
  obtain ⟨dx, q, h1, h2⟩ := a.ob
  exact ⟨dx, q, s.get hh h1 rfl, h2.kp hh s⟩
/-! ### the laws' sides of a grid -/
structure SidesAt (H : Hp) (h p : Addr) (k : Nat) (zs ys : List Q2) (g : Q2) : Prop where
  ob : ∃ l1 l2 v us ws, H p = some (.lst [.ref l1, .ref l2, v]) ∧ H l1 = some (.lst us) ∧ H l2 = some (.lst ws) ∧ Tqs H k us zs ∧ Tqs H k ws ys ∧ TQ H v 20 g ∧ p ≠ h ∧ l1 ≠ h ∧ l2 ≠ h
  l0 : 0 < zs.length
  l1 : zs.length ≤ 8
  m0 : 0 < ys.length
  m1 : ys.length ≤ 8
theorem SidesAt.same {H H' : Hp} {h p : Addr} {k : Nat} {zs ys : List Q2} {g : Q2} (a : SidesAt H h p k zs ys g) (s : Same H H') : SidesAt H' h p k zs ys g := by
  obtain ⟨⟨l1, l2, v, us, ws, a1, a2, a3, a4, a5, a6, a7⟩, b1, b2, b3, b4⟩ := a
  exact ⟨⟨l1, l2, v, us, ws, s _ _ a1, s _ _ a2, s _ _ a3, a4.same s, a5.same s, a6.same s, a7⟩, b1, b2, b3, b4⟩
theorem SidesAt.kp {H H' : Hp} {h p : Addr} {k n : Nat} {zs ys : List Q2} {g : Q2} (a : SidesAt H h p k zs ys g) (hh : HandAt H h n) (s : Kp h H H') : SidesAt H' h p k zs ys g := by
  obtain ⟨⟨l1, l2, v, us, ws, a1, a2, a3, a4, a5, a6, a7, a8, a9⟩, b1, b2, b3, b4⟩ := a
  exact ⟨⟨l1, l2, v, us, ws, s _ _ a1 a7, s _ _ a2 a8, s _ _ a3 a9, a4.kp hh s, a5.kp hh s, a6.kp hh s, a7, a8, a9⟩, b1, b2, b3, b4⟩
theorem sqt_nl {K : PySem.W.Frag} {H H' : Hp} {a : Addr} {xs : List V} (s : SqT K H a xs) (k : Nl H H') : SqT K H' a xs := by
  rcases s with (s | ⟨o, s⟩) | s
  · exact .inl (.inl (k _ _ s rfl))
  · exact .inl (.inr ⟨o, k _ _ s rfl⟩)
  · exact .inr s
end My
namespace My
open PySem PySem.Spec PyProof.Rows L2
/-! ### sizes by fractions -/
/-- f holds of the first ones alone -/
def DownQ (f : Q2 → Bool) (zs : List Q2) : Prop := ∀ (i j : Nat) (a b : Q2), i < j → zs[i]? = some a → zs[j]? = some b → f b = true → f a = true
theorem DownQ.tail {f : Q2 → Bool} {x : Q2} {zs : List Q2} (h : DownQ f (x :: zs)) : DownQ f zs := fun i j a b hij ha hb hf => h (i + 1) (j + 1) a b (by omega) (by simpa using ha) (by simpa using hb) hf
theorem cntQ (f : Q2 → Bool) : ∀ {zs : List Q2}, DownQ f zs → ∀ (k : Nat) (a : Q2), zs[k]? = some a → (f a = true ↔ k < zs.countP f)
  | [], _, k, a, h => by simp at h
  | x :: zs, hd, k, a, h => by
    rw [List.countP_cons]
    cases e : f x with
    | true =>
      rw [if_pos rfl]
      cases k with
      | zero =>
        have : x = a := by simpa using h
        subst this
        simp [e]
      | succ k =>
        have := cntQ f hd.tail k a (by simpa using h)
        rw [this]
        omega
    | false =>
      rw [if_neg (by simp)]
      have z0 : zs.countP f = 0 := by
        rw [List.countP_eq_zero]
        intro y hy q
        obtain ⟨n, hn⟩ := List.mem_iff_getElem?.mp hy
        have := hd 0 (n + 1) x y (by omega) rfl (by simpa using hn) q
        rw [e] at this
        cases this
      rw [z0]
      have fa : f a = false := by
        cases k with
        | zero =>
          have : x = a := by simpa using h
          rw [← this]; exact e
        | succ k =>
          cases q : f a with
          | false => rfl
          | true =>
            have := hd 0 (k + 1) x a (by omega) rfl h q
            rw [e] at this
            cases this
      rw [fa]
      simp
theorem down_lt {zs : List Q2} {x : Q2} (h : RiseQ zs) (hp : ∀ z ∈ zs, 0 < z.2) (hx : 0 < x.2) : DownQ (fun a => ltq a x) zs := fun i j a b hij ha hb hf =>
  ltq_trans (hp b (List.mem_of_getElem? hb)) (hp a (List.mem_of_getElem? ha)) hx (rise_ltq h hp hij ha hb) hf
theorem leq_trans_lt {a b c : Q2} (ha : 0 < a.2) (hb : 0 < b.2) (hc : 0 < c.2) (h : ltq a b = true) (g : leq b c = true) : leq a c = true := by
  rw [leq_not] at g ⊢
  have g' : ltq c b = false := by simpa using g
  cases e : ltq c a with
  | false => rfl
  | true =>
    rw [ltq_trans ha hc hb e h] at g'
    cases g'
theorem down_le {zs : List Q2} {x : Q2} (h : RiseQ zs) (hp : ∀ z ∈ zs, 0 < z.2) (hx : 0 < x.2) : DownQ (fun a => leq a x) zs := fun i j a b hij ha hb hf =>
  leq_trans_lt (hp a (List.mem_of_getElem? ha)) (hp b (List.mem_of_getElem? hb)) hx (rise_ltq h hp hij ha hb) hf
section
variable {zs : List Q2} {r : Str} {lo hi : Option Q2} {x : Q2}
end
end My
namespace My
open PySem PySem.Spec PyProof.Rows L2
/-! ### what stood ahead, wanted at a later heap: the step first -/
section
variable {K : PySem.W.Frag} {C CM CL CG p q h a L1 L2 : Addr} {H H' H1 : Hp} {v : V} {k j n : Nat} {z : Q2} {vs : List V} {zs ys : List Q2} {o : HO} {e : Option Q2} {r : Str} {lo hi : Option Q2}
theorem TQ.s (s : Same H H') (t : TQ H v k z) : TQ H' v k z := t.same s
theorem TQ.nq (s : Nl H H') (t : TQ H v k z) : TQ H' v k z := t.nl s
theorem Tqs.s (s : Same H H') (t : Tqs H k vs zs) : Tqs H' k vs zs := t.same s
theorem QAt.s (s : Same H H') (t : QAt C H p k z) : QAt C H' p k z := t.same s
theorem Mks.s (s : Same H H') (t : Mks C H k vs zs) : Mks C H' k vs zs := t.same s
theorem QO.s (s : Same H H') (t : QO C H k v e) : QO C H' k v e := t.same s
theorem TOq.s (s : Same H H') (t : TOq H k v e) : TOq H' k v e := t.same s
theorem TOq.mono (l : k ≤ j) : ∀ {e : Option Q2}, TOq H k v e → TOq H j v e
  | none, h => h
  | some _, h => TQ.mono h l
theorem LadAt.s (s : Same H H') (t : LadAt K CM CL H p k zs r lo hi) : LadAt K CM CL H' p k zs r lo hi := t.same s
theorem LadAt.mono (t : LadAt K CM CL H p k zs r lo hi) (l : k ≤ j) : LadAt K CM CL H p j zs r lo hi := by
  obtain ⟨⟨dx, T, ps, u, w, h1, h2, h3, h4, h5⟩, a1, a2, a3, a4, a5⟩ := t
  exact ⟨⟨dx, T, ps, u, w, h1, h2, h3.mono l, h4.mono l, h5.mono l⟩, a1, a2, a3, a4, a5⟩
theorem GrdAt.s (s : Same H H') (t : GrdAt K CM CL CG H p k L1 L2 z) : GrdAt K CM CL CG H' p k L1 L2 z := t.same s
theorem SidesAt.s (s : Same H H') (t : SidesAt H h p k zs ys z) : SidesAt H' h p k zs ys z := t.same s
theorem HandAt.s (s : Same H H') (t : HandAt H h n) : HandAt H' h n := t.same s
theorem TQ.u {u : HO} {b : Addr} (np : H b = none) (t : TQ H v k z) : TQ (upd H b u) v k z := t.same (same1 np)
theorem Tqs.u {u : HO} {b : Addr} (np : H b = none) (t : Tqs H k vs zs) : Tqs (upd H b u) k vs zs := t.same (same1 np)
theorem QAt.u {u : HO} {b : Addr} (np : H b = none) (t : QAt C H p k z) : QAt C (upd H b u) p k z := t.same (same1 np)
theorem Mks.u {u : HO} {b : Addr} (np : H b = none) (t : Mks C H k vs zs) : Mks C (upd H b u) k vs zs := t.same (same1 np)
theorem QO.u {u : HO} {b : Addr} (np : H b = none) (t : QO C H k v e) : QO C (upd H b u) k v e := t.same (same1 np)
theorem TOq.u {u : HO} {b : Addr} (np : H b = none) (t : TOq H k v e) : TOq (upd H b u) k v e := t.same (same1 np)
theorem LadAt.u {u : HO} {b : Addr} (np : H b = none) (t : LadAt K CM CL H p k zs r lo hi) : LadAt K CM CL (upd H b u) p k zs r lo hi := t.same (same1 np)
theorem GrdAt.u {u : HO} {b : Addr} (np : H b = none) (t : GrdAt K CM CL CG H p k L1 L2 z) : GrdAt K CM CL CG (upd H b u) p k L1 L2 z := t.same (same1 np)
theorem SidesAt.u {u : HO} {b : Addr} (np : H b = none) (t : SidesAt H h p k zs ys z) : SidesAt (upd H b u) h p k zs ys z := t.same (same1 np)
theorem HandAt.u {u : HO} {b : Addr} (np : H b = none) (t : HandAt H h n) : HandAt (upd H b u) h n := t.same (same1 np)
end
theorem eqv_nil : PyData.eqv (.list (([] : List Int).map PyData.int)) (.list []) = true := by
  simp [PyData.eqv, PyData.eqvAll]
theorem eqv_cons (z : Int) (zs : List Int) : PyData.eqv (.list ((z :: zs).map PyData.int)) (.list []) = false := by
  simp [PyData.eqv, PyData.eqvAll]
theorem dpL {K : PySem.W.Frag} {H : Hp} {p : Addr} {zs : List Int} (h : H p = some (.lst (zs.map V.int))) : Dp K H (.ref p) (.list (zs.map PyData.int)) := .lst (SqL.of h) (dpI zs)
theorem layI : ∀ zs : List Int, PyData.canLayAll0 (zs.map PyData.int) = true
  | [] => rfl
  | z :: zs => by
    show (true && PyData.canLayAll0 (zs.map PyData.int)) = true
    rw [layI zs]; rfl
theorem shL (zs : List Int) : SeqAt.shaped (.list (zs.map PyData.int)) = true := by
  have h := ints_depth zs
  have e1 : (PyData.list (zs.map PyData.int)).depth ≤ 64 := by
    show PyData.depthAll (zs.map PyData.int) + 1 ≤ 64
    omega
  have e2 : (PyData.list (zs.map PyData.int)).canLay0 = true := layI zs
  unfold SeqAt.shaped
  rw [e2, decide_eq_true e1]
  rfl
theorem dpN {K : PySem.W.Frag} {H : Hp} {p : Addr} (h : H p = some (.lst [])) : Dp K H (.ref p) (.list []) := .lst (SqL.of h) .nil
/-- each of these values is a fraction -/
def AllTQ (H : Hp) (k : Nat) (vs : List V) : Prop := ∀ x ∈ vs, ∃ z, TQ H x k z
theorem AllTQ.nil {H : Hp} {k : Nat} : AllTQ H k [] := fun x hx => by simp at hx
theorem AllTQ.cons {H : Hp} {k : Nat} {v : V} {z : Q2} {vs : List V} (t : TQ H v k z) (m : AllTQ H k vs) : AllTQ H k (v :: vs) := fun x hx => by
  rcases List.mem_cons.mp hx with e | e
  · rw [e]; exact ⟨z, t⟩
  · exact m x e
theorem AllTQ.app {H : Hp} {k : Nat} {vs ws : List V} (m : AllTQ H k vs) (m' : AllTQ H k ws) : AllTQ H k (vs ++ ws) := fun x hx => by
  rcases List.mem_append.mp hx with e | e
  · exact m x e
  · exact m' x e
/-! ### a rule, a least and a most, as the laws draw them in fractions -/
structure ChartAt (H : Hp) (T : Addr) (k : Nat) (r : Str) (lo hi : Option Q2) : Prop where
  ob : ∃ u w, H T = some (.tup [.str r, u, w]) ∧ TOq H k u lo ∧ TOq H k w hi
  rule : IsRule r
  span : spanB lo hi = true
section
variable {H H' : Hp} {T h : Addr} {k n : Nat} {r : Str} {lo hi : Option Q2}
theorem ChartAt.same (c : ChartAt H T k r lo hi) (s : Same H H') : ChartAt H' T k r lo hi := by
  obtain ⟨⟨u, w, h1, h2, h3⟩, h4, h5⟩ := c
  exact ⟨⟨u, w, s _ _ h1, h2.same s, h3.same s⟩, h4, h5⟩
theorem ChartAt.kp (c : ChartAt H T k r lo hi) (hh : HandAt H h n) (s : Kp h H H') : ChartAt H' T k r lo hi := by
  obtain ⟨⟨u, w, h1, h2, h3⟩, h4, h5⟩ := c
  exact ⟨⟨u, w, s.get hh h1 rfl, h2.kp hh s, h3.kp hh s⟩, h4, h5⟩
theorem ChartAt.u {u : HO} {b : Addr} (np : H b = none) (c : ChartAt H T k r lo hi) : ChartAt (upd H b u) T k r lo hi := c.same (same1 np)
theorem ChartAt.s (s : Same H H') (c : ChartAt H T k r lo hi) : ChartAt H' T k r lo hi := c.same s
end
def PosE (o : Option Q2) : Prop := ∀ a, o = some a → 0 < a.2
theorem midq_pos : ∀ {zs : List Q2}, (∀ z ∈ zs, 0 < z.2) → ∀ z ∈ midq zs, 0 < z.2
  | [], _, z, hz => by simp [midq] at hz
  | [_], _, z, hz => by simp [midq] at hz
  | a :: b :: r, hp, z, hz => by
    have hz' : z ∈ qhalf a b :: midq (b :: r) := hz
    rcases List.mem_cons.mp hz' with e | e
    · rw [e, qhalf_eq]
      have := hp a (by simp)
      have := hp b (by simp)
      have := Int.mul_pos (hp a (by simp)) (hp b (by simp))
      show 0 < a.2 * b.2 * 2
      omega
    · exact midq_pos (fun y hy => hp y (by simp [hy])) z e
theorem inO_congr {lo hi : Option Q2} {x x' : Q2} (hl : PosE lo) (hh : PosE hi) (h : Re x x') : inO lo hi x = inO lo hi x' := by
  have e1 : loOk lo x = loOk lo x' := by
    cases lo with
    | none => rfl
    | some a =>
      show (!ltq x a) = (!ltq x' a)
      rw [ltq_congr h (Re.refl (hl a rfl))]
  have e2 : hiOk hi x = hiOk hi x' := by
    cases hi with
    | none => rfl
    | some a =>
      show (!ltq a x) = (!ltq a x')
      rw [ltq_congr (Re.refl (hh a rfl)) h]
  unfold inO
  rw [e1, e2]
theorem sizeQ_congr {zs : List Q2} {r : Str} {lo hi : Option Q2} {x x' : Q2} (hp : ∀ z ∈ zs, 0 < z.2) (hl : PosE lo) (hh : PosE hi) (h : Re x x') : sizeQ zs r lo hi x = sizeQ zs r lo hi x' := by
  have e1 := inO_congr hl hh h
  have e2 : sizeR zs r x = sizeR zs r x' := by
    have c1 : zs.countP (fun a => ltq a x) = zs.countP (fun a => ltq a x') := List.countP_congr fun a ha => by rw [ltq_congr (Re.refl (hp a ha)) h]
    have c2 : zs.countP (fun a => leq a x) = zs.countP (fun a => leq a x') := List.countP_congr fun a ha => by rw [leq_congr (Re.refl (hp a ha)) h]
    have c3 : (midq zs).countP (fun a => leq a x) = (midq zs).countP (fun a => leq a x') := List.countP_congr fun a ha => by rw [leq_congr (Re.refl (midq_pos hp a ha)) h]
    unfold sizeR
    rw [c1, c2, c3]
  unfold sizeQ
  rw [e1, e2]
theorem sizeQ_lt {zs : List Q2} {r : Str} {lo hi : Option Q2} {x : Q2} {i : Nat} (h : sizeQ zs r lo hi x = some i) : i < zs.length := by
  unfold sizeQ at h
  split at h
  · split at h
    · rename_i c
      have e := Option.some.inj h
      omega
    · cases h
  · cases h
/-- a pair of sizes, or None -/
def OwnV (H : Hp) (v : V) : Option (Nat × Nat) → Prop
  | none => v = .non
  | some x => ∃ T, v = .ref T ∧ H T = some (.tup [.int (x.1 : Int), .int (x.2 : Int)])
theorem OwnV.s {H H' : Hp} {v : V} (s : Same H H') : ∀ {o : Option (Nat × Nat)}, OwnV H v o → OwnV H' v o
  | none, h => h
  | some _, ⟨T, h1, h2⟩ => ⟨T, h1, s _ _ h2⟩
theorem OwnV.alike {K : PySem.W.Frag} {H : Hp} {v w : V} : ∀ {o : Option (Nat × Nat)}, OwnV H v o → OwnV H w o → SameV K H 1 v w
  | none, h, g => by
    cases h; cases g
    exact SameV.atom (.inr (.inr (.inl rfl))) 1
  | some x, ⟨T, h1, h2⟩, ⟨T', g1, g2⟩ => by
    subst h1 g1
    exact SameV.ints (ss := [(x.1 : Int), (x.2 : Int)]) 0 (SqT.of h2) (SqT.of g2) (Nat.le_of_ble_eq_true rfl)
/-! ### the numbers of the marks, first and last -/
end My
namespace My
open PySem PySem.Spec PyProof.Rows L2
/-! ### cuts of three stretches -/
theorem lt_w {x y w : Int} (hw : 0 < w) : x < y ↔ x * w < y * w := ⟨fun h => Int.mul_lt_mul_of_pos_right h hw, fun h => Int.lt_of_mul_lt_mul_right h (Int.le_of_lt hw)⟩
theorem eq_w {x y w : Int} (hw : 0 < w) : x = y ↔ x * w = y * w := ⟨fun h => by rw [h], fun h => Int.eq_of_mul_eq_mul_right (by omega) h⟩
/-- three fractions by three whole numbers -/
structure Ord3 (a b c : Q2) (A B C : Int) : Prop where
  ab : ltq a b = decide (A < B)
  ba : ltq b a = decide (B < A)
  eab : eqq a b = decide (A = B)
  eba : eqq b a = decide (B = A)
  bc : ltq b c = decide (B < C)
  cb : ltq c b = decide (C < B)
  ebc : eqq b c = decide (B = C)
  ecb : eqq c b = decide (C = B)
  ac : ltq a c = decide (A < C)
  ca : ltq c a = decide (C < A)
  eac : eqq a c = decide (A = C)
  eca : eqq c a = decide (C = A)
theorem ltw {a b : Q2} {w : Int} (hw : 0 < w) {A B : Int} (h1 : A = a.1 * b.2 * w) (h2 : B = b.1 * a.2 * w) : ltq a b = decide (A < B) := by
  unfold ltq; rw [h1, h2]; exact decide_eq_decide.mpr (lt_w hw)
theorem eqw {a b : Q2} {w : Int} (hw : 0 < w) {A B : Int} (h1 : A = a.1 * b.2 * w) (h2 : B = b.1 * a.2 * w) : eqq a b = decide (A = B) := by
  unfold eqq; rw [h1, h2]; exact decide_eq_decide.mpr (eq_w hw)
theorem ord3 {a b c : Q2} (ha : 0 < a.2) (hb : 0 < b.2) (hc : 0 < c.2) : Ord3 a b c (a.1 * b.2 * c.2) (b.1 * a.2 * c.2) (c.1 * a.2 * b.2) := by
  have z1 : b.1 * a.2 * c.2 = b.1 * c.2 * a.2 := by rw [Int.mul_assoc, Int.mul_comm a.2, Int.mul_assoc]
  have z2 : c.1 * a.2 * b.2 = c.1 * b.2 * a.2 := by rw [Int.mul_assoc, Int.mul_comm a.2, Int.mul_assoc]
  have z3 : a.1 * b.2 * c.2 = a.1 * c.2 * b.2 := by rw [Int.mul_assoc, Int.mul_comm b.2, Int.mul_assoc]
  exact ⟨ltw hc rfl rfl, ltw hc rfl rfl, eqw hc rfl rfl, eqw hc rfl rfl, ltw ha z1 z2, ltw ha z2 z1, eqw ha z1 z2, eqw ha z2 z1, ltw hb z3 rfl, ltw hb rfl z3, eqw hb z3 rfl, eqw hb rfl z3⟩
theorem Alike.of {x y : Q2} {i j : Bool} (h : Re x y) (e : i = j) : Alike (some x, i) (some y, j) := ⟨h, fun _ => e⟩
theorem Alike.refl {x : Option Q2 × Bool} (h : PosO x.1) : Alike x x := ⟨ReO.refl h, fun _ => rfl⟩
theorem Alike.symm {x y : Option Q2 × Bool} (h : Alike x y) : Alike y x := ⟨h.1.symm, fun e => (h.2 (by rw [h.1.isS]; exact e)).symm⟩

theorem cutLo_pos {a b : Option Q2} {i j : Bool} (ha : PosO a) (hb : PosO b) : PosO (cutLo a i b j).1 := by
  cases a with
  | none => exact hb
  | some a => cases b with
    | none => exact ha
    | some b =>
      show PosO (if ltq a b then (some b, j) else if eqq a b then (some a, i && j) else (some a, i)).1
      split
      · exact hb
      · split <;> exact ha
theorem cutHi_pos {a b : Option Q2} {i j : Bool} (ha : PosO a) (hb : PosO b) : PosO (cutHi a i b j).1 := by
  cases a with
  | none => exact hb
  | some a => cases b with
    | none => exact ha
    | some b =>
      show PosO (if ltq b a then (some b, j) else if eqq a b then (some a, i && j) else (some a, i)).1
      split
      · exact hb
      · split <;> exact ha
theorem in_some {lo hi : Option Q2} {li hj : Bool} {x : Q2} (h1 : PosO lo) (h2 : PosO hi) (hx : 0 < x.2) (a : loIn lo li x = true) (b : hiIn hi hj x = true) : someB lo hi li hj = true := by
  cases lo with
  | none => rfl
  | some l =>
    cases hi with
    | none => rfl
    | some h =>
      have o := ord3 (a := l) (b := h) (c := x) h1 h2 hx
      revert o
      generalize l.1 * h.2 * x.2 = A
      generalize h.1 * l.2 * x.2 = B
      generalize x.1 * l.2 * h.2 = C
      intro o
      have a : (ltq l x || (li && eqq l x)) = true := a
      have b : (ltq x h || (hj && eqq x h)) = true := b
      show (ltq l h || (eqq l h && li && hj)) = true
      rw [o.ac, o.eac] at a
      rw [o.cb, o.ecb] at b
      rw [o.ab, o.eab]
      simp only [Bool.or_eq_true, Bool.and_eq_true, decide_eq_true_eq] at a b ⊢
      rcases a with a | ⟨a1, a2⟩ <;> rcases b with b | ⟨b1, b2⟩
      · exact .inl (by omega)
      · exact .inl (by omega)
      · exact .inl (by omega)
      · exact .inr ⟨⟨by omega, a1⟩, b1⟩
theorem some_in {lo hi : Option Q2} {li hj : Bool} (h1 : PosO lo) (h2 : PosO hi) (h : someB lo hi li hj = true) : ∃ x : Q2, 0 < x.2 ∧ loIn lo li x = true ∧ hiIn hi hj x = true := by
  cases lo with
  | none =>
    cases hi with
    | none => exact ⟨(0, 1), by decide, rfl, rfl⟩
    | some b =>
      have h2 : 0 < b.2 := h2
      refine ⟨(b.1 - b.2, b.2), h2, rfl, ?_⟩
      show (ltq (b.1 - b.2, b.2) b || (hj && eqq (b.1 - b.2, b.2) b)) = true
      have : ltq (b.1 - b.2, b.2) b = true := by
        unfold ltq
        exact decide_eq_true ((lt_w h2).mp (by omega))
      rw [this]; rfl
  | some a =>
    have h1 : 0 < a.2 := h1
    cases hi with
    | none =>
      refine ⟨(a.1 + a.2, a.2), h1, ?_, rfl⟩
      show (ltq a (a.1 + a.2, a.2) || (li && eqq a (a.1 + a.2, a.2))) = true
      have : ltq a (a.1 + a.2, a.2) = true := by
        unfold ltq
        exact decide_eq_true ((lt_w h1).mp (by omega))
      rw [this]; rfl
    | some b =>
      have h2 : 0 < b.2 := h2
      have h : (ltq a b || (eqq a b && li && hj)) = true := h
      simp only [Bool.or_eq_true, Bool.and_eq_true] at h
      rcases h with h | ⟨⟨h, e1⟩, e2⟩
      · have h0 : a.1 * b.2 < b.1 * a.2 := of_decide_eq_true h
        have p2 : 0 < a.2 * b.2 := Int.mul_pos h1 h2
        refine ⟨(a.1 * b.2 + b.1 * a.2, 2 * (a.2 * b.2)), by show 0 < 2 * (a.2 * b.2); omega, ?_, ?_⟩
        · show (ltq a _ || (li && eqq a _)) = true
          have : ltq a (a.1 * b.2 + b.1 * a.2, 2 * (a.2 * b.2)) = true := by
            unfold ltq
            refine decide_eq_true ?_
            show a.1 * (2 * (a.2 * b.2)) < (a.1 * b.2 + b.1 * a.2) * a.2
            have e1 : a.1 * (2 * (a.2 * b.2)) = (2 * (a.1 * b.2)) * a.2 := by grind
            rw [e1]
            exact (lt_w h1).mp (by omega)
          rw [this]; rfl
        · show (ltq _ b || (hj && eqq _ b)) = true
          have : ltq (a.1 * b.2 + b.1 * a.2, 2 * (a.2 * b.2)) b = true := by
            unfold ltq
            refine decide_eq_true ?_
            show (a.1 * b.2 + b.1 * a.2) * b.2 < b.1 * (2 * (a.2 * b.2))
            have e1 : b.1 * (2 * (a.2 * b.2)) = (2 * (b.1 * a.2)) * b.2 := by grind
            rw [e1]
            exact (lt_w h2).mp (by omega)
          rw [this]; rfl
      · refine ⟨a, h1, ?_, ?_⟩
        · show (ltq a a || (li && eqq a a)) = true
          rw [e1, eqq_self]; simp
        · show (ltq a b || (hj && eqq a b)) = true
          rw [e2, h]; simp
theorem loIn_flag {x : Option Q2 × Bool} {q : Q2} : loIn x.1 (x.2 && x.1.isSome) q = loIn x.1 x.2 q := by
  obtain ⟨c, i⟩ := x
  cases c with
  | none => rfl
  | some a => show (ltq a q || ((i && true) && eqq a q)) = _; rw [Bool.and_true]; rfl
theorem hiIn_flag {x : Option Q2 × Bool} {q : Q2} : hiIn x.1 (x.2 && x.1.isSome) q = hiIn x.1 x.2 q := by
  obtain ⟨c, i⟩ := x
  cases c with
  | none => rfl
  | some a => show (ltq q a || ((i && true) && eqq q a)) = _; rw [Bool.and_true]; rfl
/-- a Measure whose numbers are not too great -/
def PtM (CM : Addr) (H : Hp) (y : V) : Prop := ∃ (q : Addr) (x : Q2), y = .ref q ∧ MAt CM H q x.1 x.2 ∧ 0 < x.2 ∧ Sz 20000 x.1 ∧ Sz 20000 x.2
theorem PtM.nl {CM : Addr} {H H' : Hp} {y : V} (h : PtM CM H y) (s : Nl H H') : PtM CM H' y := by
  obtain ⟨q, x, e, ⟨d, m⟩, r⟩ := h
  exact ⟨q, x, e, ⟨d, s _ _ m rfl⟩, r⟩
theorem PtM.same {CM : Addr} {H H' : Hp} {y : V} (h : PtM CM H y) (s : Same H H') : PtM CM H' y := h.nl (Nl.of s)
end My
namespace My
open PySem PySem.Spec PyProof.Rows L2
/-! ### which measures a size's stretch holds -/
theorem loIn_t (a x : Q2) : loIn (some a) true x = leq a x := by
  show (ltq a x || (true && eqq a x)) = (ltq a x || eqq a x)
  rw [Bool.true_and]
theorem loIn_f (a x : Q2) : loIn (some a) false x = ltq a x := by
  show (ltq a x || (false && eqq a x)) = ltq a x
  rw [Bool.false_and, Bool.or_false]
theorem hiIn_t (a x : Q2) : hiIn (some a) true x = !ltq a x := by
  show (ltq x a || (true && eqq x a)) = _
  rw [Bool.true_and]
  exact leq_not
theorem hiIn_f (a x : Q2) : hiIn (some a) false x = !leq a x := by
  show (ltq x a || (false && eqq x a)) = _
  rw [Bool.false_and, Bool.or_false, leq_not (a := a), Bool.not_not]
/-- what comes to a size by the rule alone -/
def rulIn (zs : List Q2) (r : Str) (n : Nat) (x : Q2) : Bool := loIn (rulE zs r n).1.1 (rulE zs r n).1.2 x && hiIn (rulE zs r n).2.1 (rulE zs r n).2.2 x
theorem rul_in {zs : List Q2} {r : Str} {n : Nat} {x : Q2} (hr : RiseQ zs) (hp : PosL zs) (hx : 0 < x.2) (hn : n < zs.length) : rulIn zs r n x = true ↔ sizeR zs r x = (n : Int) := by
  unfold rulIn rulE sizeR
  by_cases e1 : r = "up"
  · rw [if_pos e1, if_pos e1]
    obtain ⟨a, ha⟩ := ge2 hn
    have c := cntQ (fun a => ltq a x) (down_lt hr hp hx)
    have ca := c n a ha
    show (loIn (endQ zs ((n : Int) - 1)) false x && hiIn zs[n]? true x) = true ↔ _
    rw [ha, hiIn_t]
    cases n with
    | zero =>
      rw [endQ_none (by omega)]
      show (true && !ltq a x) = true ↔ _
      cases e : ltq a x <;> simp [e] at ca ⊢ <;> omega
    | succ n =>
      obtain ⟨b, hb⟩ := ge2 (zs := zs) (n := n) (by omega)
      have cb := c n b hb
      rw [endQ_in (n := n) (by omega), hb, loIn_f]
      cases e : ltq a x <;> cases e2 : ltq b x <;> simp [e, e2] at ca cb ⊢ <;> omega
  · rw [if_neg e1, if_neg e1]
    by_cases e2 : r = "down"
    · rw [if_pos e2, if_pos e2]
      obtain ⟨a, ha⟩ := ge2 hn
      have c := cntQ (fun a => leq a x) (down_le hr hp hx)
      have ca := c n a ha
      have cl : zs.countP (fun a => leq a x) ≤ zs.length := List.countP_le_length
      show (loIn zs[n]? true x && hiIn (endQ zs ((n : Int) + 1)) false x) = true ↔ _
      rw [ha, loIn_t, endQ_in (n := n + 1) (by omega)]
      cases hb : zs[n + 1]? with
      | none =>
        have := List.getElem?_eq_none_iff.mp hb
        show (leq a x && true) = true ↔ _
        cases e : leq a x <;> simp [e] at ca ⊢ <;> omega
      | some b =>
        have cb := c (n + 1) b hb
        rw [hiIn_f]
        cases e : leq a x <;> cases e3 : leq b x <;> simp [e, e3] at ca cb ⊢ <;> omega
    · rw [if_neg e2, if_neg e2]
      have hm := midq_rise hr hp
      have hpm : PosL (midq zs) := midq_pos hp
      have c := cntQ (fun a => leq a x) (down_le hm hpm hx)
      have cl : (midq zs).countP (fun a => leq a x) ≤ (midq zs).length := List.countP_le_length
      have ml := midq_len zs
      show (loIn (endQ (midq zs) ((n : Int) - 1)) true x && hiIn (endQ (midq zs) n) false x) = true ↔ _
      rw [endQ_in (i := (n : Int)) (n := n) rfl]
      have lo : loIn (endQ (midq zs) ((n : Int) - 1)) true x = true ↔ n ≤ (midq zs).countP (fun a => leq a x) := by
        cases n with
        | zero =>
          rw [endQ_none (by omega)]
          exact ⟨fun _ => by omega, fun _ => rfl⟩
        | succ n =>
          obtain ⟨b, hb⟩ := ge2 (zs := midq zs) (n := n) (by omega)
          rw [endQ_in (n := n) (by omega), hb, loIn_t]
          exact c n b hb
      have hi : hiIn (midq zs)[n]? false x = true ↔ (midq zs).countP (fun a => leq a x) ≤ n := by
        cases hb : (midq zs)[n]? with
        | none =>
          have := List.getElem?_eq_none_iff.mp hb
          exact ⟨fun _ => by omega, fun _ => rfl⟩
        | some b =>
          have cb := c n b hb
          rw [hiIn_f]
          cases e3 : leq b x <;> simp [e3] at cb ⊢ <;> omega
      rw [Bool.and_eq_true, lo, hi]
      omega
theorem loIn_ok (lo : Option Q2) (x : Q2) : loIn lo true x = loOk lo x := by
  cases lo with
  | none => rfl
  | some a => rw [loIn_t, leq_not]; rfl
theorem hiIn_ok (hi : Option Q2) (x : Q2) : hiIn hi true x = hiOk hi x := by
  cases hi with
  | none => rfl
  | some a => rw [hiIn_t]; rfl
/-- what is in a size's stretch -/
def sizIn (zs : List Q2) (r : Str) (lo hi : Option Q2) (n : Nat) (x : Q2) : Bool := loIn (sizE zs r lo hi n).1.1 (sizE zs r lo hi n).1.2 x && hiIn (sizE zs r lo hi n).2.1 (sizE zs r lo hi n).2.2 x
/-- whether there is such a stretch -/
def sizB (zs : List Q2) (r : Str) (lo hi : Option Q2) (n : Nat) : Bool := someB (sizE zs r lo hi n).1.1 (sizE zs r lo hi n).2.1 (sizE zs r lo hi n).1.2 (sizE zs r lo hi n).2.2
structure LadQ (zs : List Q2) (r : Str) (lo hi : Option Q2) : Prop where
  rise : RiseQ zs
  pos : PosL zs
  plo : PosO lo
  phi : PosO hi
  span : spanB lo hi = true
theorem endQ_pos {zs : List Q2} (hp : PosL zs) (i : Int) : PosO (endQ zs i) := by
  unfold endQ
  split
  · cases e : zs[i.toNat]? with
    | none => trivial
    | some a => exact hp a (List.mem_of_getElem? e)
  · trivial
theorem getQ_pos {zs : List Q2} (hp : PosL zs) (i : Nat) : PosO zs[i]? := by
  cases e : zs[i]? with
  | none => trivial
  | some a => exact hp a (List.mem_of_getElem? e)
theorem rulE_pos {zs : List Q2} {r : Str} {n : Nat} (hp : PosL zs) : PosO (rulE zs r n).1.1 ∧ PosO (rulE zs r n).2.1 := by
  unfold rulE
  split
  · exact ⟨endQ_pos hp _, getQ_pos hp _⟩
  · split
    · exact ⟨getQ_pos hp _, endQ_pos hp _⟩
    · exact ⟨endQ_pos (midq_pos hp) _, endQ_pos (midq_pos hp) _⟩
theorem siz_in {zs : List Q2} {r : Str} {lo hi : Option Q2} {n : Nat} {x : Q2} (L : LadQ zs r lo hi) (hx : 0 < x.2) (hn : n < zs.length) : sizIn zs r lo hi n x = true ↔ sizeQ zs r lo hi x = some n := by
  have p := rulE_pos (r := r) (n := n) L.pos
  have a1 := cutLo_in (i := (rulE zs r n).1.2) (j := true) p.1 L.plo hx
  have a2 := cutHi_in (i := (rulE zs r n).2.2) (j := true) p.2 L.phi hx
  have e : sizIn zs r lo hi n x = (rulIn zs r n x && inO lo hi x) := by
    show (loIn (cutLo _ _ lo true).1 (cutLo _ _ lo true).2 x && hiIn (cutHi _ _ hi true).1 (cutHi _ _ hi true).2 x) = _
    rw [a1, a2, loIn_ok, hiIn_ok]
    unfold rulIn inO
    cases loIn (rulE zs r n).1.1 (rulE zs r n).1.2 x <;> cases loOk lo x <;> cases hiIn (rulE zs r n).2.1 (rulE zs r n).2.2 x <;> rfl
  rw [e, Bool.and_eq_true, rul_in L.rise L.pos hx hn]
  unfold sizeQ
  by_cases h : inO lo hi x = true
  · rw [if_pos h]
    constructor
    · rintro ⟨h1, _⟩
      rw [h1, if_pos (by omega)]
      rfl
    · intro q
      split at q
      · next c =>
        refine ⟨?_, h⟩
        have := Option.some.inj q
        omega
      · cases q
  · rw [if_neg h]
    constructor
    · rintro ⟨_, h2⟩; exact absurd h2 h
    · intro q; cases q
theorem sizE_pos {zs : List Q2} {r : Str} {lo hi : Option Q2} {n : Nat} (L : LadQ zs r lo hi) : PosO (sizE zs r lo hi n).1.1 ∧ PosO (sizE zs r lo hi n).2.1 :=
  ⟨cutLo_pos (rulE_pos L.pos).1 L.plo, cutHi_pos (rulE_pos L.pos).2 L.phi⟩
/-- there is a measure of that size just where its stretch is told -/
theorem siz_some {zs : List Q2} {r : Str} {lo hi : Option Q2} {n : Nat} (L : LadQ zs r lo hi) : sizB zs r lo hi n = true ↔ ∃ x : Q2, 0 < x.2 ∧ sizIn zs r lo hi n x = true := by
  have p := sizE_pos (n := n) L
  constructor
  · intro h
    obtain ⟨x, hx, a, b⟩ := some_in p.1 p.2 h
    exact ⟨x, hx, by unfold sizIn; rw [a, b]; rfl⟩
  · rintro ⟨x, hx, h⟩
    unfold sizIn at h
    rw [Bool.and_eq_true] at h
    exact in_some p.1 p.2 hx h.1 h.2
/-- sizes rise as measures do -/
theorem sizeR_mono {zs : List Q2} {r : Str} {x y : Q2} (hp : PosL zs) (hx : 0 < x.2) (hy : 0 < y.2) (h : ltq y x = false) : sizeR zs r x ≤ sizeR zs r y := by
  have k1 : ∀ {ms : List Q2}, PosL ms → ms.countP (fun a => ltq a x) ≤ ms.countP (fun a => ltq a y) := fun {ms} pm => List.countP_mono_left fun a ha q => by
    have pa := pm a ha
    have o := ord3 pa hx hy
    have q' : ltq a x = true := q
    show ltq a y = true
    rw [o.ab] at q'; rw [o.ac]; rw [o.cb] at h
    simp at q' h ⊢
    omega
  have k2 : ∀ {ms : List Q2}, PosL ms → ms.countP (fun a => leq a x) ≤ ms.countP (fun a => leq a y) := fun {ms} pm => List.countP_mono_left fun a ha q => by
    have pa := pm a ha
    have o := ord3 pa hx hy
    have q' : leq a x = true := q
    show leq a y = true
    rw [leq_not, o.ba] at q'; rw [leq_not, o.ca]; rw [o.cb] at h
    simp at q' h ⊢
    omega
  unfold sizeR
  split
  · have := k1 hp; omega
  · split
    · have := k2 hp; omega
    · have := k2 (midq_pos hp); omega
theorem rul_some {zs : List Q2} {r : Str} {n : Nat} (hr : RiseQ zs) (hp : PosL zs) : someB (rulE zs r n).1.1 (rulE zs r n).2.1 (rulE zs r n).1.2 (rulE zs r n).2.2 = true := by
  unfold rulE
  split
  · exact some_up hr
  · split
    · exact some_dn hr
    · exact some_nr (midq_rise hr hp)
end My
namespace My
open PySem PySem.Spec PyProof.Rows L2
/-! ### lists of numbers -/
theorem eqv_ints : ∀ zs : List Int, PyData.eqvAll (zs.map PyData.int) (zs.map PyData.int) = true
  | [] => by simp [PyData.eqvAll]
  | z :: zs => by
    have := eqv_ints zs
    simp [PyData.eqvAll, PyData.eqv, this]
theorem eqv_same (zs : List Int) : PyData.eqv (.list (zs.map PyData.int)) (.list (zs.map PyData.int)) = true := by
  simp [PyData.eqv, eqv_ints]
/-! ### the sizes that fit some feet -/
structure FitsL (H : Hp) (D : Addr) (ls : List (List Int)) : Prop where
  ob : ∃ ts : List V, H D = some (.lst ts) ∧ ts.length = ls.length ∧ ∀ (i : Nat) (v : V) (l : List Int), ts[i]? = some v → ls[i]? = some l → ∃ T, v = .ref T ∧ H T = some (.tup (l.map V.int))
theorem FitsL.same {H H' : Hp} {D : Addr} {ls : List (List Int)} (a : FitsL H D ls) (s : Same H H') : FitsL H' D ls := by
  obtain ⟨ts, h1, h2, h3⟩ := a.ob
  refine ⟨ts, s _ _ h1, h2, fun i v l e1 e2 => ?_⟩
  obtain ⟨T, e, h⟩ := h3 i v l e1 e2
  exact ⟨T, e, s _ _ h⟩
theorem FitsL.at {H : Hp} {D : Addr} {ls : List (List Int)} {ts : List V} (h2 : ts.length = ls.length) (h3 : ∀ (i : Nat) (v : V) (l : List Int), ts[i]? = some v → ls[i]? = some l → ∃ T, v = .ref T ∧ H T = some (.tup (l.map V.int))) {i : Nat} {l : List Int} (h : ls[i]? = some l) : ∃ T, ts[i]? = some (.ref T) ∧ H T = some (.tup (l.map V.int)) := by
  have hi : i < ts.length := by rw [h2]; exact (List.getElem?_eq_some_iff.mp h).1
  obtain ⟨T, e, k⟩ := h3 i _ l (List.getElem?_eq_getElem hi) h
  exact ⟨T, by rw [List.getElem?_eq_getElem hi, e], k⟩
/-- the first one of which there is none -/
def BareAt (ls : List (List Int)) : Option Nat → Prop
  | none => ∀ l ∈ ls, l ≠ []
  | some n => ls[n]? = some [] ∧ ∀ j l, j < n → ls[j]? = some l → l ≠ []
theorem BareAt.uniq {ls : List (List Int)} : ∀ {o o' : Option Nat}, BareAt ls o → BareAt ls o' → o = o'
  | none, none, _, _ => rfl
  | none, some n, h, g => absurd rfl (h _ (List.mem_of_getElem? g.1))
  | some n, none, h, g => absurd rfl (g _ (List.mem_of_getElem? h.1))
  | some n, some m, h, g => by
    rcases Nat.lt_trichotomy n m with q | q | q
    · exact absurd rfl (g.2 n _ q h.1)
    · rw [q]
    · exact absurd rfl (h.2 m _ q g.1)
def firstI (ls : List (List Int)) (a : Int) : Int := ((ls.getD a.toNat []).head?).getD 0
def lastI (ls : List (List Int)) (a : Int) : Int := ((ls.getD a.toNat []).getLast?).getD 0
/-- runs: none is bare, each begins no later than it ends -/
def RunsI (ls : List (List Int)) : Prop := ∀ i : Nat, i < ls.length → ls.getD i [] ≠ [] ∧ firstI ls i ≤ lastI ls i
structure GInv (ls : List (List Int)) (done : List (Int × Int)) (ss as : List Int) : Prop where
  len : ss.length = as.length
  hits : ∀ q ∈ done, ∃ s ∈ ss, firstI ls q.2 ≤ s ∧ s ≤ q.1
  own : ∀ (j : Nat) (s a : Int), ss[j]? = some s → as[j]? = some a → (s, a) ∈ done
  ap : ∀ (j j' : Nat) (s a : Int), j < j' → ss[j]? = some s → as[j']? = some a → s < firstI ls a
theorem GInv.nil {ls : List (List Int)} : GInv ls [] [] [] := ⟨rfl, fun q h => by simp at h, fun j s a h => by simp at h, fun j j' s a _ h => by simp at h⟩
/-- the pairs of last sizes and numbers -/
structure PairsOf (ls : List (List Int)) (ps : List (Int × Int)) : Prop where
  perm : ps.Perm ((List.range ls.length).map fun i : Nat => (lastI ls i, (i : Int)))
  srt : ∀ (i j : Nat) (p q : Int × Int), i < j → ps[i]? = some p → ps[j]? = some q → p.1 ≤ q.1
theorem PairsOf.mem {ls : List (List Int)} {ps : List (Int × Int)} (h : PairsOf ls ps) {q : Int × Int} : q ∈ ps ↔ ∃ i : Nat, i < ls.length ∧ q = (lastI ls i, (i : Int)) := by
  rw [h.perm.mem_iff, List.mem_map]
  constructor
  · rintro ⟨i, hi, e⟩; exact ⟨i, List.mem_range.mp hi, e.symm⟩
  · rintro ⟨i, hi, e⟩; exact ⟨i, List.mem_range.mpr hi, e.symm⟩
theorem GInv.rise {ls : List (List Int)} {ps : List (Int × Int)} {k : Nat} {ss as : List Int} (P : PairsOf ls ps) (R : RunsI ls) (g : GInv ls (ps.take k) ss as) : ∀ (j j' : Nat) (s s' : Int), j < j' → ss[j]? = some s → ss[j']? = some s' → s < s' := fun j j' s s' hj h h' => by
  have l := (List.getElem?_eq_some_iff.mp h').1
  obtain ⟨a', ha'⟩ := geI (zs := as) (n := j') (by rw [← g.len]; exact l)
  have h1 := g.ap j j' s a' hj h ha'
  have h2 := g.own j' s' a' h' ha'
  obtain ⟨i, hi, e⟩ := P.mem.mp (List.mem_of_mem_take h2)
  obtain ⟨rfl, rfl⟩ := Prod.mk.inj e
  have := (R i hi).2
  omega
theorem GInv.take {ls : List (List Int)} {ps : List (Int × Int)} {k : Nat} {ss as : List Int} {b n : Int} (P : PairsOf ls ps) (R : RunsI ls) (hk : ps[k]? = some (b, n)) (g : GInv ls (ps.take k) ss as) (h : ∀ s, ss.getLast? = some s → s < firstI ls n) : GInv ls (ps.take (k + 1)) (ss ++ [b]) (as ++ [n]) := by
  have e : ps.take (k + 1) = ps.take k ++ [(b, n)] := by rw [List.take_add_one, hk]; rfl
  obtain ⟨i, hi, ei⟩ := P.mem.mp (List.mem_of_getElem? hk)
  obtain ⟨rfl, rfl⟩ := Prod.mk.inj ei
  refine ⟨by rw [List.length_append, List.length_append, g.len]; rfl, fun q hq => ?_, fun j s' a h1 h2 => ?_, fun j j' s' a hj h1 h2 => ?_⟩
  · rw [e] at hq
    rcases List.mem_append.mp hq with hq | hq
    · obtain ⟨s, hs, q1⟩ := g.hits q hq
      exact ⟨s, List.mem_append.mpr (.inl hs), q1⟩
    · have : q = (lastI ls (i : Int), (i : Int)) := by simpa using hq
      subst this
      exact ⟨lastI ls i, by simp, (R i hi).2, Int.le_refl _⟩
  · rw [e]
    by_cases hlt : j < ss.length
    · rw [List.getElem?_append_left hlt] at h1
      rw [List.getElem?_append_left (by rw [← g.len]; exact hlt)] at h2
      exact List.mem_append.mpr (.inl (g.own j s' a h1 h2))
    · have l1 := (List.getElem?_eq_some_iff.mp h1).1
      rw [List.length_append, List.length_singleton] at l1
      have ej : j = ss.length := by omega
      rw [ej, List.getElem?_append_right (Nat.le_refl _), Nat.sub_self] at h1
      rw [ej, g.len, List.getElem?_append_right (Nat.le_refl _), Nat.sub_self] at h2
      have h1 : lastI ls i = s' := by simpa using h1
      have h2 : (i : Int) = a := by simpa using h2
      rw [← h1, ← h2]
      simp
  · have l2 := (List.getElem?_eq_some_iff.mp h2).1
    rw [List.length_append, List.length_singleton, ← g.len] at l2
    have h1' : ss[j]? = some s' := by
      rw [List.getElem?_append_left (by omega)] at h1; exact h1
    by_cases hlt : j' < ss.length
    · rw [List.getElem?_append_left (by rw [← g.len]; exact hlt)] at h2
      exact g.ap j j' s' a hj h1' h2
    · have ej : j' = ss.length := by omega
      rw [ej, g.len, List.getElem?_append_right (Nat.le_refl _), Nat.sub_self] at h2
      have h2 : (i : Int) = a := by simpa using h2
      rw [← h2]
      have hs : ss[ss.length - 1]? = ss.getLast? := List.getLast?_eq_getElem?.symm
      obtain ⟨s, hs2⟩ := geI (zs := ss) (n := ss.length - 1) (by omega)
      have hlast := h s (by rw [← hs]; exact hs2)
      by_cases q : j = ss.length - 1
      · rw [q, hs2] at h1'
        cases h1'
        exact hlast
      · have := g.rise P R j (ss.length - 1) s' s (by omega) h1' hs2
        omega
theorem idx_sorted {n : Nat} {c : Nat → Bool} : (idx n c).Pairwise (· < ·) := by
  unfold idx
  rw [List.pairwise_map]
  refine List.Pairwise.imp ?_ (List.Pairwise.filter c List.pairwise_lt_range)
  intro a b h
  omega
/-! ### tuples of the heap: sums and slices -/
section
variable {X : Cx}
end
/-! ### fractions as rational numbers -/
def toR (z : Q2) : Rat := (z.1 : Rat) / (z.2 : Rat)
theorem posR {n : Int} (h : 0 < n) : (0 : Rat) < (n : Rat) := by
  have := Rat.intCast_lt_intCast.mpr h
  simpa using this
section
variable {a b z w x y : Q2}
theorem div_ltR {a b c d : Int} (hb : 0 < b) (hd : 0 < d) : ((a : Rat) / b < (c : Rat) / d) ↔ (a : Rat) * d < c * b := by
  have hb := posR hb
  have hd := posR hd
  constructor
  · intro h
    have e1 : (a : Rat) * d = (a / b) * (b * d) := by grind
    have e2 : (c : Rat) * b = (c / d) * (b * d) := by grind
    rw [e1, e2]
    exact Rat.mul_lt_mul_of_pos_right h (Rat.mul_pos hb hd)
  · intro h
    by_cases g : (c : Rat) / d ≤ (a : Rat) / b
    · have := Rat.mul_le_mul_of_nonneg_right g (Rat.le_of_lt (Rat.mul_pos hb hd))
      have e1 : (a : Rat) * d = (a / b) * (b * d) := by grind
      have e2 : (c : Rat) * b = (c / d) * (b * d) := by grind
      grind
    · grind
theorem ltq_R (ha : 0 < a.2) (hb : 0 < b.2) : ltq a b = true ↔ toR a < toR b := by
  unfold toR
  rw [div_ltR ha hb]
  unfold ltq
  rw [decide_eq_true_iff, ← Rat.intCast_mul, ← Rat.intCast_mul, Rat.intCast_lt_intCast]
theorem leq_R (ha : 0 < a.2) (hb : 0 < b.2) : leq a b = true ↔ toR a ≤ toR b := by
  rw [leq_not]
  cases e : ltq b a with
  | true =>
    have := (ltq_R hb ha).mp e
    constructor
    · intro h; simp at h
    · intro h; grind
  | false =>
    have : ¬ toR b < toR a := fun q => by rw [(ltq_R hb ha).mpr q] at e; cases e
    constructor
    · intro _; grind
    · intro _; rfl
theorem re_R (h : Re z w) : toR z = toR w := by
  obtain ⟨h1, h2, h3⟩ := h
  unfold toR
  have p1 := posR h1
  have p2 := posR h2
  have e : (z.1 : Rat) * (w.2 : Rat) = (w.1 : Rat) * (z.2 : Rat) := by rw [← Rat.intCast_mul, ← Rat.intCast_mul, h3]
  grind
theorem re_of_R (h1 : 0 < z.2) (h2 : 0 < w.2) (h : toR z = toR w) : Re z w := by
  refine ⟨h1, h2, ?_⟩
  unfold toR at h
  have p1 := posR h1
  have p2 := posR h2
  have e : (z.1 : Rat) * (w.2 : Rat) = (w.1 : Rat) * (z.2 : Rat) := by grind
  rw [← Rat.intCast_mul, ← Rat.intCast_mul] at e
  exact Rat.intCast_inj.mp e
theorem add_R (ha : 0 < a.2) (hb : 0 < b.2) : toR (qadd a b) = toR a + toR b := by
  unfold toR qadd
  have p1 := posR ha
  have p2 := posR hb
  simp only [Rat.intCast_add, Rat.intCast_mul]
  grind
theorem sub_R (ha : 0 < a.2) (hb : 0 < b.2) : toR (qsub a b) = toR a - toR b := by
  unfold toR qsub
  have p1 := posR ha
  have p2 := posR hb
  simp only [Rat.intCast_sub, Rat.intCast_mul]
  grind
theorem half_R (ha : 0 < a.2) (hb : 0 < b.2) : toR (qhalf a b) = (toR a + toR b) / 2 := by
  rw [qhalf_eq]
  unfold toR
  have p1 := posR ha
  have p2 := posR hb
  simp only [Rat.intCast_add, Rat.intCast_mul]
  grind
theorem nn_R (ha : 0 < a.2) : 0 ≤ a.1 ↔ 0 ≤ toR a := by
  have p : 0 < ((0, 1) : Q2).2 := by decide
  have h := leq_R (a := (0, 1)) (b := a) p ha
  have e : toR (0, 1) = 0 := by unfold toR; grind
  rw [e] at h
  rw [← h, leq_not]
  unfold ltq
  simp
end
theorem Re.nn {z w : Q2} (r : Re z w) (h : 0 ≤ w.1) : 0 ≤ z.1 := by
  rw [nn_R r.1, re_R r]
  exact (nn_R r.2.1).mp h
section
variable {zs : List Q2} {a z x y e w : Q2} {i : Nat}
end
/-! ### lists of tuples of numbers as data -/
theorem rm65 {k : Nat} {A : Around} (r : Room k A) : A.units + 65 < cLine := by have := r.un; omega
section
variable {X : Cx} {K : PySem.W.Frag}
theorem notInDK (hu : X.A.units + 65 < cLine) (hK : X.K = K := by rfl) : OpR X (compareOp .NotIn) (rNotInD K) := by subst hK; exact op_notInD hu
end
theorem eqvAll_ints : ∀ a b : List Int, PyData.eqvAll (a.map PyData.int) (b.map PyData.int) = decide (a = b)
  | [], [] => by simp [PyData.eqvAll]
  | [], _ :: _ => by simp [PyData.eqvAll]
  | _ :: _, [] => by simp [PyData.eqvAll]
  | x :: a, y :: b => by
    have e : (x == y) = decide (x = y) := by rw [Bool.eq_iff_iff]; simp
    simp [PyData.eqvAll, PyData.eqv, eqvAll_ints a b, e]
theorem eqv_intsD (a b : List Int) : PyData.eqv (intsD a) (intsD b) = decide (a = b) := by
  unfold intsD
  simp [PyData.eqv, eqvAll_ints]
theorem dpAll_of {α : Type} {K : PySem.W.Frag} {H : Hp} (f : α → PyData) : ∀ {ts : List V} {ls : List α}, ts.length = ls.length → (∀ (i : Nat) (v : V) (l : α), ts[i]? = some v → ls[i]? = some l → Dp K H v (f l)) → DpAll K H ts (ls.map f)
  | [], [], _, _ => .nil
  | [], _ :: _, h, _ => by simp at h
  | _ :: _, [], h, _ => by simp at h
  | t :: ts, l :: ls, h, g => .cons (g 0 t l rfl rfl) (dpAll_of f (by simpa using h) fun i v l' h1 h2 => g (i + 1) v l' (by simpa using h1) (by simpa using h2))
theorem rows_lay {α : Type} (f : α → List Int) : ∀ ls : List α, PyData.canLayAll0 (ls.map fun l => intsD (f l)) = true
  | [] => rfl
  | l :: ls => by
    show ((intsD (f l)).canLay0 && PyData.canLayAll0 (ls.map fun l => intsD (f l))) = true
    rw [rows_lay f ls, Bool.and_true]
    exact layI (f l)
theorem rows_depth {α : Type} (f : α → List Int) : ∀ ls : List α, PyData.depthAll (ls.map fun l => intsD (f l)) ≤ 3
  | [] => by simp [PyData.depthAll]
  | l :: ls => by
    have h := rows_depth f ls
    have h1 := ints_depth (f l)
    have e : PyData.depthAll ((l :: ls).map fun l => intsD (f l)) = max (intsD (f l)).depth (PyData.depthAll (ls.map fun l => intsD (f l))) := by simp [PyData.depthAll]
    have e2 : (intsD (f l)).depth = PyData.depthAll ((f l).map PyData.int) + 1 := rfl
    omega
theorem shRows {α : Type} (f : α → List Int) (ls : List α) : SeqAt.shaped (.list (ls.map fun l => intsD (f l))) = true := by
  have h := rows_depth f ls
  have e1 : (PyData.list (ls.map fun l => intsD (f l))).depth ≤ 64 := by
    show PyData.depthAll (ls.map fun l => intsD (f l)) + 1 ≤ 64
    omega
  have e2 : (PyData.list (ls.map fun l => intsD (f l))).canLay0 = true := rows_lay f ls
  unfold SeqAt.shaped
  rw [e2, decide_eq_true e1]
  rfl
theorem shInts (zs : List Int) : SeqAt.shaped (intsD zs) = true := by
  have h := ints_depth zs
  have e1 : (intsD zs).depth ≤ 64 := by
    show PyData.depthAll (zs.map PyData.int) + 1 ≤ 64
    omega
  have e2 : (intsD zs).canLay0 = true := layI zs
  unfold SeqAt.shaped
  rw [e2, decide_eq_true e1]
  rfl
theorem FitsL.dp {K : PySem.W.Frag} {H : Hp} {D : Addr} {ls : List (List Int)} (a : FitsL H D ls) : Dp K H (.ref D) (.list (ls.map fun l => intsD l)) := by
  obtain ⟨ts, h1, h2, h3⟩ := a.ob
  refine .lst (SqL.of h1) (dpAll_of (fun l => intsD l) h2 fun i v l e1 e2 => ?_)
  obtain ⟨T, rfl, h⟩ := h3 i v l e1 e2
  exact dpT h
/-! ### a set of a tuple of numbers -/
/-! ### looked at ahead of a step (apply fails at once where exact, refine and show take seconds) -/
theorem eq_id {α : Sort _} {a b : α} (h : a = b) : a = b := h
theorem ile_id {a b : Int} (h : a ≤ b) : a ≤ b := h
theorem ilt_id {a b : Int} (h : a < b) : a < b := h
theorem nle_id {a b : Nat} (h : a ≤ b) : a ≤ b := h
theorem nlt_id {a b : Nat} (h : a < b) : a < b := h
section
variable {K : PySem.W.Frag} {C CM CL CG p h a L1 L2 : Addr} {H H' : Hp} {v : V} {k n : Nat} {z : Q2} {vs : List V} {zs ys : List Q2} {e : Option Q2} {r : Str} {lo hi : Option Q2} {o : Option HO} {x : HO} {P Q : Prop}
end
/-! ### what follows a statement, kept out of sight while it is read -/
/-! ### a comprehension over a list that draws, some left out -/
theorem AllTQ.nl {H H' : Hp} {k : Nat} {vs : List V} (m : AllTQ H k vs) (s : Nl H H') : AllTQ H' k vs := fun x hx => by
  obtain ⟨z, t⟩ := m x hx
  exact ⟨z, t.nl s⟩
theorem AllTQ.same {H H' : Hp} {k : Nat} {vs : List V} (m : AllTQ H k vs) (s : Same H H') : AllTQ H' k vs := m.nl (Nl.of s)
theorem AllTQ.mono {H : Hp} {k j : Nat} {vs : List V} (m : AllTQ H k vs) (l : k ≤ j) : AllTQ H j vs := fun x hx => by
  obtain ⟨z, t⟩ := m x hx
  exact ⟨z, t.mono l⟩
theorem Kp.up2 {h D : Addr} {H H1 : Hp} {u : HO} (k : Kp h H H1) (hD : H D = none) : Kp h H (upd H1 D u) := fun c o e n => by
  rw [upd_ne (ne_of_none e hD)]
  exact k c o e n
end My
namespace My
open PySem PySem.Spec PyProof.Rows L2
/-! ### the stretches of a ladder's sizes, held -/
theorem MAt.nl {C p : Addr} {H H' : Hp} {t u : Int} (a : MAt C H p t u) (s : Nl H H') : MAt C H' p t u := by
  obtain ⟨dx, h⟩ := a
  exact ⟨dx, s _ _ h rfl⟩
theorem MsV.nl {C : Addr} {H H' : Hp} {v : V} (s : Nl H H') : ∀ {e : Option Q2}, MsV C H v e → MsV C H' v e
  | none, h => h
  | some _, ⟨p, h1, h2⟩ => ⟨p, h1, h2.nl s⟩
theorem StAt.nl {CM CS p : Addr} {H H' : Hp} {lo hi : Option Q2} {li hj : Bool} (a : StAt CM CS H p lo hi li hj) (s : Nl H H') : StAt CM CS H' p lo hi li hj := by
  obtain ⟨⟨dx, l, h, h1, h2, h3⟩, a1, a2, a3, a4⟩ := a
  exact ⟨⟨dx, l, h, s _ _ h1 rfl, h2.nl s, h3.nl s⟩, a1, a2, a3, a4⟩
theorem StQ.nl {CM CS p : Addr} {H H' : Hp} {x y : Option Q2 × Bool} (a : StQ CM CS H p x y) (s : Nl H H') : StQ CM CS H' p x y := by
  obtain ⟨lo, hi, h1, h2, h3⟩ := a
  exact ⟨lo, hi, h1.nl s, h2, h3⟩
/-- the stretch of a size, or None -/
def RunV (CM CS : Addr) (H : Hp) (v : V) (zs : List Q2) (r : Str) (lo hi : Option Q2) (n : Nat) : Prop :=
  (sizB zs r lo hi n = true ∧ ∃ p, v = .ref p ∧ StQ CM CS H p (sizE zs r lo hi n).1 (sizE zs r lo hi n).2) ∨ (sizB zs r lo hi n = false ∧ v = .non)
section
variable {CM CS : Addr} {H H' : Hp} {v : V} {zs : List Q2} {r : Str} {lo hi : Option Q2} {n : Nat}
theorem RunV.same (a : RunV CM CS H v zs r lo hi n) (s : Same H H') : RunV CM CS H' v zs r lo hi n := by
  rcases a with ⟨h, p, e, q⟩ | h
  · exact .inl ⟨h, p, e, q.same s⟩
  · exact .inr h
theorem RunV.nl (a : RunV CM CS H v zs r lo hi n) (s : Nl H H') : RunV CM CS H' v zs r lo hi n := by
  rcases a with ⟨h, p, e, q⟩ | h
  · exact .inl ⟨h, p, e, q.nl s⟩
  · exact .inr h
theorem run_of (c : CutQ CM CS H v (sizE zs r lo hi n).1 (sizE zs r lo hi n).2) : RunV CM CS H v zs r lo hi n := by
  obtain ⟨x', y', c, ax, ay⟩ := c
  have e := Alike.someB ax ay
  rcases c with ⟨h, p, rfl, st⟩ | ⟨h, rfl⟩
  · refine .inl ⟨by unfold sizB; rw [← e]; exact h, p, rfl, x'.1, y'.1, ?_, ax.1, ay.1⟩
    rw [← ax.flag, ← ay.flag]
    exact st
  · exact .inr ⟨by unfold sizB; rw [← e]; exact h, rfl⟩
end
section
variable {CM CS : Addr} {H : Hp} {p q : Addr} {x y x2 y2 : Option Q2 × Bool}
theorem StQ.raw (a : StQ CM CS H p x y) {m : Str} (h1 : ¬ m = "low") (h2 : ¬ m = "high") (h3 : ¬ m = "low_in") (h4 : ¬ m = "high_in") {R : Prop} (h : R) : ∃ a dx fs, V.ref p = .ref a ∧ H a = some (.ins CS dx fs) ∧ fs.lookup m = none ∧ R := by
  obtain ⟨lo, hi, s, _⟩ := a
  exact meth_s s h1 h2 h3 h4 h
/-- an end of so many bits -/
def SzE (k : Nat) : Option Q2 → Prop
  | none => True
  | some a => Sz k a.1 ∧ Sz k a.2
theorem qo_of {k : Nat} {v : V} {m e : Option Q2} (a : MsV CM H v m) (l : LowO m) (r : ReO m e) (s : SzE k e) : QO CM H k v e := by
  cases m with
  | none =>
    cases e with
    | none => exact a
    | some _ => exact r.elim
  | some m =>
    cases e with
    | none => exact r.elim
    | some e =>
      obtain ⟨p, rfl, hp⟩ := a
      exact ⟨p, rfl, QAt.of hp l r s.1 s.2⟩
end
theorem SzE.mono {k j : Nat} (l : k ≤ j) : ∀ {o : Option Q2}, SzE k o → SzE j o
  | none, _ => trivial
  | some _, h => ⟨h.1.mono l, h.2.mono l⟩
theorem cutLo_sze {k : Nat} {a b : Option Q2} {i j : Bool} (h : SzE k a) (g : SzE k b) : SzE k (cutLo a i b j).1 := by
  cases a with
  | none => exact g
  | some a =>
    cases b with
    | none => exact h
    | some b =>
      show SzE k (if ltq a b then (some b, j) else if eqq a b then (some a, i && j) else (some a, i)).1
      split
      · exact g
      · split <;> exact h
theorem cutHi_sze {k : Nat} {a b : Option Q2} {i j : Bool} (h : SzE k a) (g : SzE k b) : SzE k (cutHi a i b j).1 := by
  cases a with
  | none => exact g
  | some a =>
    cases b with
    | none => exact h
    | some b =>
      show SzE k (if ltq b a then (some b, j) else if eqq a b then (some a, i && j) else (some a, i)).1
      split
      · exact g
      · split <;> exact h
def SzL (k : Nat) (zs : List Q2) : Prop := ∀ z ∈ zs, Sz k z.1 ∧ Sz k z.2
theorem SzL.get {k : Nat} {zs : List Q2} (h : SzL k zs) (i : Nat) : SzE k zs[i]? := by
  cases e : zs[i]? with
  | none => trivial
  | some a => exact h a (List.mem_of_getElem? e)
theorem SzL.end {k : Nat} {zs : List Q2} (h : SzL k zs) (i : Int) : SzE k (endQ zs i) := by
  unfold endQ
  split
  · exact h.get _
  · trivial
theorem SzL.mid {k : Nat} : ∀ {zs : List Q2}, SzL k zs → SzL (k + k + 12) (midq zs)
  | [], _ => fun z hz => by simp [midq] at hz
  | [_], _ => fun z hz => by simp [midq] at hz
  | a :: b :: r, h => fun z hz => by
    have hz' : z ∈ qhalf a b :: midq (b :: r) := hz
    rcases List.mem_cons.mp hz' with e | e
    · rw [e, qhalf_eq]
      have ha := h a (by simp)
      have hb := h b (by simp)
      have c1 : Sz (k + k + 1) (a.1 * b.2 + b.1 * a.2) := (ha.1.mul hb.2).add (hb.1.mul ha.2)
      have c2 : Sz (k + k) (a.2 * b.2) := ha.2.mul hb.2
      exact ⟨c1.mono (by omega), (c2.mul (show Sz 2 2 by decide)).mono (by omega)⟩
    · exact SzL.mid (fun y hy => h y (by simp [hy])) z e
theorem rulE_sz {k : Nat} {zs : List Q2} {r : Str} {n : Nat} (h : SzL k zs) : SzE (k + k + 12) (rulE zs r n).1.1 ∧ SzE (k + k + 12) (rulE zs r n).2.1 := by
  unfold rulE
  split
  · exact ⟨(h.end _).mono (by omega), (h.get _).mono (by omega)⟩
  · split
    · exact ⟨(h.get _).mono (by omega), (h.end _).mono (by omega)⟩
    · exact ⟨h.mid.end _, h.mid.end _⟩
theorem sizE_sz {k : Nat} {zs : List Q2} {r : Str} {lo hi : Option Q2} {n : Nat} (h : SzL k zs) (hl : SzE k lo) (hh : SzE k hi) : SzE (k + k + 12) (sizE zs r lo hi n).1.1 ∧ SzE (k + k + 12) (sizE zs r lo hi n).2.1 :=
  ⟨cutLo_sze (rulE_sz h).1 (hl.mono (by omega)), cutHi_sze (rulE_sz h).2 (hh.mono (by omega))⟩
theorem LawL.szs {H : Hp} {p : Addr} {part : Int} {ms : List Int} {r : Str} {lo hi : Option Int} (a : LawL H p part ms r lo hi) : SzL 40 (zq (4 * part) ms) ∧ SzE 40 (oq (4 * part) lo) ∧ SzE 40 (oq (4 * part) hi) := by
  have p0 := a.p0
  have p1 := a.p1
  have sp : Sz 40 (4 * part) := by show (4 * part).natAbs < 2 ^ 40; omega
  have sz : ∀ z : Int, -4000040 ≤ z → z ≤ 4000040 → Sz 40 z := fun z h1 h2 => by show z.natAbs < 2 ^ 40; omega
  refine ⟨fun z hz => ?_, ?_, ?_⟩
  · obtain ⟨m, hm, rfl⟩ := List.mem_map.mp hz
    have := a.bnd m hm
    exact ⟨sz m (by omega) (by omega), sp⟩
  · cases lo with
    | none => trivial
    | some z => have := a.blo z rfl; exact ⟨sz z this.1 this.2, sp⟩
  · cases hi with
    | none => trivial
    | some z => have := a.bhi z rfl; exact ⟨sz z this.1 this.2, sp⟩
theorem LadAt.up {K : PySem.W.Frag} {CM CL : Addr} {H : Hp} {p : Addr} {k j : Nat} {zs : List Q2} {r : Str} {lo hi : Option Q2} (a : LadAt K CM CL H p k zs r lo hi) (l : k ≤ j) : LadAt K CM CL H p j zs r lo hi := a.mono l
/-! ### measures that a stretch holds -/
def GoodM (CM : Addr) (x y : Option Q2 × Bool) (H : Hp) (ys : List V) : Prop := ∀ v ∈ ys, ∃ q z, v = .ref q ∧ QAt CM H q 300 z ∧ (loIn x.1 x.2 z && hiIn y.1 y.2 z) = true
theorem GoodM.nl {CM : Addr} {x y : Option Q2 × Bool} {H H' : Hp} {ys : List V} (g : GoodM CM x y H ys) (s : Nl H H') : GoodM CM x y H' ys := fun v hv => by
  obtain ⟨q, z, e, a, h⟩ := g v hv
  exact ⟨q, z, e, a.nl s, h⟩
theorem GoodM.snoc {CM : Addr} {x y : Option Q2 × Bool} {H : Hp} {ys : List V} {q : Addr} {z : Q2} (g : GoodM CM x y H ys) (a : QAt CM H q 300 z) (h : (loIn x.1 x.2 z && hiIn y.1 y.2 z) = true) : GoodM CM x y H (ys ++ [.ref q]) := fun v hv => by
  rcases List.mem_append.mp hv with hv | hv
  · exact g v hv
  · have : v = .ref q := by simpa using hv
    exact ⟨q, z, this, a, h⟩
section
variable {a b : Q2} {i j : Bool} {yo xo : Option Q2}
end
end My
namespace My
open PySem PySem.Spec PyProof.Rows L2
/-! ### comprehensions within comprehensions: the readings of the inner ones are found ahead -/
section
variable {X : Cx}
theorem pi_listK {K : PySem.W.Frag} {tg l : Expr} {tl : TE} (hl : PE X l tl) (hK : X.K = K := by rfl) : PI X tg l (iList K tl) := by subst hK; exact pi_list hl
theorem ps_setLcD {s0 : Shared} {H0 : Hp} {i : Nat} {y : Str} {py : Pos} {elt tg iter : Expr} {ifs : List Expr} {scope : Scope} {own : List (Str × Nat)} {pos spos : Pos} {wi : TI} {g : TG} {tt : TT} {te : TE} (hc : X.calm = true) (hN : X.N.Nodup) (hy : X.N[i]? = some y) (hyl : X.env.scope.names.lookup y = some .local)
    (hsw : swapsWith (.ListComp elt [⟨tg, iter, ifs, 0⟩] scope pos) (some (.Name y py)) spos.line X.env = pure true) (hi : PI X tg iter wi) (ok : BlkOk X.N X.env.scope scope own)
    (_ : PTs (X.blk s0 H0 scope (compEnvC scope [] 0 X.env) []) ifs tt) (_ : PE (X.blk s0 H0 scope (compEnvC scope [] 0 X.env) []) elt te)
    (hg : ∀ (s : Shared) (H : Hp) (C : Addr) (cl : List (Str × Addr)) (fp : List Addr), PG (X.blk s H scope (compEnvC scope cl C X.env) fp) tg g) (ht : ∀ (s : Shared) (H : Hp) (C : Addr) (cl : List (Str × Addr)) (fp : List Addr), PTs (X.blk s H scope (compEnvC scope cl C X.env) fp) ifs tt)
    (he : ∀ (s : Shared) (H : Hp) (C : Addr) (cl : List (Str × Addr)) (fp : List Addr), PE (X.blk s H scope (compEnvC scope cl C X.env) fp) elt te) (hs : ∀ x, foldedSetIterable iter X.env x = pure x := by intro _; rfl) :
    PS X (.Assign [.Name y py] (.ListComp elt [⟨tg, iter, ifs, 0⟩] scope pos) spos) (tAsg (tLc wi g tt te (own.map (·.2))) (gName i)) := ps_setLc hc hN hy hyl hsw hi ok hg ht he hs
end
end My
namespace My
open PySem PySem.Spec PyProof.Rows L2
/-! ### repr of a tuple that holds own objects -/
section
variable {X : Cx} {n : Nat} {CX : CXT} {C f : Addr} {fd : FuncData} {ps : List Str} {sp : Sp} {E : XK}
end
/-! ### == of tuples, item by item -/
section
open GQ
open AutoSeq1 (wpAny_loadPart')
variable {prog : Program} {w : World} {A : Around} {R : Result → Shared → Prop}
end
section
variable {X : Cx} {n : Nat} {D : Eqb}
end
/-! ### {x} of an own object, repr of one whose own def shows a tuple -/
section
variable {X : Cx} {n : Nat} {CX : CXT} {C f : Addr} {fd : FuncData} {ps : List Str} {sp : Sp} {E : XK}
end
end My
namespace My
open PySem PySem.Spec PyProof.Rows L2
/-! ### signs of texts; dicts beside own == -/
/-! ### own == within comprehensions: K by name -/
end My
/-! ### own errors whose __init__ calls super().__init__(..): over any built-in base -/
namespace My
open PySem PySem.Spec PyProof.Rows L2 NdefX Builtin Builtin.ObjectAttr
/-- own classes, then T -/
def refsT (T : List Value) : List Value → Bool
  | .ref _ :: r => refsT T r
  | l => l == T
/-- what is asked of the built-in base -/
structure BaseX (B newId initId : String) (T : List Value) : Prop where
  F : ExcBaseFacts B newId initId T
  KF : PySem.W.KxsFacts B initId
  pass : ∀ self, refuseLoop self "__setattr__" T = pure ()
  ob : T.contains (.type "object") = true
  ne : T ≠ []
  nr : ∀ c r, T ≠ .ref c :: r
theorem refsT_cases {T : List Value} : ∀ l : List Value, refsT T l = true → (∃ c r, l = .ref c :: r ∧ refsT T r = true) ∨ l = T
  | [], e => .inr (beq_iff_eq.mp e)
  | .ref c :: r, e => .inl ⟨c, r, rfl, e⟩
  | .none :: _, e => .inr (beq_iff_eq.mp e)
  | .ellipsis :: _, e => .inr (beq_iff_eq.mp e)
  | .notImplemented :: _, e => .inr (beq_iff_eq.mp e)
  | .bool _ :: _, e => .inr (beq_iff_eq.mp e)
  | .int _ _ :: _, e => .inr (beq_iff_eq.mp e)
  | .float _ _ :: _, e => .inr (beq_iff_eq.mp e)
  | .str _ _ :: _, e => .inr (beq_iff_eq.mp e)
  | .bytes _ _ :: _, e => .inr (beq_iff_eq.mp e)
  | .type _ :: _, e => .inr (beq_iff_eq.mp e)
  | .builtin _ :: _, e => .inr (beq_iff_eq.mp e)
section
variable {B newId initId : String} {T : List Value} (bx : BaseX B newId initId T)
include bx
theorem BaseX.contains (X : String) : ∀ l : List Value, refsT T l = true → l.contains (.type X) = T.contains (.type X) := by
  intro l
  induction l with
  | nil => intro e; exact absurd (beq_iff_eq.mp e).symm bx.ne
  | cons a r ih =>
    intro e
    rcases refsT_cases (a :: r) e with ⟨c, r', q, h⟩ | q
    · obtain ⟨rfl, rfl⟩ := List.cons.inj q
      rw [List.contains_cons, ih h]; rfl
    · rw [q]
end
section
open PySem.HandSPX (store_in_new)
variable {prog : Program} {w : World} {A : Around} {E : Value → Shared → Prop} {R : Result → Shared → Prop} {hp : Heap} {g : Array GenState} {d : Drawn} {t : Nat} {os : OsState}
end
section
variable {Bn newId initId : String} {T : List Value} (bx : BaseX Bn newId initId T) {X : Cx} {pins : List (Addr × Obj)} {σ : L2.St} {H : Hp} {s : Shared} {a C dx : Addr} {f : Str} {y : V} {u : Value} {fs : List (Str × V)} {Q : Unit → Shared → Prop} {E : Value → Shared → Prop} {A : Around}
include bx
end
/-! ### super().__init__(..), then the fields -/
/-- an own __init__ as it stands behind the top: its closure one cell that holds its class; f its address, cc the cell, cda its code object, told by the file fl -/
structure SupD (K : PySem.W.Frag) (C : Addr) (name qual : Str) (params : Arguments) (body : List Stmt) (scope : Scope) (dvs : List V) (f cc cda : Addr) (fl : Str) (fd : FuncData) : Prop where
  ex : ∃ (oc : Value) (od : Option Addr) (dV kV doc pm : Value) (an : Option Addr) (ct : Value) (osl : Array (Option Value)),
    fd = PySem.W.fnX name qual params body scope [("__class__", cc)] dV kV doc pm an (.ref cda) ct ∧ K.lookup f = some ⟨oc, od, .func fd, osl⟩ ∧ DflV K dV dvs ∧ KwdV K kV []
  cell : ∃ (c0 : Value) (d0 : Option Addr) (s0 : Array (Option Value)), K.lookup cc = some ⟨c0, d0, .cell (some (.ref C)), s0⟩
  code : ∃ (c0 : Value) (d0 : Option Addr) (vs : Array Value) (s0 : Array (Option Value)) (tf : Tok), K.lookup cda = some ⟨c0, d0, .fields vs, s0⟩ ∧ vs[2]? = some (.str fl tf)
  cin : PySem.W.codeIn K (.ref cda) qual = true
  kp : PySem.W.keepIn K (.ref f) = true
section
variable {Bn newId initId : String} {T : List Value} (bx : BaseX Bn newId initId T) {X : Cx} {pins : List (Addr × Obj)} {σ : L2.St} {H : Hp} {s : Shared} {e C : Addr} {Q : Value → Shared → Prop}
include bx
end
section
variable {Bn newId initId : String} {T : List Value} (bx : BaseX Bn newId initId T) {X : Cx} {pins : List (Addr × Obj)} {σ : L2.St} {H : Hp} {s : Shared} {a C cc cda f : Addr}
include bx
end
section
variable {Bn newId initId : String} {T : List Value} (bx : BaseX Bn newId initId T) {CX : CXT} {P : Program} {w : World} {K : PySem.W.Frag} {mg : Str → Option Value} {base : Heap} {k : Nat} {C : Addr}
include bx
end
end My
/-! ### errors with fields: made, caught, kept -/
namespace My
open PySem PySem.Spec PyProof.Rows L2 NdefX
/-! #### what the top has written of them -/
/-! #### the head with such __init__ -/
theorem SupD.bindsA {K : PySem.W.Frag} {C : Addr} {name qual : Str} {params : Arguments} {body : List Stmt} {scope : Scope} {f cc cda : Addr} {fl : Str} {fd : FuncData} {ps : List Str} (D : SupD K C name qual params body scope [] f cc cda fl fd)
    (h : ∀ (kV doc pm : Value) (an : Option Addr) (ct : Value) (us : List Value), us.length = ps.length → bindArgs (PySem.W.fnX name qual params body scope [("__class__", cc)] .none kV doc pm an (.ref cda) ct) ⟨us, []⟩ = pure (ps.zip us)) : Binds K fd ps [] := by
  obtain ⟨oc, od, dV, kV, doc, pm, an, ct, osl, rfl, lk, hD, hK⟩ := D.ex
  rcases hD with ⟨_, rfl⟩ | ⟨e, _⟩
  · exact .all (h kV doc pm an ct)
  · exact absurd rfl e
/-! #### self.f = e -/
/-! #### C(e, ..) -/
section
variable {Bn newId initId : String} {T : List Value} {X : Cx} {e : Expr} {es : List Expr} {ta : TA} {p pos : Pos} {CX : CXT} {x : Str} {C fI : Addr} {k : Nat} {fd : FuncData} {ps : List Str} {ds : List Value} {dvs : List V} {f g : Str}
end
/-! #### an error that was caught and is kept -/
/-! #### what is asked of a kept error -/
end My
namespace PySem.W
open PySem PySem.Spec PySem.Calls PyProof.Rows
section
variable {prog : Program} {w : World} {A : Around} {E : Value → Shared → Prop} {s : Shared} {K : Frag} {x D : Addr} {ox : Obj} {od : Option Obj}
end
end PySem.W
namespace My
open PySem PySem.Spec PyProof.Rows L2 NdefX
end My
/-! ### repr of plain dicts; things of any kind -/
namespace My
open PySem PySem.Spec PyProof.Rows L2 NdefX
def encK : Key → PyData
  | .inl i => .int i
  | .inr x => .str x
/-- a plain value: none, a truth, a whole number, a text -/
inductive Plain : V → PyData → Prop
  | non : Plain .non .none
  | bl (b : Bool) : Plain (.bl b) (.bool b)
  | int (i : Int) : Plain (.int i) (.int i)
  | str (x : Str) : Plain (.str x) (.str x)
inductive Flat : List (Key × V) → List (PyData × PyData) → Prop
  | nil : Flat [] []
  | cons {k : Key} {v : V} {d : PyData} {kvs : List (Key × V)} {D : List (PyData × PyData)} : Plain v d → Flat kvs D → Flat ((k, v) :: kvs) ((encK k, d) :: D)
/-- what repr shows of it -/
inductive Shw (K : PySem.W.Frag) (H : Hp) : V → Str → Prop
  | data {v : V} {d : PyData} : Dp K H v d → d.showable = true → d.hasDict = false → d.depth ≤ 60 → d.shown.length ≤ sizeLine → Shw K H v d.shown
  | dict {a : Addr} {kvs : List (Key × V)} {D : List (PyData × PyData)} : H a = some (.dK kvs) → Flat kvs D → (PyData.dict D).showable = true → (PyData.dict D).depth ≤ 60 → (PyData.dict D).shown.length ≤ sizeLine → Shw K H (.ref a) (PyData.dict D).shown
mutual
theorem Dp.same {K : PySem.W.Frag} {H H' : Hp} (s : Same H H') : ∀ {v : V} {d : PyData}, Dp K H v d → Dp K H' v d
  | _, _, .non => .non
  | _, _, .bl b => .bl b
  | _, _, .int i => .int i
  | _, _, .str x => .str x
  | _, _, .lst h a => .lst (s.seq h) (DpAll.same s a)
  | _, _, .tup h a => .tup (s.sqt h) (DpAll.same s a)
theorem DpAll.same {K : PySem.W.Frag} {H H' : Hp} (s : Same H H') : ∀ {vs : List V} {ds : List PyData}, DpAll K H vs ds → DpAll K H' vs ds
  | _, _, .nil => .nil
  | _, _, .cons h r => .cons (Dp.same s h) (DpAll.same s r)
end
theorem Shw.same {K : PySem.W.Frag} {H H' : Hp} {v : V} {z : Str} (h : Shw K H v z) (s : Same H H') : Shw K H' v z := by
  cases h with
  | data d a b c e => exact .data (Dp.same s d) a b c e
  | dict ha hf a b c => exact .dict (s _ _ ha) hf a b c
/-- its kind: one of the seven built-in ones -/
def Kd (H : Hp) (v : V) (kn : String) : Prop := (v = .non ∧ kn = "NoneType") ∨ (∃ b, v = .bl b ∧ kn = "bool") ∨ (∃ i, v = .int i ∧ kn = "int") ∨ (∃ z, v = .str z ∧ kn = "str") ∨ (∃ a xs, v = .ref a ∧ H a = some (.lst xs) ∧ kn = "list") ∨ (∃ a xs, v = .ref a ∧ H a = some (.tup xs) ∧ kn = "tuple") ∨ (∃ a xs, v = .ref a ∧ H a = some (.dK xs) ∧ kn = "dict")
theorem Kd.same {H H' : Hp} {v : V} {kn : String} (h : Kd H v kn) (s : Same H H') : Kd H' v kn := by
  rcases h with h | h | h | h | ⟨a, xs, e, h, n⟩ | ⟨a, xs, e, h, n⟩ | ⟨a, xs, e, h, n⟩
  · exact .inl h
  · exact .inr (.inl h)
  · exact .inr (.inr (.inl h))
  · exact .inr (.inr (.inr (.inl h)))
  · exact .inr (.inr (.inr (.inr (.inl ⟨a, xs, e, s _ _ h, n⟩))))
  · exact .inr (.inr (.inr (.inr (.inr (.inl ⟨a, xs, e, s _ _ h, n⟩)))))
  · exact .inr (.inr (.inr (.inr (.inr (.inr ⟨a, xs, e, s _ _ h, n⟩)))))
theorem Kd.ty {K : PySem.W.Frag} {H : Hp} {v : V} {kn : String} (h : Kd H v kn) : TyX K H v (.type kn) := by
  rcases h with ⟨rfl, rfl⟩ | ⟨b, rfl, rfl⟩ | ⟨i, rfl, rfl⟩ | ⟨z, rfl, rfl⟩ | ⟨a, xs, rfl, h, rfl⟩ | ⟨a, xs, rfl, h, rfl⟩ | ⟨a, xs, rfl, h, rfl⟩
  · exact .base .non
  · exact .base (.bl b)
  · exact .base (.int i)
  · exact .base (.str z)
  · exact .base (.lst h)
  · exact .base (.tup h)
  · exact .base (.dK h)
theorem Kd.names {H : Hp} {v : V} {kn : String} (h : Kd H v kn) : kn = "NoneType" ∨ kn = "bool" ∨ kn = "int" ∨ kn = "str" ∨ kn = "list" ∨ kn = "tuple" ∨ kn = "dict" := by
  rcases h with ⟨_, h⟩ | ⟨_, _, h⟩ | ⟨_, _, h⟩ | ⟨_, _, h⟩ | ⟨_, _, _, _, h⟩ | ⟨_, _, _, _, h⟩ | ⟨_, _, _, _, h⟩
  · exact .inl h
  · exact .inr (.inl h)
  · exact .inr (.inr (.inl h))
  · exact .inr (.inr (.inr (.inl h)))
  · exact .inr (.inr (.inr (.inr (.inl h))))
  · exact .inr (.inr (.inr (.inr (.inr (.inl h)))))
  · exact .inr (.inr (.inr (.inr (.inr (.inr h)))))
/-! ### o.m(e, ..) in a body from which an error may come -/
section
variable {X : Cx} {CX : CXT} {k : Nat} {f C : Addr} {fd : FuncData} {ps : List Str} {sp : Sp} {dvs : List V} {ds : List Value} {E : L2.St → XK} {x m : Str} {p pos apos : Pos} {e o : Expr} {es : List Expr} {ta : TE} {t : TA}
end
end My
namespace My
open PySem PySem.Spec PyProof.Rows L2
/-! ### comprehensions with two walks -/
/-- what the inner walk is asked -/
def Inn2 (g1 : TG) (tt1 : TT) (te : TE) (vs1 : List Nat) (D : Addr) (NX : Hp → Prop) (σ2 : L2.St) (J1 : It) (H4 : Hp) : Prop :=
  ∃ W1 : Nat → Nat → Hp → Prop, (∃ m, W1 0 m H4) ∧ ∀ j k H, W1 j k H →
      (J1.stop j H ∧ NX H) ∨ (J1.go j H ∧ ∃ Nx1 : Hp → Prop, (∀ H', Nx1 H' → ∃ k', k' < k ∧ W1 (j + 1) k' H') ∧ ∀ x H', J1.yld j H x H' → g1 x (wipe σ2 vs1) H' fun σ3 H5 => wipe σ3 vs1 = wipe σ2 vs1 ∧ tt1 σ3 H5 fun b H6 =>
        if b = true then te σ3 H6 fun y H7 => ∃ acc, H7 D = some (.lst acc) ∧ acc.length < sizeLine ∧ Nx1 (upd H7 D (.lst (acc ++ [y]))) else Nx1 H6)
theorem inn2 {J1 : It} {m : Nat} {G1 : Hp → Prop} {Y1 : Nat → Hp → V → Hp → Prop} (w : Walk J1 m G1 Y1) {g1 : TG} {tt1 : TT} {te : TE} {vs1 : List Nat} {D : Addr} {NX : Hp → Prop} {σ2 : L2.St} {H4 : Hp} (Pv : Nat → Hp → Prop) (h0 : Pv 0 H4) (hG : ∀ j H, j ≤ m → Pv j H → G1 H)
    (hs : ∀ j x H H', j < m → Pv j H → Y1 j H x H' → g1 x (wipe σ2 vs1) H' fun σ3 H5 => wipe σ3 vs1 = wipe σ2 vs1 ∧ tt1 σ3 H5 fun b H6 =>
        if b = true then te σ3 H6 fun y H7 => ∃ acc, H7 D = some (.lst acc) ∧ acc.length < sizeLine ∧ Pv (j + 1) (upd H7 D (.lst (acc ++ [y]))) else Pv (j + 1) H6) (hd : ∀ H, Pv m H → NX H) : Inn2 g1 tt1 te vs1 D NX σ2 J1 H4 := by
  refine ⟨fun j k H => k = m - j ∧ j ≤ m ∧ Pv j H, ⟨m, by simp, Nat.zero_le _, h0⟩, ?_⟩
  rintro i k H ⟨rfl, hi, p⟩
  have q := hG i H hi p
  by_cases hlt : i < m
  · refine .inr ⟨w.goes i H hlt q, Pv (i + 1), fun H' p' => ⟨m - (i + 1), by omega, rfl, hlt, p'⟩, fun x H' y => hs i x H H' hlt p (w.yields i H x H' hlt q y)⟩
  · have e : i = m := by omega
    subst e
    exact .inl ⟨w.stops H q, hd H p⟩
/-! ### pairs of sizes, feet, rules broken -/
def PrV (H : Hp) (v : V) (p : Nat × Nat) : Prop := ∃ T, v = .ref T ∧ H T = some (.tup [.int (p.1 : Int), .int (p.2 : Int)])
theorem PrV.same {H H' : Hp} {v : V} {p : Nat × Nat} (a : PrV H v p) (s : Same H H') : PrV H' v p := by
  obtain ⟨T, e, h⟩ := a
  exact ⟨T, e, s _ _ h⟩
theorem PrV.nl {H H' : Hp} {v : V} {p : Nat × Nat} (a : PrV H v p) (s : Nl H H') : PrV H' v p := by
  obtain ⟨T, e, h⟩ := a
  exact ⟨T, e, s _ _ h rfl⟩
theorem PrV.kp {H H' : Hp} {h : Addr} {n : Nat} {v : V} {p : Nat × Nat} (a : PrV H v p) (hh : HandAt H h n) (s : Kp h H H') : PrV H' v p := by
  obtain ⟨T, e, h⟩ := a
  exact ⟨T, e, s.get hh h rfl⟩
/-- a grid, its ladders, their bits -/
structure GC (K : PySem.W.Frag) (CM CL CG : Addr) (H : Hp) (p : Addr) (j k : Nat) (L1 L2 : Addr) (zs ys : List Q2) (g : Q2) : Prop where
  ag : GrdAt K CM CL CG H p j L1 L2 g
  a1 : LadE K CM CL H L1 k zs
  a2 : LadE K CM CL H L2 k ys
  j0 : 0 < j
  j1 : j ≤ 1000
  k0 : 0 < k
  k1 : k ≤ 1000
  l0 : 0 < zs.length
  l1 : zs.length ≤ 24
  m0 : 0 < ys.length
  m1 : ys.length ≤ 24
section
variable {K : PySem.W.Frag} {CM CL CG p h L1 L2 : Addr} {H H' : Hp} {j k n : Nat} {zs ys : List Q2} {g : Q2}
theorem GC.same (a : GC K CM CL CG H p j k L1 L2 zs ys g) (s : Same H H') : GC K CM CL CG H' p j k L1 L2 zs ys g := by
  obtain ⟨r1, lo1, hi1, a1⟩ := a.a1
  obtain ⟨r2, lo2, hi2, a2⟩ := a.a2
  exact { a with ag := a.ag.same s, a1 := ⟨_, _, _, a1.same s⟩, a2 := ⟨_, _, _, a2.same s⟩ }
theorem GC.kp (a : GC K CM CL CG H p j k L1 L2 zs ys g) (hh : HandAt H h n) (s : Kp h H H') : GC K CM CL CG H' p j k L1 L2 zs ys g := by
  obtain ⟨r1, lo1, hi1, a1⟩ := a.a1
  obtain ⟨r2, lo2, hi2, a2⟩ := a.a2
  exact { a with ag := a.ag.kp hh s, a1 := ⟨_, _, _, a1.kp hh s⟩, a2 := ⟨_, _, _, a2.kp hh s⟩ }
end
/-- a foot: two Measures -/
def FtV (K : PySem.W.Frag) (CM : Addr) (H : Hp) (m : Nat) (v : V) (f : Q2 × Q2) : Prop := ∃ t f1 f2, v = .ref t ∧ SqT K H t [.ref f1, .ref f2] ∧ QAt CM H f1 m f.1 ∧ QAt CM H f2 m f.2
theorem FtV.same {K : PySem.W.Frag} {CM : Addr} {H H' : Hp} {m : Nat} {v : V} {f : Q2 × Q2} (a : FtV K CM H m v f) (s : Same H H') : FtV K CM H' m v f := by
  obtain ⟨t, f1, f2, e, h1, h2, h3⟩ := a
  exact ⟨t, f1, f2, e, s.sqt h1, h2.same s, h3.same s⟩
theorem FtV.nl {K : PySem.W.Frag} {CM : Addr} {H H' : Hp} {m : Nat} {v : V} {f : Q2 × Q2} (a : FtV K CM H m v f) (s : Nl H H') : FtV K CM H' m v f := by
  obtain ⟨t, f1, f2, e, h1, h2, h3⟩ := a
  exact ⟨t, f1, f2, e, sqt_nl h1 s, h2.nl s, h3.nl s⟩
theorem FtV.kp {K : PySem.W.Frag} {CM : Addr} {H H' : Hp} {h : Addr} {n m : Nat} {v : V} {f : Q2 × Q2} (a : FtV K CM H m v f) (hh : HandAt H h n) (s : Kp h H H') : FtV K CM H' m v f := by
  obtain ⟨t, f1, f2, e, h1, h2, h3⟩ := a
  exact ⟨t, f1, f2, e, sqt_kp h1 hh s, h2.kp hh s, h3.kp hh s⟩
/-- several feet -/
structure Fts (K : PySem.W.Frag) (CM : Addr) (H : Hp) (m : Nat) (us : List V) (fs : List (Q2 × Q2)) : Prop where
  len : us.length = fs.length
  all : ∀ (i : Nat) (v : V) (f : Q2 × Q2), us[i]? = some v → fs[i]? = some f → FtV K CM H m v f
section
variable {K : PySem.W.Frag} {CM h : Addr} {H H' : Hp} {m n : Nat} {us : List V} {fs : List (Q2 × Q2)}
theorem Fts.same (a : Fts K CM H m us fs) (s : Same H H') : Fts K CM H' m us fs := ⟨a.len, fun i v f h1 h2 => (a.all i v f h1 h2).same s⟩
theorem Fts.nl (a : Fts K CM H m us fs) (s : Nl H H') : Fts K CM H' m us fs := ⟨a.len, fun i v f h1 h2 => (a.all i v f h1 h2).nl s⟩
theorem Fts.kp (a : Fts K CM H m us fs) (hh : HandAt H h n) (s : Kp h H H') : Fts K CM H' m us fs := ⟨a.len, fun i v f h1 h2 => (a.all i v f h1 h2).kp hh s⟩
theorem Fts.of (a : Fts K CM H m us fs) {i : Nat} {v : V} (h1 : us[i]? = some v) : ∃ f, fs[i]? = some f ∧ FtV K CM H m v f := by
  have hi : i < fs.length := by rw [← a.len]; exact (List.getElem?_eq_some_iff.mp h1).1
  exact ⟨_, List.getElem?_eq_getElem hi, a.all i v _ h1 (List.getElem?_eq_getElem hi)⟩
theorem Fts.at (a : Fts K CM H m us fs) {i : Nat} {f : Q2 × Q2} (h1 : fs[i]? = some f) : ∃ v, us[i]? = some v ∧ FtV K CM H m v f := by
  have hi : i < us.length := by rw [a.len]; exact (List.getElem?_eq_some_iff.mp h1).1
  exact ⟨_, List.getElem?_eq_getElem hi, a.all i _ f (List.getElem?_eq_getElem hi) h1⟩
end
def FoV (H : Hp) (v : V) : Option (Nat × Str) → Prop
  | none => v = .non
  | some q => ∃ T, v = .ref T ∧ H T = some (.tup [.int (q.1 : Int), .str q.2])
theorem FoV.same {H H' : Hp} {v : V} (s : Same H H') : ∀ {o : Option (Nat × Str)}, FoV H v o → FoV H' v o
  | none, h => h
  | some _, ⟨T, h1, h2⟩ => ⟨T, h1, s _ _ h2⟩
/-- a paper -/
def PpV (H : Hp) (v : V) (p : Nat × Nat) (q : Nat × Str) : Prop := ∃ T, v = .ref T ∧ H T = some (.tup [.int (p.1 : Int), .int (p.2 : Int), .int (q.1 : Int), .str q.2])
theorem PpV.same {H H' : Hp} {v : V} {p : Nat × Nat} {q : Nat × Str} (a : PpV H v p q) (s : Same H H') : PpV H' v p q := by
  obtain ⟨T, e, h⟩ := a
  exact ⟨T, e, s _ _ h⟩
theorem PpV.nl {H H' : Hp} {v : V} {p : Nat × Nat} {q : Nat × Str} (a : PpV H v p q) (s : Nl H H') : PpV H' v p q := by
  obtain ⟨T, e, h⟩ := a
  exact ⟨T, e, s _ _ h rfl⟩
theorem PpV.kp {H H' : Hp} {h : Addr} {n : Nat} {v : V} {p : Nat × Nat} {q : Nat × Str} (a : PpV H v p q) (hh : HandAt H h n) (s : Kp h H H') : PpV H' v p q := by
  obtain ⟨T, e, h⟩ := a
  exact ⟨T, e, s.get hh h rfl⟩
/-- the papers of pairs each of which is broken -/
structure Pps (H : Hp) (us : List V) (ps : List (Nat × Nat)) (F : Nat × Nat → Option (Nat × Str)) : Prop where
  len : us.length = ps.length
  all : ∀ (i : Nat) (v : V) (p : Nat × Nat), us[i]? = some v → ps[i]? = some p → ∃ q, F p = some q ∧ PpV H v p q
section
variable {H H' : Hp} {h : Addr} {n : Nat} {us : List V} {ps : List (Nat × Nat)} {F : Nat × Nat → Option (Nat × Str)}
theorem Pps.same (a : Pps H us ps F) (s : Same H H') : Pps H' us ps F := ⟨a.len, fun i v p h1 h2 => by
  obtain ⟨q, e, h⟩ := a.all i v p h1 h2
  exact ⟨q, e, h.same s⟩⟩
theorem Pps.nl (a : Pps H us ps F) (s : Nl H H') : Pps H' us ps F := ⟨a.len, fun i v p h1 h2 => by
  obtain ⟨q, e, h⟩ := a.all i v p h1 h2
  exact ⟨q, e, h.nl s⟩⟩
theorem Pps.kp (a : Pps H us ps F) (hh : HandAt H h n) (s : Kp h H H') : Pps H' us ps F := ⟨a.len, fun i v p h1 h2 => by
  obtain ⟨q, e, h⟩ := a.all i v p h1 h2
  exact ⟨q, e, h.kp hh s⟩⟩
end
/-- what pair_for tells -/
def ToldV (H : Hp) (v : V) (ps : List (Nat × Nat)) (F : Nat × Nat → Option (Nat × Str)) : Option (Nat × Nat) → Prop
  | some p => ∃ T w, v = .ref T ∧ H T = some (.tup [.str "pair", w]) ∧ PrV H w p
  | none => ∃ T q us, v = .ref T ∧ H T = some (.tup [.str "none", .ref q]) ∧ H q = some (.tup us) ∧ Pps H us ps F
theorem ToldV.same {H H' : Hp} {v : V} {ps : List (Nat × Nat)} {F : Nat × Nat → Option (Nat × Str)} (s : Same H H') : ∀ {o : Option (Nat × Nat)}, ToldV H v ps F o → ToldV H' v ps F o
  | some _, ⟨T, w, h1, h2, h3⟩ => ⟨T, w, h1, s _ _ h2, h3.same s⟩
  | none, ⟨T, q, us, h1, h2, h3, h4⟩ => ⟨T, q, us, h1, s _ _ h2, s _ _ h3, h4.same s⟩
theorem ToldV.nl {H H' : Hp} {v : V} {ps : List (Nat × Nat)} {F : Nat × Nat → Option (Nat × Str)} (s : Nl H H') : ∀ {o : Option (Nat × Nat)}, ToldV H v ps F o → ToldV H' v ps F o
  | some _, ⟨T, w, h1, h2, h3⟩ => ⟨T, w, h1, s _ _ h2 rfl, h3.nl s⟩
  | none, ⟨T, q, us, h1, h2, h3, h4⟩ => ⟨T, q, us, h1, s _ _ h2 rfl, s _ _ h3 rfl, h4.nl s⟩
theorem ToldV.kp {H H' : Hp} {h : Addr} {n : Nat} {v : V} {ps : List (Nat × Nat)} {F : Nat × Nat → Option (Nat × Str)} (hh : HandAt H h n) (s : Kp h H H') : ∀ {o : Option (Nat × Nat)}, ToldV H v ps F o → ToldV H' v ps F o
  | some _, ⟨T, w, h1, h2, h3⟩ => ⟨T, w, h1, s.get hh h2 rfl, h3.kp hh s⟩
  | none, ⟨T, q, us, h1, h2, h3, h4⟩ => ⟨T, q, us, h1, s.get hh h2 rfl, s.get hh h3 rfl, h4.kp hh s⟩
end My
/-! ### zip of two walks, each over a list (false) or a tuple (true) -/
namespace My
open PySem PySem.Spec PyProof.Rows L2
def KI (b : Bool) (h : Heap) (it l : Addr) (i : Nat) : Prop := if b = true then h.IsTupleIter it l i else h.IsListIter it l i
def KS (b : Bool) (h : Heap) (l : Addr) (items : Array Value) : Prop := if b = true then h.IsTuple l items else h.IsList l items
section
variable {b : Bool} {h h' : Heap} {it l c : Addr} {i : Nat} {items : Array Value}
theorem KI.ext (a : KI b h it l i) (k : Heap.ExtBut c h h') (n : it ≠ c) : KI b h' it l i := by
  cases b with
  | false => exact Heap.IsListIter.extBut (show h.IsListIter it l i from a) k n
  | true => exact Heap.IsTupleIter.extBut (show h.IsTupleIter it l i from a) k n
theorem KI.obj (a : KI b h it l i) : ∃ o, h.get? it = some o ∧ ∀ v, o.data ≠ .cell v := by
  cases b with
  | false =>
    obtain ⟨o, e, _, d⟩ := (show h.IsListIter it l i from a)
    exact ⟨o, e, fun v q => by rw [d] at q; cases q⟩
  | true =>
    obtain ⟨o, e, _, d⟩ := (show h.IsTupleIter it l i from a)
    exact ⟨o, e, fun v q => by rw [d] at q; cases q⟩
theorem KS.ext (a : KS b h l items) (k : Heap.ExtBut c h h') (n : l ≠ c) : KS b h' l items := by
  cases b with
  | false => exact Heap.IsList.extBut (show h.IsList l items from a) k n
  | true => exact Heap.IsTuple.extBut (show h.IsTuple l items from a) k n
theorem KS.lt (a : KS b h l items) : l < h.objs.size := by
  cases b with
  | false =>
    obtain ⟨o, e, _⟩ := (show h.IsList l items from a)
    exact Heap.lt_size e
  | true =>
    obtain ⟨o, e, _⟩ := (show h.IsTuple l items from a)
    exact Heap.lt_size e
end
section
variable {prog : Program} {w : World} {A : Around} {E : Value → Shared → Prop} {s : Shared} {b : Bool} {it l : Addr} {i : Nat} {items : Array Value}
end

section
variable {prog : Program} {w : World} {A : Around} {E : Value → Shared → Prop} {s : Shared} {b1 b2 : Bool} {z TI TO i1 i2 l1 l2 : Addr} {k1 k2 : Nat} {xs ys : Array Value} {x y a b : Value}
end

/-! ### a > b of pairs of whole numbers -/
/-! ### t != () -/
end My
namespace My
open PySem PySem.Spec PyProof.Rows L2
end My
namespace My
open PySem PySem.Spec PyProof.Rows L2
/-! ### sorted(xs, key=len), xs a list of tuples -/
section
variable {prog : Program} {w : World} {A : Around} {E : Value → Shared → Prop} {s : Shared} {h0 : Heap} {a kS : Addr} {vs : List Value} {kz : List Int} {keys : Array Value} {e e1 : Nat} {P : PySem.Fin → Shared → Prop}
end
section
variable {prog : Program} {w : World} {A : Around} {E : Value → Shared → Prop} {s : Shared} {l : Addr} {vs : List Value} {kz : List Int} {Q : Value → Shared → Prop}
end
section
variable {X : Cx}
end
end My
namespace My
open PySem PySem.Spec PyProof.Rows L2
/-! ### min of a list of pairs of whole numbers -/
section
variable {prog : Program} {w : World} {A : Around} {R : Result → Shared → Prop} {I : Addr} {fp wr : List Addr} {n : Nat} {P : Nat → Value → Prop} {St : Nat → Heap → Prop}
end
section
variable {prog : Program} {w : World} {A : Around} {E : Value → Shared → Prop} {s : Shared}
end
end My
namespace My
open PySem PySem.Spec PyProof.Rows L2
/-! ### where two ladders part -/
/-- a rational number as a fraction -/
def ofR (r : Rat) : Q2 := (r.num, (r.den : Int))
theorem ofR_pos (r : Rat) : 0 < (ofR r).2 := by
  have := r.den_pos
  show (0 : Int) < (r.den : Int)
  omega
theorem toR_ofR (r : Rat) : toR (ofR r) = r := by
  unfold toR ofR
  show (r.num : Rat) / ((r.den : Int) : Rat) = r
  rw [← Rat.divInt_eq_div, Rat.num_divInt_den]
/-- the size of a measure, as a rational number -/
def sizF (zs : List Q2) (r : Str) (lo hi : Option Q2) (x : Rat) : Option Nat := sizeQ zs r lo hi (ofR x)
theorem posO_E {o : Option Q2} (h : PosO o) : PosE o := fun a e => by
  subst e
  exact h
theorem sizF_eq {zs : List Q2} {r : Str} {lo hi : Option Q2} {x : Q2} (L : LadQ zs r lo hi) (hx : 0 < x.2) : sizeQ zs r lo hi x = sizF zs r lo hi (toR x) :=
  sizeQ_congr L.pos (posO_E L.plo) (posO_E L.phi) (re_of_R hx (ofR_pos _) (toR_ofR _).symm)
def alkB (a b : Option Nat) (sh : Int) : Bool := match a, b with
  | none, none => true
  | some m, some n => decide ((n : Int) = (m : Int) + sh)
  | _, _ => false
/-- what parting tells: None for alike, else the measure, whether behind it, both sizes -/
abbrev PRes := Option (Rat × Bool × Option Nat × Option Nat)
def PartS (F G : Rat → Option Nat) (sh : Int) (lo hi : Rat) : PRes → Prop
  | none => ∀ x, lo ≤ x → x ≤ hi → alkB (F x) (G x) sh = true
  | some (m, false, a, b) => lo ≤ m ∧ m ≤ hi ∧ F m = a ∧ G m = b ∧ alkB a b sh = false ∧ ∀ x, lo ≤ x → x < m → alkB (F x) (G x) sh = true
  | some (m, true, a, b) => lo ≤ m ∧ m < hi ∧ alkB a b sh = false ∧ (∀ x, lo ≤ x → x ≤ m → alkB (F x) (G x) sh = true) ∧ ∃ e, m < e ∧ e ≤ hi ∧ ∀ x, m < x → x < e → F x = a ∧ G x = b
theorem midR {a b : Rat} (h : a < b) : a < (a + b) / 2 ∧ (a + b) / 2 < b := by
  constructor <;> grind
theorem PartS.uniq {F G : Rat → Option Nat} {sh : Int} {lo hi : Rat} : ∀ {r s : PRes}, PartS F G sh lo hi r → PartS F G sh lo hi s → r = s
  | none, none, _, _ => rfl
  | none, some (m, false, a, b), h, g => by
    obtain ⟨g1, g2, g3, g4, g5, g6⟩ := g
    have := h m g1 g2
    rw [g3, g4, g5] at this
    cases this
  | some (m, false, a, b), none, h, g => by
    obtain ⟨g1, g2, g3, g4, g5, g6⟩ := h
    have := g m g1 g2
    rw [g3, g4, g5] at this
    cases this
  | none, some (m, true, a, b), h, g => by
    obtain ⟨g1, g2, g3, g4, e, g5, g6, g7⟩ := g
    obtain ⟨m1, m2⟩ := midR g5
    have := h ((m + e) / 2) (by grind) (by grind)
    rw [(g7 _ m1 m2).1, (g7 _ m1 m2).2, g3] at this
    cases this
  | some (m, true, a, b), none, h, g => by
    obtain ⟨g1, g2, g3, g4, e, g5, g6, g7⟩ := h
    obtain ⟨m1, m2⟩ := midR g5
    have := g ((m + e) / 2) (by grind) (by grind)
    rw [(g7 _ m1 m2).1, (g7 _ m1 m2).2, g3] at this
    cases this
  | some (m, false, a, b), some (m', false, a', b'), h, g => by
    obtain ⟨h1, h2, h3, h4, h5, h6⟩ := h
    obtain ⟨g1, g2, g3, g4, g5, g6⟩ := g
    have e : m = m' := by
      by_cases c : m < m'
      · have := g6 m h1 c
        rw [h3, h4, h5] at this
        cases this
      · by_cases c' : m' < m
        · have := h6 m' g1 c'
          rw [g3, g4, g5] at this
          cases this
        · grind
    subst e
    rw [← h3, ← h4, ← g3, ← g4]
  | some (m, false, a, b), some (m', true, a', b'), h, g => by
    obtain ⟨h1, h2, h3, h4, h5, h6⟩ := h
    obtain ⟨g1, g2, g3, g4, e, g5, g6, g7⟩ := g
    by_cases c : m ≤ m'
    · have := g4 m h1 c
      rw [h3, h4, h5] at this
      cases this
    · by_cases d : e ≤ m
      · obtain ⟨m1, m2⟩ := midR g5
        have := h6 ((m' + e) / 2) (by grind) (by grind)
        rw [(g7 _ m1 m2).1, (g7 _ m1 m2).2, g3] at this
        cases this
      · have c2 : m' < m := by grind
        obtain ⟨m1, m2⟩ := midR c2
        have := h6 ((m' + m) / 2) (by grind) m2
        have q := g7 ((m' + m) / 2) m1 (by grind)
        rw [q.1, q.2, g3] at this
        cases this
  | some (m', true, a', b'), some (m, false, a, b), g, h => by
    obtain ⟨h1, h2, h3, h4, h5, h6⟩ := h
    obtain ⟨g1, g2, g3, g4, e, g5, g6, g7⟩ := g
    by_cases c : m ≤ m'
    · have := g4 m h1 c
      rw [h3, h4, h5] at this
      cases this
    · by_cases d : e ≤ m
      · obtain ⟨m1, m2⟩ := midR g5
        have := h6 ((m' + e) / 2) (by grind) (by grind)
        rw [(g7 _ m1 m2).1, (g7 _ m1 m2).2, g3] at this
        cases this
      · have c2 : m' < m := by grind
        obtain ⟨m1, m2⟩ := midR c2
        have := h6 ((m' + m) / 2) (by grind) m2
        have q := g7 ((m' + m) / 2) m1 (by grind)
        rw [q.1, q.2, g3] at this
        cases this
  | some (m, true, a, b), some (m', true, a', b'), h, g => by
    obtain ⟨h1, h2, h3, h4, d, h5, h6, h7⟩ := h
    obtain ⟨g1, g2, g3, g4, e, g5, g6, g7⟩ := g
    have key : ∀ (m m' d : Rat), m < d → m < m' → ∃ x, m < x ∧ x < d ∧ x ≤ m' := fun m m' d q1 q2 => by
      by_cases c : d ≤ m'
      · exact ⟨(m + d) / 2, (midR q1).1, (midR q1).2, by have := (midR q1).2; grind⟩
      · exact ⟨(m + m') / 2, (midR q2).1, by have := (midR q2).2; grind, by have := (midR q2).2; grind⟩
    have em : m = m' := by
      by_cases c : m < m'
      · obtain ⟨x, x1, x2, x3⟩ := key m m' d h5 c
        have := g4 x (by grind) x3
        rw [(h7 x x1 x2).1, (h7 x x1 x2).2, h3] at this
        cases this
      · by_cases c' : m' < m
        · obtain ⟨x, x1, x2, x3⟩ := key m' m e g5 c'
          have := h4 x (by grind) x3
          rw [(g7 x x1 x2).1, (g7 x x1 x2).2, g3] at this
          cases this
        · grind
    subst em
    obtain ⟨x, x1, x2, x3⟩ := key m e d h5 g5
    have x4 : m < (m + x) / 2 ∧ (m + x) / 2 < x := midR x1
    have p := h7 ((m + x) / 2) x4.1 (by grind)
    have q := g7 ((m + x) / 2) x4.1 (by grind)
    rw [← p.1, ← p.2, ← q.1, ← q.2]
/-- points from lo to hi between which nothing changes -/
structure Pts (F G : Rat → Option Nat) (lo hi : Rat) (ps : List Rat) : Prop where
  fst : ps[0]? = some lo
  lst : ps.getLast? = some hi
  rise : ∀ (i : Nat) (a b : Rat), ps[i]? = some a → ps[i + 1]? = some b → a < b
  gap : ∀ (i : Nat) (a b : Rat), ps[i]? = some a → ps[i + 1]? = some b → ∀ x y, a < x → x < b → a < y → y < b → F x = F y ∧ G x = G y
theorem riseR {ps : List Rat} (h : ∀ (i : Nat) (a b : Rat), ps[i]? = some a → ps[i + 1]? = some b → a < b) : ∀ {i j : Nat} {a b : Rat}, i < j → ps[i]? = some a → ps[j]? = some b → a < b
  | i, 0, _, _, hij, _, _ => by omega
  | i, j + 1, a, b, hij, ha, hb => by
    by_cases e : i = j
    · subst e; exact h i a b ha hb
    · have lj := (List.getElem?_eq_some_iff.mp hb).1
      have hc : ps[j]? = some ps[j] := List.getElem?_eq_getElem (by omega)
      have h1 := riseR h (show i < j by omega) ha hc
      have h2 := h j _ _ hc hb
      grind
theorem coverR : ∀ {ps : List Rat} {lo hi x : Rat}, ps[0]? = some lo → ps.getLast? = some hi → lo ≤ x → x ≤ hi → ∃ i a, ps[i]? = some a ∧ (x = a ∨ ∃ b, ps[i + 1]? = some b ∧ a < x ∧ x < b)
  | [], _, _, _, h, _, _, _ => by simp at h
  | [p], lo, hi, x, h, g, h1, h2 => by
    cases h
    cases g
    exact ⟨0, p, rfl, .inl (by grind)⟩
  | p :: q :: r, lo, hi, x, h, g, h1, h2 => by
    cases h
    by_cases c : x = p
    · exact ⟨0, p, rfl, .inl c⟩
    · by_cases d : x < q
      · exact ⟨0, p, rfl, .inr ⟨q, rfl, by grind, d⟩⟩
      · obtain ⟨i, a, e1, e2⟩ := coverR (ps := q :: r) (lo := q) (hi := hi) (x := x) rfl (by rw [List.getLast?_cons_cons] at g; exact g) (by grind) h2
        exact ⟨i + 1, a, by simpa using e1, by rcases e2 with e2 | ⟨b, e2, e3⟩
                                               · exact .inl e2
                                               · exact .inr ⟨b, by simpa using e2, e3⟩⟩
section
variable {F G : Rat → Option Nat} {sh : Int} {lo hi : Rat} {ps : List Rat}
theorem Pts.le (P : Pts F G lo hi ps) {i : Nat} {a : Rat} (h : ps[i]? = some a) : lo ≤ a ∧ a ≤ hi := by
  have l := (List.getElem?_eq_some_iff.mp h).1
  constructor
  · by_cases e : i = 0
    · subst e
      rw [P.fst] at h
      cases h
      exact Rat.le_refl
    · have := riseR P.rise (show 0 < i by omega) P.fst h
      grind
  · have hl : ps[ps.length - 1]? = some hi := by rw [← List.getLast?_eq_getElem?]; exact P.lst
    by_cases e : i = ps.length - 1
    · subst e
      rw [hl] at h
      cases h
      exact Rat.le_refl
    · have := riseR P.rise (show i < ps.length - 1 by omega) h hl
      grind
/-- all points and gaps ahead of the i-th are alike -/
theorem Pts.ahead (P : Pts F G lo hi ps) {i : Nat} {a : Rat} (h : ps[i]? = some a) (h1 : ∀ (j : Nat) (c : Rat), j < i → ps[j]? = some c → alkB (F c) (G c) sh = true)
    (h2 : ∀ (j : Nat) (c d : Rat), j < i → ps[j]? = some c → ps[j + 1]? = some d → ∃ y, c < y ∧ y < d ∧ alkB (F y) (G y) sh = true) : ∀ x, lo ≤ x → x < a → alkB (F x) (G x) sh = true := fun x x1 x2 => by
  obtain ⟨j, c, e1, e2⟩ := coverR P.fst P.lst x1 (by have := (P.le h).2; grind)
  have hj : j < i := by
    refine Nat.lt_of_not_le fun q => ?_
    have : a ≤ c := by
      by_cases e : i = j
      · subst e
        rw [h] at e1
        cases e1
        exact Rat.le_refl
      · have := riseR P.rise (show i < j by omega) h e1
        grind
    rcases e2 with e2 | ⟨b, _, e3, _⟩ <;> grind
  rcases e2 with rfl | ⟨b, e3, e4, e5⟩
  · exact h1 j _ hj e1
  · obtain ⟨y, y1, y2, y3⟩ := h2 j c b hj e1 e3
    have g := P.gap j c b e1 e3 x y e4 e5 y1 y2
    rw [g.1, g.2]
    exact y3
end
end My
namespace My
open PySem PySem.Spec PySem.Calls PyProof.Rows L2
/-! ### sorted(set(xs)) of a list of whole numbers, up to a thousand -/
section
variable {P : Program} {w : World} {A : Around} {E : Value → Shared → Prop} {s : Shared}
end
end My
namespace My
open PySem PySem.Spec PySem.Calls PyProof.Rows L2
/-! ### == and != of tuples whose items are whole numbers, texts, None or own objects -/
section
open GQ
open AutoSeq1 (wpAny_loadPart')
variable {prog : Program} {w : World} {A : Around} {R : Result → Shared → Prop}
end
section
variable {X : Cx} {n : Nat} {D : Eqb}
end
end My
namespace My
open PySem PySem.Spec PySem.Calls PyProof.Rows L2
/-! ### t[::-1] of a tuple -/
section
open HT
variable {prog : Program} {w : World} {A : Around} {E : Value → Shared → Prop} {s : Shared}
end
section
variable {X : Cx}
end
/-! ### things of any kind beside what is due, kind by kind -/
theorem TyOf.same' {K : PySem.W.Frag} {H H' : Hp} {v : V} {t : Value} (h : TyOf K H v t) (s : Same H H') : TyOf K H' v t := by
  cases h with
  | non => exact .non
  | bl x => exact .bl x
  | int i => exact .int i
  | str x => exact .str x
  | flt x => exact .flt x
  | lst e => exact .lst (s _ _ e)
  | frz e => exact .frz (s _ _ e)
  | tup e => exact .tup (s _ _ e)
  | dK e => exact .dK (s _ _ e)
  | dT e => exact .dT (s _ _ e)
  | ins e cl ha hn htk hm => exact .ins (s _ _ e) cl ha hn htk hm
theorem TyX.same' {K : PySem.W.Frag} {H H' : Hp} {v : V} {t : Value} (h : TyX K H v t) (s : Same H H') : TyX K H' v t := by
  cases h with
  | base h => exact .base (TyOf.same' h s)
  | byt b => exact .byt b
  | set e => exact .set (s _ _ e)
  | kList e c => exact .kList e c
  | kTuple e c => exact .kTuple e c
  | kDict e c => exact .kDict e c
  | fTuple e => exact .fTuple (s _ _ e)
  | fDict e => exact .fDict (s _ _ e)
inductive PK where
  | int (z : Int) | str (s : Str) | bl (b : Bool) | non | meas (z : Q2) | tup | oth
def PK.isT : PK → Bool | .tup => true | _ => false
def PK.isS : PK → Bool | .str _ => true | _ => false
def PK.isI : PK → Bool | .int _ => true | .bl _ => true | _ => false
def PK.isB : PK → Bool | .bl _ => true | _ => false
def PK.isM : PK → Bool | .meas _ => true | _ => false
def Isi (K : PySem.W.Frag) (H : Hp) (v : V) (u : Value) (b : Bool) : Prop := ∃ t, TyX K H v t ∧ PySem.W.kitOne K t u = some b
def PKat (CM : Addr) (H : Hp) (v : V) : PK → Prop
  | .int z => v = .int z
  | .str s => v = .str s
  | .bl b => v = .bl b
  | .non => v = .non
  | .meas z => ∃ (p : Addr) (j : Nat), v = .ref p ∧ QAt CM H p j z ∧ j ≤ 4000
  | .tup => ∃ a : Addr, v = .ref a
  | .oth => ∃ a : Addr, v = .ref a
structure PKs (K : PySem.W.Frag) (CM : Addr) (H : Hp) (v : V) (k : PK) : Prop where
  at_ : PKat CM H v k
  tup : Isi K H v (.type "tuple") k.isT
  str : Isi K H v (.type "str") k.isS
  int : Isi K H v (.type "int") k.isI
  bl : Isi K H v (.type "bool") k.isB
  mea : Isi K H v (.ref CM) k.isM
theorem PKs.same {K : PySem.W.Frag} {CM : Addr} {H H' : Hp} {v : V} {k : PK} (p : PKs K CM H v k) (s : Same H H') : PKs K CM H' v k := by
  have i : ∀ {u b}, Isi K H v u b → Isi K H' v u b := fun ⟨t, h, g⟩ => ⟨t, TyX.same' h s, g⟩
  refine ⟨?_, i p.tup, i p.str, i p.int, i p.bl, i p.mea⟩
  have h := p.at_
  cases k with
  | meas z =>
    obtain ⟨q, j, e, r, l⟩ := h
    exact ⟨q, j, e, r.same s, l⟩
  | _ => exact h
/-- a thing of any kind, a Measure, a Stretch or a Ladder -/
def ThgAt (CM CS CL h : Addr) (H : Hp) (v : V) : Prop := Thing h H v ∨ (∃ (p : Addr) (j : Nat) (z : Q2), v = .ref p ∧ QAt CM H p j z ∧ j ≤ 4000) ∨ ∃ (p C dx : Addr) (fs : List (Str × V)), v = .ref p ∧ H p = some (.ins C dx fs) ∧ (C = CS ∨ C = CL)
section
variable {K : PySem.W.Frag} {CM CS CL h : Addr} {H H' : Hp} {v : V} {n : Nat}
theorem ThgAt.same (t : ThgAt CM CS CL h H v) (s : Same H H') : ThgAt CM CS CL h H' v := by
  rcases t with t | ⟨p, j, z, e, q, l⟩ | ⟨p, C, dx, fs, e, g, c⟩
  · exact .inl (t.same s)
  · exact .inr (.inl ⟨p, j, z, e, q.same s, l⟩)
  · exact .inr (.inr ⟨p, C, dx, fs, e, s _ _ g, c⟩)
theorem ThgAt.kp (t : ThgAt CM CS CL h H v) (hh : HandAt H h n) (s : Kp h H H') : ThgAt CM CS CL h H' v := by
  rcases t with t | ⟨p, j, z, e, q, l⟩ | ⟨p, C, dx, fs, e, g, c⟩
  · exact .inl (t.kp hh s)
  · exact .inr (.inl ⟨p, j, z, e, q.kp hh s, l⟩)
  · exact .inr (.inr ⟨p, C, dx, fs, e, s.get hh g rfl, c⟩)
end
def Kds (K : PySem.W.Frag) (CM : Addr) (H : Hp) (xs : List V) (ks : List PK) : Prop := xs.length = ks.length ∧ ∀ (i : Nat) (x : V) (k : PK), xs[i]? = some x → ks[i]? = some k → PKs K CM H x k
theorem Kds.same {K : PySem.W.Frag} {CM : Addr} {H H' : Hp} {xs : List V} {ks : List PK} (p : Kds K CM H xs ks) (s : Same H H') : Kds K CM H' xs ks := ⟨p.1, fun i x k h1 h2 => (p.2 i x k h1 h2).same s⟩
/-- a thing that is looked at: a tuple of things with their kinds, or none -/
def Fnd (K : PySem.W.Frag) (CM : Addr) (H : Hp) (v : V) : Option (List PK) → Prop
  | none => ∃ k, PKs K CM H v k ∧ k.isT = false
  | some ks => ∃ (a : Addr) (xs : List V), v = .ref a ∧ SqT K H a xs ∧ xs.length ≤ 900 ∧ PKs K CM H v .tup ∧ Kds K CM H xs ks
theorem Fnd.same {K : PySem.W.Frag} {CM : Addr} {H H' : Hp} {v : V} : ∀ {o : Option (List PK)}, Fnd K CM H v o → Same H H' → Fnd K CM H' v o
  | none, ⟨k, p, e⟩, s => ⟨k, p.same s, e⟩
  | some ks, ⟨a, xs, e, q, l, p, d⟩, s => ⟨a, xs, e, s.sqt q, l, p.same s, d.same s⟩
/-- a thing that is no tuple -/
def ThgN (CM CS CL h : Addr) (H : Hp) (v : V) : Prop := v = .non ∨ (∃ b, v = .bl b) ∨ (∃ i, v = .int i) ∨ (∃ z, v = .str z) ∨ (∃ (a : Addr) (xs : List V), v = .ref a ∧ a ≠ h ∧ H a = some (.lst xs)) ∨ (∃ (a : Addr) (kvs : List (Key × V)), v = .ref a ∧ H a = some (.dK kvs)) ∨ (∃ (p : Addr) (j : Nat) (z : Q2), v = .ref p ∧ QAt CM H p j z ∧ j ≤ 4000) ∨ ∃ (p C dx : Addr) (fs : List (Str × V)), v = .ref p ∧ H p = some (.ins C dx fs) ∧ (C = CS ∨ C = CL)
/-- a thing, and if it is a tuple, of such things -/
def TopAt (CM CS CL h : Addr) (H : Hp) (v : V) : Prop := (∃ (a : Addr) (xs : List V), v = .ref a ∧ H a = some (.tup xs) ∧ xs.length ≤ 900 ∧ ∀ x ∈ xs, ThgAt CM CS CL h H x) ∨ ThgN CM CS CL h H v
section
variable {K : PySem.W.Frag} {CM CS CL h : Addr} {H H' : Hp} {v : V} {n : Nat}
theorem ThgN.kp (t : ThgN CM CS CL h H v) (hh : HandAt H h n) (s : Kp h H H') : ThgN CM CS CL h H' v := by
  rcases t with t | t | t | t | ⟨a, xs, e, n, t⟩ | ⟨a, xs, e, t⟩ | ⟨p, j, z, e, q, l⟩ | ⟨p, C, dx, fs, e, g, c⟩
  · exact .inl t
  · exact .inr (.inl t)
  · exact .inr (.inr (.inl t))
  · exact .inr (.inr (.inr (.inl t)))
  · exact .inr (.inr (.inr (.inr (.inl ⟨a, xs, e, n, s _ _ t n⟩))))
  · exact .inr (.inr (.inr (.inr (.inr (.inl ⟨a, xs, e, s.get hh t rfl⟩)))))
  · exact .inr (.inr (.inr (.inr (.inr (.inr (.inl ⟨p, j, z, e, q.kp hh s, l⟩))))))
  · exact .inr (.inr (.inr (.inr (.inr (.inr (.inr ⟨p, C, dx, fs, e, s.get hh g rfl, c⟩))))))
theorem TopAt.kp (t : TopAt CM CS CL h H v) (hh : HandAt H h n) (s : Kp h H H') : TopAt CM CS CL h H' v := by
  rcases t with ⟨a, xs, e, g, l, all⟩ | t
  · exact .inl ⟨a, xs, e, s.get hh g rfl, l, fun x hx => (all x hx).kp hh s⟩
  · exact .inr (t.kp hh s)
theorem TopAt.same (t : TopAt CM CS CL h H v) (hh : HandAt H h n) (s : Same H H') : TopAt CM CS CL h H' v := t.kp hh (Kp.same s)
end
end My
namespace My
open PySem PySem.Spec PyProof.Rows L2
/-! ### what sizes of two ladders have in common -/
theorem reO_self {o : Option Q2} (p : PosO o) : ReO o o := by
  cases o with
  | none => trivial
  | some a => exact ⟨p, p, rfl⟩
theorem szE_of {CM : Addr} {H : Hp} {k : Nat} {v : V} : ∀ {o : Option Q2}, QO CM H k v o → SzE k o
  | none, _ => trivial
  | some _, ⟨_, _, q⟩ => ⟨q.s1, q.s2⟩
theorem szL_of {CM : Addr} {H : Hp} {k : Nat} {ps : List V} {zs : List Q2} (m : Mks CM H k ps zs) : SzL k zs := fun z hz => by
  obtain ⟨i, hi⟩ := List.mem_iff_getElem?.mp hz
  obtain ⟨p, _, q⟩ := m.at hi
  exact ⟨q.s1, q.s2⟩
theorem mks_pos {C : Addr} {H : Hp} {k : Nat} {ps : List V} {qs : List Q2} (m : Mks C H k ps qs) : ∀ q ∈ qs, 0 < q.2 := fun z hz => by
  obtain ⟨i, hi⟩ := List.mem_iff_getElem?.mp hz
  obtain ⟨p, _, q⟩ := m.at hi
  exact q.pos
theorem poso_of {C : Addr} {H : Hp} {k : Nat} {v : V} : ∀ {o : Option Q2}, QO C H k v o → PosO o
  | none, _ => trivial
  | some _, ⟨_, _, q⟩ => q.pos
theorem ladq_of {K : PySem.W.Frag} {CM CL : Addr} {H : Hp} {p : Addr} {k : Nat} {zs : List Q2} {r : Str} {lo hi : Option Q2} (a : LadAt K CM CL H p k zs r lo hi) : LadQ zs r lo hi := by
  obtain ⟨⟨dx, T, ps, l, h, h1, h2, h3, h4, h5⟩, a1, a2, a3, a4, a5⟩ := a
  exact ⟨a3, mks_pos h3, poso_of h4, poso_of h5, a5⟩
/-- a Measure that both stretches hold, or none -/
def ShQ (CM : Addr) (H : Hp) (k : Nat) (v : V) (m1 m2 n1 n2 : Option Q2) (i1 i2 j1 j2 : Bool) : Prop :=
  (∃ (r : Addr) (z : Q2), v = .ref r ∧ QAt CM H r k z ∧ loIn m1 i1 z = true ∧ hiIn m2 i2 z = true ∧ loIn n1 j1 z = true ∧ hiIn n2 j2 z = true) ∨
  (someB (cutLo m1 i1 n1 j1).1 (cutHi m2 i2 n2 j2).1 (cutLo m1 i1 n1 j1).2 (cutHi m2 i2 n2 j2).2 = false ∧ v = .non)
def sp_some27 (CM CS : Addr) : Sp := fun vs H Q _ => ∃ (p : Addr) (k : Nat) (lo hi : Option Q2) (li hj : Bool), vs = [.ref p] ∧ StAt CM CS H p lo hi li hj ∧ SzE k lo ∧ SzE k hi ∧ someB lo hi li hj = true ∧ 0 < k ∧ k ≤ 2000 ∧
  ∀ (r : Addr) (z : Q2) (H' : Hp), Same H H' → QAt CM H' r (k + k + 12) z → loIn lo li z = true → hiIn hi hj z = true → Q (.ref r) H'
def sp_sh27 (CM CS : Addr) : Sp := fun vs H Q _ => ∃ (p q : Addr) (k : Nat) (m1 m2 n1 n2 : Option Q2) (i1 i2 j1 j2 : Bool), vs = [.ref p, .ref q] ∧ StAt CM CS H p m1 m2 i1 i2 ∧ StAt CM CS H q n1 n2 j1 j2 ∧ SzE k m1 ∧ SzE k m2 ∧ SzE k n1 ∧ SzE k n2 ∧ 0 < k ∧ k ≤ 2000 ∧
  ∀ (v : V) (H' : Hp), Same H H' → ShQ CM H' (k + k + 12) v m1 m2 n1 n2 i1 i2 j1 j2 → Q v H'
/-- a Measure that comes to size a of the one and to size b of the other, or none where none does -/
def MetV (CM : Addr) (H : Hp) (k : Nat) (v : V) (F G : Rat → Option Nat) (a b : Nat) : Prop :=
  (∃ (r : Addr) (z : Q2), v = .ref r ∧ QAt CM H r k z ∧ F (toR z) = some a ∧ G (toR z) = some b) ∨ (v = .non ∧ ∀ x, F x = some a → G x = some b → False)
theorem MetV.nl {CM : Addr} {H H' : Hp} {k : Nat} {v : V} {F G : Rat → Option Nat} {a b : Nat} (m : MetV CM H k v F G a b) (n : Nl H H') : MetV CM H' k v F G a b := by
  rcases m with ⟨r, z, e, q, h⟩ | m
  · exact .inl ⟨r, z, e, q.nl n, h⟩
  · exact .inr m
section
variable {zs zt : List Q2} {r rt : Str} {lo hi lt ht : Option Q2} {a b : Nat} {m1 m2 n1 n2 : Option Q2}
theorem lo_raw {x : Option Q2 × Bool} {m : Option Q2} {z : Q2} (re : ReO m x.1) (hz : 0 < z.2) : loIn m (x.2 && x.1.isSome) z = loIn x.1 x.2 z :=
  (loIn_alike (x := (m, x.2 && x.1.isSome)) (y := (x.1, x.2 && x.1.isSome)) ⟨re, fun _ => rfl⟩ (q := z) (r := z) ⟨hz, hz, rfl⟩).trans (loIn_flag (x := x) (q := z))
theorem hi_raw {x : Option Q2 × Bool} {m : Option Q2} {z : Q2} (re : ReO m x.1) (hz : 0 < z.2) : hiIn m (x.2 && x.1.isSome) z = hiIn x.1 x.2 z :=
  (hiIn_alike (x := (m, x.2 && x.1.isSome)) (y := (x.1, x.2 && x.1.isSome)) ⟨re, fun _ => rfl⟩ (q := z) (r := z) ⟨hz, hz, rfl⟩).trans (hiIn_flag (x := x) (q := z))
theorem in_raw (L : LadQ zs r lo hi) (ha : a < zs.length) (r1 : ReO m1 (sizE zs r lo hi a).1.1) (r2 : ReO m2 (sizE zs r lo hi a).2.1) {z : Q2} (hz : 0 < z.2) :
    (loIn m1 ((sizE zs r lo hi a).1.2 && (sizE zs r lo hi a).1.1.isSome) z = true ∧ hiIn m2 ((sizE zs r lo hi a).2.2 && (sizE zs r lo hi a).2.1.isSome) z = true) ↔ sizF zs r lo hi (toR z) = some a := by
  rw [lo_raw r1 hz, hi_raw r2 hz, ← sizF_eq L hz, ← siz_in L hz ha]
  unfold sizIn
  rw [Bool.and_eq_true]
/-- of two stretches of sizes -/
theorem met_of {CM : Addr} {H : Hp} {k : Nat} {v : V} (L : LadQ zs r lo hi) (M : LadQ zt rt lt ht) (ha : a < zs.length) (hb : b < zt.length) (p1 : PosO m1) (p2 : PosO m2) (q1 : PosO n1) (q2 : PosO n2)
    (r1 : ReO m1 (sizE zs r lo hi a).1.1) (r2 : ReO m2 (sizE zs r lo hi a).2.1) (s1 : ReO n1 (sizE zt rt lt ht b).1.1) (s2 : ReO n2 (sizE zt rt lt ht b).2.1)
    (h : ShQ CM H k v m1 m2 n1 n2 ((sizE zs r lo hi a).1.2 && (sizE zs r lo hi a).1.1.isSome) ((sizE zs r lo hi a).2.2 && (sizE zs r lo hi a).2.1.isSome) ((sizE zt rt lt ht b).1.2 && (sizE zt rt lt ht b).1.1.isSome) ((sizE zt rt lt ht b).2.2 && (sizE zt rt lt ht b).2.1.isSome)) :
    MetV CM H k v (sizF zs r lo hi) (sizF zt rt lt ht) a b := by
  rcases h with ⟨t, z, e, q, h1, h2, h3, h4⟩ | ⟨e, rfl⟩
  · exact .inl ⟨t, z, e, q, (in_raw L ha r1 r2 q.pos).mp ⟨h1, h2⟩, (in_raw M hb s1 s2 q.pos).mp ⟨h3, h4⟩⟩
  · refine .inr ⟨rfl, fun x f g => ?_⟩
    have hx := ofR_pos x
    have f1 := (in_raw L ha r1 r2 hx).mpr (by rw [toR_ofR]; exact f)
    have g1 := (in_raw M hb s1 s2 hx).mpr (by rw [toR_ofR]; exact g)
    have c1 := cutLo_in (i := ((sizE zs r lo hi a).1.2 && (sizE zs r lo hi a).1.1.isSome)) (j := ((sizE zt rt lt ht b).1.2 && (sizE zt rt lt ht b).1.1.isSome)) p1 q1 hx
    have c2 := cutHi_in (i := ((sizE zs r lo hi a).2.2 && (sizE zs r lo hi a).2.1.isSome)) (j := ((sizE zt rt lt ht b).2.2 && (sizE zt rt lt ht b).2.1.isSome)) p2 q2 hx
    rw [f1.1, g1.1] at c1
    rw [f1.2, g1.2] at c2
    rw [in_some (cutLo_pos p1 q1) (cutHi_pos p2 q2) hx c1 c2] at e
    cases e
end
/-- the sizes of the other one that size a meets: first and last -/
def LedS (F G : Rat → Option Nat) (a n : Nat) : Option (Nat × Nat) → Prop
  | none => ∀ b, b < n → ∀ x, F x = some a → G x = some b → False
  | some (c, d) => c < n ∧ d < n ∧ c ≤ d ∧ (∃ x, F x = some a ∧ G x = some c) ∧ (∃ x, F x = some a ∧ G x = some d) ∧ ∀ b x, F x = some a → G x = some b → c ≤ b ∧ b ≤ d
theorem LedS.uniq {F G : Rat → Option Nat} {a n : Nat} : ∀ {u v : Option (Nat × Nat)}, LedS F G a n u → LedS F G a n v → u = v
  | none, none, _, _ => rfl
  | none, some (c, d), h, ⟨g1, _, _, ⟨x, e1, e2⟩, _⟩ => (h c g1 x e1 e2).elim
  | some (c, d), none, ⟨g1, _, _, ⟨x, e1, e2⟩, _⟩, h => (h c g1 x e1 e2).elim
  | some (c, d), some (c', d'), ⟨_, _, _, ⟨x, e1, e2⟩, ⟨y, e3, e4⟩, h⟩, ⟨_, _, _, ⟨x', f1, f2⟩, ⟨y', f3, f4⟩, g⟩ => by
    have a1 := h c' x' f1 f2
    have a2 := h d' y' f3 f4
    have b1 := g c x e1 e2
    have b2 := g d y e3 e4
    rw [show c = c' by omega, show d = d' by omega]
/-! ### the sizes that one size meets are a run -/
section
variable {zs zt : List Q2} {r rt : Str} {lo hi lt ht : Option Q2} {a b c d : Nat} {x y z : Rat}
theorem ltq_of (h : ¬ y < x) : ltq (ofR y) (ofR x) = false := by
  cases e : ltq (ofR y) (ofR x) with
  | false => rfl
  | true =>
    have := (ltq_R (ofR_pos y) (ofR_pos x)).mp e
    rw [toR_ofR, toR_ofR] at this
    exact absurd this h
theorem sizF_iff : sizF zs r lo hi x = some a ↔ inO lo hi (ofR x) = true ∧ sizeR zs r (ofR x) = (a : Int) ∧ a < zs.length := by
  unfold sizF sizeQ
  by_cases h : inO lo hi (ofR x) = true
  · rw [if_pos h]
    by_cases g : 0 ≤ sizeR zs r (ofR x) ∧ sizeR zs r (ofR x) < zs.length
    · rw [if_pos g]
      constructor
      · intro e
        have e := Option.some.inj e
        exact ⟨h, by omega, by omega⟩
      · rintro ⟨_, e, _⟩
        rw [e]
        rfl
    · rw [if_neg g]
      constructor
      · intro e; cases e
      · rintro ⟨_, e, l⟩
        exact absurd ⟨by omega, by omega⟩ g
  · rw [if_neg h]
    constructor
    · intro e; cases e
    · rintro ⟨e, _⟩
      exact absurd e h
theorem sizR_le (p : PosL zs) (l : x ≤ y) : sizeR zs r (ofR x) ≤ sizeR zs r (ofR y) := sizeR_mono p (ofR_pos x) (ofR_pos y) (ltq_of (by grind))
theorem inO_conv (pl : PosO lo) (ph : PosO hi) (l1 : x ≤ z) (l2 : z ≤ y) (h1 : inO lo hi (ofR x) = true) (h2 : inO lo hi (ofR y) = true) : inO lo hi (ofR z) = true := by
  unfold inO at *
  rw [Bool.and_eq_true] at *
  constructor
  · cases lo with
    | none => rfl
    | some e =>
      have h : (!ltq (ofR x) e) = true := h1.1
      show (!ltq (ofR z) e) = true
      have pe : 0 < e.2 := pl
      cases g : ltq (ofR z) e with
      | false => rfl
      | true =>
        have g := (ltq_R (ofR_pos z) pe).mp g
        rw [toR_ofR] at g
        rw [(ltq_R (ofR_pos x) pe).mpr (by rw [toR_ofR]; grind)] at h
        cases h
  · cases hi with
    | none => rfl
    | some e =>
      have h : (!ltq e (ofR y)) = true := h2.2
      show (!ltq e (ofR z)) = true
      have pe : 0 < e.2 := ph
      cases g : ltq e (ofR z) with
      | false => rfl
      | true =>
        have g := (ltq_R pe (ofR_pos z)).mp g
        rw [toR_ofR] at g
        rw [(ltq_R pe (ofR_pos y)).mpr (by rw [toR_ofR]; grind)] at h
        cases h
/-- one size of a measure between two of that size -/
theorem siz_conv (L : LadQ zs r lo hi) (l1 : x ≤ z) (l2 : z ≤ y) (h1 : sizF zs r lo hi x = some a) (h2 : sizF zs r lo hi y = some a) : sizF zs r lo hi z = some a := by
  rw [sizF_iff] at *
  have e1 := sizR_le (r := r) L.pos l1
  have e2 := sizR_le (r := r) L.pos l2
  exact ⟨inO_conv L.plo L.phi l1 l2 h1.1 h2.1, by omega, h1.2.2⟩
theorem met_conv (L : LadQ zs r lo hi) (M : LadQ zt rt lt ht) (h1 : sizF zs r lo hi x = some a) (g1 : sizF zt rt lt ht x = some c) (h2 : sizF zs r lo hi y = some a) (g2 : sizF zt rt lt ht y = some d) (l1 : c ≤ b) (l2 : b ≤ d) : ∃ z, sizF zs r lo hi z = some a ∧ sizF zt rt lt ht z = some b := by
  by_cases e1 : b = c
  · subst e1; exact ⟨x, h1, g1⟩
  by_cases e2 : b = d
  · subst e2; exact ⟨y, h2, g2⟩
  have G1 := sizF_iff.mp g1
  have G2 := sizF_iff.mp g2
  have p := rulE_pos (r := rt) (n := b) M.pos
  obtain ⟨w, hw, i1, i2⟩ := some_in p.1 p.2 (rul_some (r := rt) (n := b) M.rise M.pos)
  have hb : b < zt.length := by omega
  have sw := (rul_in M.rise M.pos hw hb).mp (by unfold rulIn; rw [i1, i2]; rfl)
  have rw1 : sizeR zt rt (ofR (toR w)) = (b : Int) := by
    have f1 : ltq w (ofR (toR w)) = false := by
      cases e : ltq w (ofR (toR w)) with
      | false => rfl
      | true =>
        have := (ltq_R hw (ofR_pos _)).mp e
        rw [toR_ofR] at this
        exact absurd this (by grind)
    have f2 : ltq (ofR (toR w)) w = false := by
      cases e : ltq (ofR (toR w)) w with
      | false => rfl
      | true =>
        have := (ltq_R (ofR_pos _) hw).mp e
        rw [toR_ofR] at this
        exact absurd this (by grind)
    have m1 := sizeR_mono (r := rt) M.pos (ofR_pos (toR w)) hw f1
    have m2 := sizeR_mono (r := rt) M.pos hw (ofR_pos (toR w)) f2
    omega
  have lx : x ≤ toR w := Rat.not_lt.mp fun q => by
    have := sizR_le (r := rt) M.pos (Rat.le_of_lt q)
    omega
  have ly : toR w ≤ y := Rat.not_lt.mp fun q => by
    have := sizR_le (r := rt) M.pos (Rat.le_of_lt q)
    omega
  exact ⟨toR w, siz_conv L lx ly h1 h2, sizF_iff.mpr ⟨inO_conv M.plo M.phi lx ly G1.1 G2.1, rw1, hb⟩⟩
end
/-- the paper: a Measure for each size met, rising -/
structure PapS (CM : Addr) (H : Hp) (k : Nat) (ys : List V) (bs : List Nat) (F G : Rat → Option Nat) (a off n : Nat) : Prop where
  len : ys.length = bs.length
  rise : bs.Pairwise (· < ·)
  mem : ∀ b, b ∈ bs ↔ off ≤ b ∧ b < off + n ∧ ∃ x, F x = some a ∧ G x = some b
  all : ∀ (i : Nat) (y : V) (b : Nat), ys[i]? = some y → bs[i]? = some b → ∃ (r : Addr) (z : Q2), y = .ref r ∧ QAt CM H r k z ∧ F (toR z) = some a ∧ G (toR z) = some b
end My
namespace My
open PySem PySem.Spec PyProof.Rows L2
/-- a pot of draws: great cells, a seed, a turn -/
structure PotAt (H : Hp) (h g : Addr) (n : Nat) : Prop where
  ob : ∃ s t : Int, H h = some (.lst [.ref g, .int s, .int t]) ∧ 0 ≤ s ∧ s < 2305843009213693951 ∧ 0 ≤ t ∧ t ≤ (n : Int)
  gr : ∃ gs : List Int, H g = some (.lst (gs.map V.int)) ∧ (∀ z ∈ gs, 0 ≤ z) ∧ gs.length ≤ 63
  ne : g ≠ h
def Kp2 (h g : Addr) (H H' : Hp) : Prop := ∀ b o, H b = some o → b ≠ h → b ≠ g → H' b = some o
theorem Kp2.refl {h g : Addr} (H : Hp) : Kp2 h g H H := fun _ _ e _ _ => e
theorem Kp2.trans {h g : Addr} {A B C : Hp} (a : Kp2 h g A B) (b : Kp2 h g B C) : Kp2 h g A C := fun c o e n1 n2 => b c o (a c o e n1 n2) n1 n2
theorem Kp2.same {h g : Addr} {A B : Hp} (s : Same A B) : Kp2 h g A B := fun c o e _ _ => s c o e
theorem Kp2.up {h g p : Addr} {A B : Hp} {u : HO} (a : Kp2 h g A B) (np : B p = none) : Kp2 h g A (upd B p u) := a.trans (Kp2.same (same1 np))
theorem Kp2.puth {h g : Addr} {A B : Hp} {u : HO} (a : Kp2 h g A B) : Kp2 h g A (upd B h u) := fun c o e n1 n2 => by
  rw [upd_ne n1]
  exact a c o e n1 n2
theorem Kp2.putg {h g : Addr} {A B : Hp} {u : HO} (a : Kp2 h g A B) : Kp2 h g A (upd B g u) := fun c o e n1 n2 => by
  rw [upd_ne n2]
  exact a c o e n1 n2
section
variable {H H' : Hp} {h g p : Addr} {n : Nat}
theorem PotAt.same (a : PotAt H h g n) (s : Same H H') : PotAt H' h g n := by
  obtain ⟨⟨x, t, e, r⟩, ⟨gs, e2, r2⟩, ne⟩ := a
  exact ⟨⟨x, t, s _ _ e, r⟩, ⟨gs, s _ _ e2, r2⟩, ne⟩
theorem PotAt.mono {m : Nat} (a : PotAt H h g n) (l : n ≤ m) : PotAt H h g m := by
  obtain ⟨⟨x, t, e, r⟩, b, ne⟩ := a
  exact ⟨⟨x, t, e, r.1, r.2.1, r.2.2.1, by omega⟩, b, ne⟩
theorem PotAt.up {u : HO} (a : PotAt H h g n) (np : H p = none) : PotAt (upd H p u) h g n := a.same (same1 np)
theorem PotAt.nel (a : PotAt H h g n) (np : H p = none) : p ≠ h ∧ p ≠ g := by
  obtain ⟨⟨x, t, e, _⟩, ⟨gs, e2, _⟩, _⟩ := a
  exact ⟨fun q => (by rw [q, e] at np; cases np), fun q => (by rw [q, e2] at np; cases np)⟩
theorem PotAt.nl (a : PotAt H h g n) (k : Kp2 h g H H') : Nl H H' := fun c o e no => by
  obtain ⟨⟨x, t, e1, _⟩, ⟨gs, e2, _⟩, _⟩ := a
  refine k c o e (fun q => ?_) fun q => ?_
  · rw [q, e1] at e; cases e; cases no
  · rw [q, e2] at e; cases e; cases no
theorem PotAt.get {q : Addr} {o : HO} (a : PotAt H h g n) (k : Kp2 h g H H') (e : H q = some o) (no : notHand o = true) : H' q = some o := a.nl k _ _ e no
end
theorem cp10 : CPow 10 40 := ⟨by decide, by decide, by decide⟩
theorem p40 : (0 : Int) < 10 ^ (Int.toNat 40) := Int.pow_pos (by decide)
theorem cp18 : CPow 10 18 := ⟨by decide, by decide, by decide⟩
def sp_begin (K : PySem.W.Frag) : Sp := fun vs H Q _ => ∃ (a : Addr) (ns : List Int), vs = [.ref a] ∧ SqL K H a (ns.map V.int) ∧ ns.length ≤ 63 ∧ ∀ (h g : Addr) (H' : Hp), Same H H' → H h = none → H g = none → PotAt H' h g 0 → Q (.ref h) H'
def sp_pick27 : Sp := fun vs H Q _ => ∃ (h g : Addr) (n : Nat) (m : Int), vs = [.ref h, .int m] ∧ PotAt H h g n ∧ n < 100000 ∧ 0 < m ∧ m.natAbs.log2 < 9000 ∧ ∀ (d : Int) (H' : Hp), 0 ≤ d → d < m → PotAt H' h g (n + 1) → Kp2 h g H H' → Q (.int d) H'
theorem op_neL0 {X : Cx} (hu : X.A.units < cLine) : OpR X (compareOp .NotEq) (fun x y H Q => ∃ (a b : Addr) (xs : List V), x = .ref a ∧ y = .ref b ∧ SqL X.K H a xs ∧ SqL X.K H b [] ∧ Q (.bl (!xs.isEmpty)) H) := by
  intro pins s σ H x y v u Q I rx ry h
  obtain ⟨a, b, xs, rfl, rfl, ha, hb, q⟩ := h
  cases rx
  cases ry
  obtain ⟨its, rv, pl, _⟩ := I.list ha
  obtain ⟨its2, rv2, pl2, _⟩ := I.list hb
  have e2 : its2 = [] := by cases rv2; rfl
  subst e2
  cases xs with
  | nil =>
    have e1 : its = [] := by cases rv; rfl
    subst e1
    exact SeqAt.RcNeAt.lists (e := fun _ => true) pl.isList pl2.isList rfl hu (fun j h1 _ => absurd h1 (by simp)) X.prog X.w X.xe _ ⟨.bl false, H, I, rfl, q⟩
  | cons z r =>
    cases rv with
    | cons r1 rs => exact SeqAt.RcNeAt.lists_lengths pl.isList pl2.isList (by simp) hu X.prog X.w X.xe _ ⟨.bl true, H, I, rfl, q⟩

/-! ### fractions of the law: pairs in lowest terms -/
def PR (x : Rat) : HO := .tup [.int x.num, .int (x.den : Int)]
def SzR (k : Nat) (x : Rat) : Prop := Sz k x.num ∧ Sz k (x.den : Int)
theorem SzR.mono {a b : Nat} {x : Rat} (h : SzR a x) (l : a ≤ b) : SzR b x := ⟨h.1.mono l, h.2.mono l⟩
theorem den0 (x : Rat) : (0 : Int) < (x.den : Int) := by have := x.den_pos; omega
theorem toR_nd (x : Rat) : toR (x.num, (x.den : Int)) = x := by
  show (x.num : Rat) / ((x.den : Int) : Rat) = x
  rw [← Rat.divInt_eq_div]
  exact Rat.num_divInt_den x
theorem pr_of {t u a b : Int} (hb : 0 < b) (f : Fr t u a b) : (toR (a, b)).num = t ∧ ((toR (a, b)).den : Int) = u := by
  have up := f.pos
  obtain ⟨n, rfl⟩ := Int.eq_ofNat_of_zero_le (Int.le_of_lt up)
  have n0 : n ≠ 0 := by omega
  have co : Nat.Coprime t.natAbs n := f.co
  have e1 : toR (a, b) = toR (t, (n : Int)) := by
    have e := f.eq
    have p1 := posR hb
    have p2 := posR up
    have e : (t : Rat) * (b : Rat) = (a : Rat) * ((n : Int) : Rat) := by rw [← Rat.intCast_mul, ← Rat.intCast_mul, e]
    unfold toR
    show (a : Rat) / (b : Rat) = (t : Rat) / ((n : Int) : Rat)
    grind
  have e : toR (a, b) = (⟨t, n, n0, co⟩ : Rat) := by
    rw [e1]
    exact toR_nd ⟨t, n, n0, co⟩
  rw [e]
  exact ⟨rfl, rfl⟩
theorem szr_of {a b : Int} {k : Nat} (hb : 0 < b) (sa : Sz k a) (sb : Sz k b) : SzR k (toR (a, b)) := by
  have f := (fr_mk (a := a) (b := b) (c := sgn b * (Int.gcd a b : Int)) (by omega) rfl).2.2
  obtain ⟨e1, e2⟩ := pr_of hb f
  refine ⟨?_, ?_⟩
  · rw [e1]
    exact Nat.lt_of_le_of_lt f.lt sa
  · rw [e2]
    exact Nat.lt_of_le_of_lt f.lu sb
theorem lt_PR {x y : Rat} : decide (x.num * (y.den : Int) < y.num * (x.den : Int)) = decide (x < y) := by
  have := ltq_R (a := (x.num, (x.den : Int))) (b := (y.num, (y.den : Int))) (den0 x) (den0 y)
  rw [toR_nd, toR_nd] at this
  exact decide_eq_decide.mpr (by rw [← this]; unfold ltq; exact decide_eq_true_iff.symm)
theorem add_PR {x y : Rat} : toR (x.num * (y.den : Int) + y.num * (x.den : Int), (x.den : Int) * (y.den : Int)) = x + y := by
  have h1 := posR (den0 x)
  have h2 := posR (den0 y)
  have e1 := toR_nd x
  have e2 := toR_nd y
  unfold toR at *
  rw [Rat.intCast_mul, Rat.intCast_add, Rat.intCast_mul, Rat.intCast_mul]
  grind
theorem half_PR {x : Rat} : toR (x.num, 2 * (x.den : Int)) = x / 2 := by
  have h1 := posR (den0 x)
  have e1 := toR_nd x
  unfold toR at *
  rw [Rat.intCast_mul]
  grind
theorem szr_add {x y : Rat} {k : Nat} (h : SzR k x) (g : SzR k y) : SzR (k + k + 1) (x + y) := by
  rw [← add_PR]
  exact szr_of (Int.mul_pos (den0 x) (den0 y)) (Sz.add (h.1.mul g.2) (g.1.mul h.2)) ((h.2.mul g.2).mono (by omega))
theorem szr_half {x : Rat} {k : Nat} (h : SzR k x) : SzR (2 + k) (x / 2) := by
  rw [← half_PR]
  exact szr_of (by have := den0 x; omega) (h.1.mono (by omega)) (Sz.mul (show Sz 2 2 by decide) h.2)
theorem PR.inj {x y : Rat} (e1 : x.num = y.num) (e2 : (x.den : Int) = (y.den : Int)) : x = y := by
  rw [← toR_nd x, ← toR_nd y, e1, e2]
theorem cmw {i j : Int} {k : Nat} (h : Sz k i) (g : Sz k j) (l : k ≤ 4000) : CMulW i j := by
  have h1 := PySem.Flt.log2_lt_of (Nat.succ_pos k) (h.mono (Nat.le_succ k))
  have h2 := PySem.Flt.log2_lt_of (Nat.succ_pos k) (g.mono (Nat.le_succ k))
  show _ + _ < 1000000
  omega
theorem Kp2.seq {K : PySem.W.Frag} {h g l : Addr} {H H' : Hp} {xs : List V} (k : Kp2 h g H H') (n1 : l ≠ h) (n2 : l ≠ g) (a : SqL K H l xs) : SqL K H' l xs := by
  rcases a with (a | ⟨o, a⟩) | a
  · exact .inl (.inl (k _ _ a n1 n2))
  · exact .inl (.inr ⟨o, k _ _ a n1 n2⟩)
  · exact .inr a
def sp_of27 (K : PySem.W.Frag) : Sp := fun vs H Q _ => ∃ (h g l : Addr) (n : Nat) (xs : List V), vs = [.ref h, .ref l] ∧ PotAt H h g n ∧ n < 100000 ∧ SqL K H l xs ∧ l ≠ h ∧ l ≠ g ∧ 0 < xs.length ∧ xs.length ≤ 1000 ∧
  ∀ (i : Nat) (x : V) (H' : Hp), xs[i]? = some x → PotAt H' h g (n + 1) → Kp2 h g H H' → Q x H'
def sp_parts27 : Sp := fun vs H Q _ => ∃ a b : Int, vs = [.int a, .int b] ∧ 0 < b ∧ b.natAbs.log2 < 9000 ∧ ∀ (p : Addr) (H' : Hp), H p = none → Same H H' → H' p = some (PR (toR (a, b))) → Q (.ref p) H'
def sp_less27 : Sp := fun vs H Q _ => ∃ (a b : Addr) (x y : Rat) (k : Nat), vs = [.ref a, .ref b] ∧ H a = some (PR x) ∧ H b = some (PR y) ∧ SzR k x ∧ SzR k y ∧ k ≤ 4000 ∧ Q (.bl (decide (x < y))) H
def sp_plus27 : Sp := fun vs H Q _ => ∃ (a b : Addr) (x y : Rat) (k : Nat), vs = [.ref a, .ref b] ∧ H a = some (PR x) ∧ H b = some (PR y) ∧ SzR k x ∧ SzR k y ∧ 0 < k ∧ k ≤ 4000 ∧ ∀ (p : Addr) (H' : Hp), H p = none → Same H H' → H' p = some (PR (x + y)) → Q (.ref p) H'
def sp_mid27 : Sp := fun vs H Q _ => ∃ (a b : Addr) (x y : Rat) (k : Nat), vs = [.ref a, .ref b] ∧ H a = some (PR x) ∧ H b = some (PR y) ∧ SzR k x ∧ SzR k y ∧ 0 < k ∧ k ≤ 4000 ∧ ∀ (p : Addr) (H' : Hp), H p = none → Same H H' → H' p = some (PR ((x + y) / 2)) → Q (.ref p) H'

/-! ### the law's own stretches -/
abbrev LS := Option Rat × Bool × Option Rat × Bool
def OP (H : Hp) (v : V) : Option Rat → Prop
  | none => v = .non
  | some q => ∃ a, v = .ref a ∧ H a = some (PR q)
theorem OP.same {H H' : Hp} {v : V} {o : Option Rat} (s : Same H H') (h : OP H v o) : OP H' v o := by
  cases o with
  | none => exact h
  | some q =>
    obtain ⟨a, e, h⟩ := h
    exact ⟨a, e, s _ _ h⟩
structure LSAt (H : Hp) (a : Addr) (s : LS) : Prop where
  ob : ∃ u v, H a = some (.tup [u, .bl s.2.1, v, .bl s.2.2.2]) ∧ OP H u s.1 ∧ OP H v s.2.2.1
theorem LSAt.same {H H' : Hp} {a : Addr} {s : LS} (e : Same H H') (h : LSAt H a s) : LSAt H' a s := by
  obtain ⟨u, v, h1, h2, h3⟩ := h.ob
  exact ⟨u, v, e _ _ h1, h2.same e, h3.same e⟩
def ZzO (k : Nat) (o : Option Rat) : Prop := ∀ q, o = some q → SzR k q
def ZzL (k : Nat) (s : LS) : Prop := ZzO k s.1 ∧ ZzO k s.2.2.1
def loB (o : Option Rat) (i : Bool) (x : Rat) : Bool := match o with | none => true | some a => decide (a < x) || (i && decide (a = x))
def hiB (o : Option Rat) (i : Bool) (x : Rat) : Bool := match o with | none => true | some a => decide (x < a) || (i && decide (a = x))
def insB (s : LS) (x : Rat) : Bool := loB s.1 s.2.1 x && hiB s.2.2.1 s.2.2.2 x
def loCut (o : Option Rat) (i : Bool) (p : Option Rat) (j : Bool) : Option Rat × Bool :=
  match p with
  | none => (o, i)
  | some b => match o with
    | none => (some b, j)
    | some a => if b < a then (some a, i) else (some b, j && (i || decide (a ≠ b)))
def hiCut (o : Option Rat) (i : Bool) (p : Option Rat) (j : Bool) : Option Rat × Bool :=
  match p with
  | none => (o, i)
  | some b => match o with
    | none => (some b, j)
    | some a => if a < b then (some a, i) else (some b, j && (i || decide (a ≠ b)))
def cutL (s t : LS) : LS := ((loCut s.1 s.2.1 t.1 t.2.1).1, (loCut s.1 s.2.1 t.1 t.2.1).2, (hiCut s.2.2.1 s.2.2.2 t.2.2.1 t.2.2.2).1, (hiCut s.2.2.1 s.2.2.2 t.2.2.1 t.2.2.2).2)
def fullB (s : LS) : Bool := match s.1, s.2.2.1 with
  | some a, some b => decide (a < b) || (decide (a = b) && s.2.1 && s.2.2.2)
  | _, _ => true
theorem loCut_ok {o p : Option Rat} {i j : Bool} {x : Rat} : loB (loCut o i p j).1 (loCut o i p j).2 x = (loB o i x && loB p j x) := by
  cases p with
  | none => simp [loCut, loB]
  | some b =>
    cases o with
    | none => simp [loCut, loB]
    | some a =>
      unfold loCut loB
      cases i <;> cases j <;> split <;> grind
theorem hiCut_ok {o p : Option Rat} {i j : Bool} {x : Rat} : hiB (hiCut o i p j).1 (hiCut o i p j).2 x = (hiB o i x && hiB p j x) := by
  cases p with
  | none => simp [hiCut, hiB]
  | some b =>
    cases o with
    | none => simp [hiCut, hiB]
    | some a =>
      unfold hiCut hiB
      cases i <;> cases j <;> split <;> grind
theorem insB_cut {s t : LS} {x : Rat} : insB (cutL s t) x = (insB s x && insB t x) := by
  unfold insB cutL
  rw [loCut_ok, hiCut_ok]
  cases loB s.1 s.2.1 x <;> cases loB t.1 t.2.1 x <;> simp
/-! ### ladders of the law -/
structure LD where
  ms : List Rat
  r : Str
  lo : Option Rat
  hi : Option Rat
def oR (o : Option Rat) : Option Q2 := o.map ofR
def zR (ms : List Rat) : List Q2 := ms.map ofR
structure LdOk (d : LD) : Prop where
  len0 : 0 < d.ms.length
  len1 : d.ms.length ≤ 24
  rise : ∀ (i : Nat) (a b : Rat), d.ms[i]? = some a → d.ms[i + 1]? = some b → a < b
  rule : IsRule d.r
  span : ∀ a b, d.lo = some a → d.hi = some b → a ≤ b
abbrev LD.F (d : LD) : Rat → Option Nat := sizF (zR d.ms) d.r (oR d.lo) (oR d.hi)
theorem zR_get {ms : List Rat} {i : Nat} : (zR ms)[i]? = ms[i]?.map ofR := List.getElem?_map
theorem zR_len {ms : List Rat} : (zR ms).length = ms.length := List.length_map ..
theorem oR_pos : ∀ {o : Option Rat}, PosO (oR o)
  | none => trivial
  | some x => ofR_pos x
theorem zR_pos {ms : List Rat} : PosL (zR ms) := fun z hz => by
  obtain ⟨x, _, rfl⟩ := List.mem_map.mp hz
  exact ofR_pos x
theorem ltq_of_lt {x y : Rat} : ltq (ofR x) (ofR y) = decide (x < y) := by
  rw [Bool.eq_iff_iff, ltq_R (ofR_pos x) (ofR_pos y), toR_ofR, toR_ofR]
  exact decide_eq_true_iff.symm
theorem LdOk.riseQ {d : LD} (h : LdOk d) : RiseQ (zR d.ms) := fun i a b h1 h2 => by
  rw [zR_get] at h1 h2
  cases e1 : d.ms[i]? with
  | none => rw [e1] at h1; cases h1
  | some x =>
    cases e2 : d.ms[i + 1]? with
    | none => rw [e2] at h2; cases h2
    | some y =>
      rw [e1] at h1
      rw [e2] at h2
      cases h1
      cases h2
      rw [ltq_of_lt]
      exact decide_eq_true (h.rise i x y e1 e2)
theorem LdOk.spanQ {d : LD} (h : LdOk d) : spanB (oR d.lo) (oR d.hi) = true := by
  cases e1 : d.lo with
  | none => rfl
  | some a =>
    cases e2 : d.hi with
    | none => rfl
    | some b =>
      show (!ltq (ofR b) (ofR a)) = true
      rw [ltq_of_lt, decide_eq_false (Rat.not_lt.mpr (h.span a b e1 e2))]
      rfl
theorem LdOk.lq {d : LD} (h : LdOk d) : LadQ (zR d.ms) d.r (oR d.lo) (oR d.hi) := ⟨h.riseQ, zR_pos, oR_pos, oR_pos, h.spanQ⟩
def lwR (ms : List Rat) : Nat → Option Rat
  | 0 => none
  | j + 1 => ms[j]?
def mdR (ms : List Rat) : Nat → Option Rat
  | 0 => none
  | j + 1 => match ms[j]?, ms[j + 1]? with
    | some a, some b => some ((a + b) / 2)
    | _, _ => none
def rulR (d : LD) (k : Nat) : LS :=
  if d.r = "up" then (lwR d.ms k, false, d.ms[k]?, true) else if d.r = "down" then (d.ms[k]?, true, d.ms[k + 1]?, false) else (mdR d.ms k, true, mdR d.ms (k + 1), false)
def partL (d : LD) (k : Nat) : LS := cutL (rulR d k) (d.lo, true, d.hi, true)
theorem loIn_R {o : Option Q2} {i : Bool} {z : Q2} (p : PosO o) (hz : 0 < z.2) : loIn o i z = loB (o.map toR) i (toR z) := by
  cases o with
  | none => rfl
  | some a =>
    have h1 : ltq a z = decide (toR a < toR z) := by
      rw [Bool.eq_iff_iff, ltq_R p hz]
      exact decide_eq_true_iff.symm
    have h2 : eqq a z = decide (toR a = toR z) := by
      rw [Bool.eq_iff_iff]
      constructor
      · intro e
        exact decide_eq_true (re_R (z := a) (w := z) ⟨p, hz, of_decide_eq_true e⟩)
      · intro e
        exact decide_eq_true (re_of_R p hz (of_decide_eq_true e)).2.2
    show (ltq a z || (i && eqq a z)) = (decide (toR a < toR z) || (i && decide (toR a = toR z)))
    rw [h1, h2]
theorem hiIn_R {o : Option Q2} {i : Bool} {z : Q2} (p : PosO o) (hz : 0 < z.2) : hiIn o i z = hiB (o.map toR) i (toR z) := by
  cases o with
  | none => rfl
  | some a =>
    have h1 : ltq z a = decide (toR z < toR a) := by
      rw [Bool.eq_iff_iff, ltq_R hz p]
      exact decide_eq_true_iff.symm
    have h2 : eqq z a = decide (toR a = toR z) := by
      rw [Bool.eq_iff_iff]
      constructor
      · intro e
        exact decide_eq_true (re_R (z := z) (w := a) ⟨hz, p, of_decide_eq_true e⟩).symm
      · intro e
        exact decide_eq_true (re_of_R hz p (of_decide_eq_true e).symm).2.2
    show (ltq z a || (i && eqq z a)) = (decide (toR z < toR a) || (i && decide (toR a = toR z)))
    rw [h1, h2]
theorem oR_toR {o : Option Rat} : (oR o).map toR = o := by
  cases o with
  | none => rfl
  | some x => show some (toR (ofR x)) = some x; rw [toR_ofR]
theorem get_toR {ms : List Rat} {i : Nat} : ((zR ms)[i]?).map toR = ms[i]? := by
  rw [zR_get]
  exact oR_toR
theorem endQ_nat {zs : List Q2} {i : Nat} : endQ zs (i : Int) = zs[i]? := by
  unfold endQ
  by_cases h : i < zs.length
  · rw [if_pos ⟨by omega, by omega⟩]; rfl
  · rw [if_neg (by omega)]
    exact (List.getElem?_eq_none (by omega)).symm
theorem endQ_m1 {zs : List Q2} {i : Int} (h : i < 0) : endQ zs i = none := by
  unfold endQ
  rw [if_neg (by omega)]
theorem lw_toR {ms : List Rat} {k : Nat} : (endQ (zR ms) ((k : Int) - 1)).map toR = lwR ms k := by
  cases k with
  | zero => rw [endQ_m1 (by omega)]; rfl
  | succ j =>
    rw [show ((j + 1 : Nat) : Int) - 1 = (j : Int) by omega, endQ_nat, get_toR]
    rfl
theorem md_at {ms : List Rat} {j : Nat} : ((midq (zR ms))[j]?).map toR = mdR ms (j + 1) := by
  have ln := midq_len (zR ms)
  rw [zR_len] at ln
  cases e1 : ms[j]? with
  | none =>
    have := List.getElem?_eq_none_iff.mp e1
    rw [List.getElem?_eq_none (by omega)]
    show none = match ms[j]?, ms[j + 1]? with | some a, some b => some ((a + b) / 2) | _, _ => none
    rw [e1]
  | some a =>
    cases e2 : ms[j + 1]? with
    | none =>
      have := List.getElem?_eq_none_iff.mp e2
      rw [List.getElem?_eq_none (by omega)]
      show none = match ms[j]?, ms[j + 1]? with | some a, some b => some ((a + b) / 2) | _, _ => none
      rw [e1, e2]
    | some b =>
      rw [midq_get (zR ms) j (ofR a) (ofR b) (by rw [zR_get, e1]; rfl) (by rw [zR_get, e2]; rfl)]
      show some (toR (qhalf (ofR a) (ofR b))) = match ms[j]?, ms[j + 1]? with | some a, some b => some ((a + b) / 2) | _, _ => none
      rw [e1, e2, half_R (ofR_pos a) (ofR_pos b), toR_ofR, toR_ofR]
theorem md_lo {ms : List Rat} {k : Nat} : (endQ (midq (zR ms)) ((k : Int) - 1)).map toR = mdR ms k := by
  cases k with
  | zero => rw [endQ_m1 (by omega)]; rfl
  | succ j => rw [show ((j + 1 : Nat) : Int) - 1 = (j : Int) by omega, endQ_nat, md_at]
theorem md_hi {ms : List Rat} {k : Nat} : (endQ (midq (zR ms)) (k : Int)).map toR = mdR ms (k + 1) := by rw [endQ_nat, md_at]
theorem rul_ins {d : LD} {k : Nat} {x : Rat} : insB (rulR d k) x = rulIn (zR d.ms) d.r k (ofR x) := by
  have p := rulE_pos (r := d.r) (n := k) (zR_pos (ms := d.ms))
  unfold rulIn insB
  rw [loIn_R p.1 (ofR_pos x), hiIn_R p.2 (ofR_pos x), toR_ofR]
  unfold rulR rulE
  split
  · simp only [lw_toR, get_toR]
  · split
    · simp only [get_toR]
      rw [show (k : Int) + 1 = ((k + 1 : Nat) : Int) by omega, endQ_nat, get_toR]
    · simp only [md_lo, md_hi]
theorem own_ins {lo hi : Option Rat} {x : Rat} : insB (lo, true, hi, true) x = inO (oR lo) (oR hi) (ofR x) := by
  unfold insB inO
  congr 1
  · cases lo with
    | none => rfl
    | some a =>
      show (decide (a < x) || (true && decide (a = x))) = !ltq (ofR x) (ofR a)
      rw [ltq_of_lt, Bool.eq_iff_iff]
      simp
      grind
  · cases hi with
    | none => rfl
    | some a =>
      show (decide (x < a) || (true && decide (a = x))) = !ltq (ofR a) (ofR x)
      rw [ltq_of_lt, Bool.eq_iff_iff]
      simp
      grind
theorem part_in {d : LD} {k : Nat} {x : Rat} (h : LdOk d) (hk : k < d.ms.length) : insB (partL d k) x = true ↔ d.F x = some k := by
  unfold partL LD.F
  rw [insB_cut, rul_ins, own_ins, sizF_iff, Bool.and_eq_true, rul_in h.riseQ zR_pos (ofR_pos x) (by rw [zR_len]; exact hk), zR_len]
  exact ⟨fun ⟨a, b⟩ => ⟨b, a, hk⟩, fun ⟨a, b, _⟩ => ⟨b, a⟩⟩
def SzD (k : Nat) (d : LD) : Prop := (∀ x ∈ d.ms, SzR k x) ∧ ZzO k d.lo ∧ ZzO k d.hi
theorem ZzO.mono {a b : Nat} {o : Option Rat} (h : ZzO a o) (l : a ≤ b) : ZzO b o := fun q e => (h q e).mono l
theorem SzD.mono {a b : Nat} {d : LD} (h : SzD a d) (l : a ≤ b) : SzD b d := ⟨fun x m => (h.1 x m).mono l, h.2.1.mono l, h.2.2.mono l⟩
theorem SzD.get {k : Nat} {d : LD} (h : SzD k d) {i : Nat} : ZzO k d.ms[i]? := fun _ e => h.1 _ (List.mem_of_getElem? e)
theorem LD.F_lt {d : LD} {x : Rat} {b : Nat} (h : d.F x = some b) : b < d.ms.length := by
  have := sizeQ_lt (show sizeQ _ _ _ _ _ = some b from h)
  rwa [zR_len] at this
/-! ### they on the heap -/
def RsV (H : Hp) (vs : List V) (ms : List Rat) : Prop := vs.length = ms.length ∧ ∀ (i : Nat) (x : Rat), ms[i]? = some x → ∃ a : Addr, vs[i]? = some (V.ref a) ∧ H a = some (PR x)
structure LdAt (H : Hp) (p : Addr) (d : LD) : Prop where
  ob : ∃ (M : Addr) (u w : V) (vs : List V), H p = some (.tup [.ref M, .str d.r, u, w]) ∧ H M = some (.lst vs) ∧ RsV H vs d.ms ∧ OP H u d.lo ∧ OP H w d.hi
theorem RsV.same {H H' : Hp} {vs : List V} {ms : List Rat} (h : RsV H vs ms) (s : Same H H') : RsV H' vs ms := ⟨h.1, fun i x e => by
  obtain ⟨a, e1, e2⟩ := h.2 i x e
  exact ⟨a, e1, s _ _ e2⟩⟩
theorem RsV.nl {H H' : Hp} {vs : List V} {ms : List Rat} (h : RsV H vs ms) (s : Nl H H') : RsV H' vs ms := ⟨h.1, fun i x e => by
  obtain ⟨a, e1, e2⟩ := h.2 i x e
  exact ⟨a, e1, s _ _ e2 rfl⟩⟩
theorem OP.nl {H H' : Hp} {v : V} {o : Option Rat} (h : OP H v o) (s : Nl H H') : OP H' v o := by
  cases o with
  | none => exact h
  | some q =>
    obtain ⟨a, e, h⟩ := h
    exact ⟨a, e, s _ _ h rfl⟩
theorem LdAt.same {H H' : Hp} {p : Addr} {d : LD} (h : LdAt H p d) (s : Same H H') : LdAt H' p d := by
  obtain ⟨M, u, w, vs, h1, h2, h3, h4, h5⟩ := h.ob
  exact ⟨M, u, w, vs, s _ _ h1, s _ _ h2, h3.same s, h4.same s, h5.same s⟩
theorem rsv_ne {H : Hp} {h g M : Addr} {n : Nat} {vs : List V} {ms : List Rat} (pt : PotAt H h g n) (e : H M = some (.lst vs)) (r : RsV H vs ms) (l : 0 < ms.length) : M ≠ h ∧ M ≠ g := by
  obtain ⟨⟨s, t, e1, _⟩, ⟨gs, e2, _⟩, _⟩ := pt
  obtain ⟨r1, r2⟩ := r
  obtain ⟨a, ea, _⟩ := r2 0 _ (List.getElem?_eq_getElem l)
  refine ⟨fun q => ?_, fun q => ?_⟩
  · rw [q, e1] at e
    cases e
    cases e3 : ms[1]? with
    | none =>
      have := List.getElem?_eq_none_iff.mp e3
      simp at r1
      omega
    | some x =>
      obtain ⟨b, eb, _⟩ := r2 1 x e3
      simp at eb
  · rw [q, e2] at e
    cases e
    rw [List.getElem?_map] at ea
    cases e4 : gs[0]? with
    | none => rw [e4] at ea; cases ea
    | some z => rw [e4] at ea; cases ea
theorem LdAt.kp {H H' : Hp} {h g p : Addr} {n : Nat} {d : LD} (a : LdAt H p d) (l : 0 < d.ms.length) (pt : PotAt H h g n) (k : Kp2 h g H H') : LdAt H' p d := by
  obtain ⟨M, u, w, vs, h1, h2, h3, h4, h5⟩ := a.ob
  have ne := rsv_ne pt h2 h3 l
  have s := pt.nl k
  exact ⟨M, u, w, vs, s _ _ h1 rfl, k _ _ h2 ne.1 ne.2, h3.nl s, h4.nl s, h5.nl s⟩
/-- the stretch of a size, or none -/
def LPart (H : Hp) (v : V) (s : LS) : Prop := (fullB s = true ∧ ∃ a, v = .ref a ∧ LSAt H a s) ∨ (fullB s = false ∧ v = .non)
theorem LPart.same {H H' : Hp} {v : V} {s : LS} (h : LPart H v s) (e : Same H H') : LPart H' v s := by
  rcases h with ⟨f, a, rfl, g⟩ | h
  · exact .inl ⟨f, a, rfl, g.same e⟩
  · exact .inr h

theorem PotAt.put {H : Hp} {h g D : Addr} {n : Nat} {u : HO} (a : PotAt H h g n) (n1 : D ≠ h) (n2 : D ≠ g) : PotAt (upd H D u) h g n := by
  obtain ⟨⟨x, t, e, r⟩, ⟨gs, e2, r2⟩, ne⟩ := a
  exact ⟨⟨x, t, by rw [upd_ne (Ne.symm n1)]; exact e, r⟩, ⟨gs, by rw [upd_ne (Ne.symm n2)]; exact e2, r2⟩, ne⟩
theorem Kp2.putN {h g D : Addr} {A B : Hp} {u : HO} (a : Kp2 h g A B) (np : A D = none) : Kp2 h g A (upd B D u) := fun c o e n1 n2 => by
  rw [upd_ne (ne_of_none e np)]
  exact a c o e n1 n2
def LdV (P : LD → Prop) (H : Hp) (v : V) : Prop := ∃ p d, v = .ref p ∧ LdAt H p d ∧ P d
theorem LdAt.put {P : LD → Prop} (hP : ∀ d, P d → 0 < d.ms.length) {H : Hp} {p D : Addr} {d : LD} {acc : List V} {u : HO} (a : LdAt H p d) (l : 0 < d.ms.length) (e : H D = some (.lst acc)) (al : ∀ v ∈ acc, LdV P H v) : LdAt (upd H D u) p d := by
  obtain ⟨M, u', w, vs, h1, h2, h3, h4, h5⟩ := a.ob
  have ne : M ≠ D := fun q => by
    rw [q, e] at h2
    cases h2
    obtain ⟨r1, r2⟩ := h3
    obtain ⟨b, eb, hb⟩ := r2 0 _ (List.getElem?_eq_getElem l)
    obtain ⟨q', d', e', la, _⟩ := al _ (List.mem_of_getElem? eb)
    cases e'
    obtain ⟨M', u2, w2, vs2, g1, _⟩ := la.ob
    rw [hb] at g1
    cases g1
  have pn : ∀ b ts, H b = some (.tup ts) → (upd H D u) b = some (.tup ts) := fun b ts e3 => by
    rw [upd_ne (fun q => by rw [q, e] at e3; cases e3)]
    exact e3
  have op : ∀ {v : V} {o : Option Rat}, OP H v o → OP (upd H D u) v o := fun {v o} h => by
    cases o with
    | none => exact h
    | some q =>
      obtain ⟨a, e, h⟩ := h
      exact ⟨a, e, pn _ _ h⟩
  exact ⟨M, u', w, vs, pn _ _ h1, by rw [upd_ne ne]; exact h2, ⟨h3.1, fun i x ei => by
    obtain ⟨b, e1, e2⟩ := h3.2 i x ei
    exact ⟨b, e1, pn _ _ e2⟩⟩, op h4, op h5⟩
theorem lcLd {J : It} {n : Nat} {G : Hp → Prop} {Y : Nat → Hp → V → Hp → Prop} {f : TG} {tt : TT} {te : TE} {vs : List Nat} {σ : L2.St} {H1 : Hp} {D : Addr} {Qd : Hp → Prop} {h g : Addr} {c m : Nat} (P : LD → Prop) (hP : ∀ d, P d → 0 < d.ms.length) (w : Walk J n G Y) (hG : ∀ H, G H) (hz : n < sizeLine) (pt : PotAt H1 h g m) (hD : H1 D = none)
    (hs : ∀ (i : Nat) (x : V) (H H' : Hp) (N : VK) (M : Hp → Prop), i < n → Kp2 h g H1 H → PotAt H h g (m + c * i) → Y i H x H' → (∀ p d H4, Kp2 h g H H4 → PotAt H4 h g (m + c * (i + 1)) → LdAt H4 p d → P d → N (.ref p) H4) →
      f x (wipe σ vs) H' fun σ2 H2 => wipe σ2 vs = wipe σ vs ∧ tt σ2 H2 fun b H3 => if b = true then te σ2 H3 N else M H3)
    (hd : ∀ H ys, Kp2 h g H1 H → PotAt H h g (m + c * n) → H D = some (.lst ys) → ys.length = n → (∀ v ∈ ys, LdV P H v) → Qd H) :
    ∃ W : Nat → Nat → Hp → Prop, (∃ m, W 0 m (upd H1 D (.lst []))) ∧ ∀ i m H, W i m H →
      (J.stop i H ∧ Qd H) ∨ (J.go i H ∧ ∃ Nx : Hp → Prop, (∀ H', Nx H' → ∃ m', m' < m ∧ W (i + 1) m' H') ∧ ∀ x H', J.yld i H x H' → f x (wipe σ vs) H' fun σ2 H2 => wipe σ2 vs = wipe σ vs ∧ tt σ2 H2 fun b H3 =>
        if b = true then te σ2 H3 fun y H4 => ∃ acc, H4 D = some (.lst acc) ∧ acc.length < sizeLine ∧ Nx (upd H4 D (.lst (acc ++ [y]))) else Nx H3) := by
  obtain ⟨n1, n2⟩ := pt.nel hD
  refine lc_it w (fun i H => Kp2 h g H1 H ∧ PotAt H h g (m + c * i) ∧ ∃ ys, H D = some (.lst ys) ∧ ys.length = i ∧ ∀ v ∈ ys, LdV P H v) ⟨(Kp2.refl _).up hD, pt.up hD, [], upd_same, rfl, fun v hv => by simp at hv⟩ (fun i H _ p => hG _) (fun i x H H' hi p y => ?_) (fun H p => ?_)
  · obtain ⟨s1, pi, ys, h1, h2, h3⟩ := p
    refine hs i x H H' _ _ hi s1 pi y (fun q d H4 s4 p4 L4 Pd => ?_)
    have hD4 := s4 _ _ h1 n1 n2
    have al : ∀ v ∈ ys, LdV P H4 v := fun v hv => by
      obtain ⟨q', d', e, l, pd⟩ := h3 v hv
      exact ⟨q', d', e, l.kp (hP _ pd) pi s4, pd⟩
    refine ⟨ys, hD4, by omega, ?_, p4.put n1 n2, ys ++ [.ref q], upd_same, by rw [List.length_append, h2]; rfl, fun v hv => ?_⟩
    · exact (s1.trans s4).putN hD
    · rcases List.mem_append.mp hv with hv | hv
      · obtain ⟨q', d', e, l, pd⟩ := al v hv
        exact ⟨q', d', e, l.put hP (hP _ pd) hD4 al, pd⟩
      · rw [List.mem_singleton.mp hv]
        exact ⟨q, d, rfl, L4.put hP (hP _ Pd) hD4 al, Pd⟩
  · obtain ⟨s1, pi, ys, h1, h2, h3⟩ := p
    exact hd H ys s1 (by rw [show n = n from rfl]; exact pi) h1 h2 h3
/-! ### scaled; whole parts -/
theorem mul_PR {x y : Rat} : toR (x.num * y.num, (x.den : Int) * (y.den : Int)) = x * y := by
  have h1 := posR (den0 x)
  have h2 := posR (den0 y)
  have e1 := toR_nd x
  have e2 := toR_nd y
  unfold toR at *
  rw [Rat.intCast_mul, Rat.intCast_mul]
  grind
theorem szr_mul {x y : Rat} {k j : Nat} (h : SzR k x) (g : SzR j y) : SzR (k + j) (x * y) := by
  rw [← mul_PR]
  exact szr_of (Int.mul_pos (den0 x) (den0 y)) (h.1.mul g.1) (h.2.mul g.2)
def LD.sc (d : LD) (c : Rat) : LD := ⟨d.ms.map (· * c), d.r, d.lo.map (· * c), d.hi.map (· * c)⟩
theorem lt_sc {a b c : Rat} (h : a < b) (hc : 0 < c) : a * c < b * c := Rat.mul_lt_mul_of_pos_right h hc
theorem LdOk.sc {d : LD} {c : Rat} (h : LdOk d) (hc : 0 < c) : LdOk (d.sc c) := by
  refine ⟨?_, ?_, ?_, h.rule, ?_⟩
  · show 0 < (d.ms.map (· * c)).length
    rw [List.length_map]; exact h.len0
  · show (d.ms.map (· * c)).length ≤ 24
    rw [List.length_map]; exact h.len1
  · intro i a b h1 h2
    have h1 : (d.ms.map (· * c))[i]? = some a := h1
    have h2 : (d.ms.map (· * c))[i + 1]? = some b := h2
    rw [List.getElem?_map] at h1 h2
    cases e1 : d.ms[i]? with
    | none => rw [e1] at h1; cases h1
    | some x =>
      cases e2 : d.ms[i + 1]? with
      | none => rw [e2] at h2; cases h2
      | some y =>
        rw [e1] at h1
        rw [e2] at h2
        cases h1
        cases h2
        exact lt_sc (h.rise i x y e1 e2) hc
  · intro a b h1 h2
    have h1 : d.lo.map (· * c) = some a := h1
    have h2 : d.hi.map (· * c) = some b := h2
    cases e1 : d.lo with
    | none => rw [e1] at h1; cases h1
    | some x =>
      cases e2 : d.hi with
      | none => rw [e2] at h2; cases h2
      | some y =>
        rw [e1] at h1
        rw [e2] at h2
        cases h1
        cases h2
        have := h.span x y e1 e2
        by_cases e : x = y
        · subst e; exact Rat.le_refl
        · exact Rat.le_of_lt (lt_sc (by grind) hc)
theorem zzo_sc {k j : Nat} {c : Rat} {o : Option Rat} (h : ZzO k o) (g : SzR j c) : ZzO (k + j) (o.map (· * c)) := fun q e => by
  cases o with
  | none => cases e
  | some x => cases e; exact szr_mul (h x rfl) g
theorem SzD.sc {k j : Nat} {c : Rat} {d : LD} (h : SzD k d) (g : SzR j c) : SzD (k + j) (d.sc c) := ⟨fun x hx => by
  obtain ⟨y, hy, rfl⟩ := List.mem_map.mp hx
  exact szr_mul (h.1 y hy) g, zzo_sc h.2.1 g, zzo_sc h.2.2 g⟩
structure LdG (d : LD) : Prop where
  ok : LdOk d
  sz : SzD 140 d
/-- so many parts of 8797236 -/
def WhM (x : Rat) (b : Nat) : Prop := ∃ n : Int, toR (n, 8797236) = x ∧ n.natAbs ≤ b
theorem WhM.mono {x : Rat} {a b : Nat} (h : WhM x a) (l : a ≤ b) : WhM x b := by
  obtain ⟨n, e, g⟩ := h
  exact ⟨n, e, Nat.le_trans g l⟩
theorem WhM.add {x y : Rat} {a b : Nat} (h : WhM x a) (g : WhM y b) : WhM (x + y) (a + b) := by
  obtain ⟨n, rfl, h⟩ := h
  obtain ⟨m, rfl, g⟩ := g
  refine ⟨n + m, ?_, by omega⟩
  unfold toR
  rw [Rat.intCast_add]
  grind
theorem WhM.sz {x : Rat} {b : Nat} (h : WhM x b) (l : b ≤ 1000000000) : SzR 30 x := by
  obtain ⟨n, rfl, h⟩ := h
  exact szr_of (by decide) (by show n.natAbs < 2 ^ 30; omega) (by decide)
theorem WhM.mid {x y : Rat} {a b : Nat} (h : WhM x a) (g : WhM y b) (l : a ≤ 1000000000) (m : b ≤ 1000000000) : SzR 34 ((x + y) / 2) := by
  obtain ⟨n, rfl, h⟩ := h
  obtain ⟨k, rfl, g⟩ := g
  have e : (toR (n, 8797236) + toR (k, 8797236)) / 2 = toR (n + k, 17594472) := by
    unfold toR
    rw [Rat.intCast_add]
    grind
  rw [e]
  exact szr_of (by decide) (by show (n + k).natAbs < 2 ^ 34; omega) (by decide)
theorem WhM.fifth {x : Rat} {a : Nat} {s : Int} (h : WhM x a) (l : a ≤ 1000000000) (hs : s.natAbs ≤ 1) : SzR 34 (x + toR (s, 5)) := by
  obtain ⟨n, rfl, h⟩ := h
  have e : toR (n, 8797236) + toR (s, 5) = toR (5 * n + 8797236 * s, 43986180) := by
    unfold toR
    rw [Rat.intCast_add, Rat.intCast_mul, Rat.intCast_mul]
    grind
  rw [e]
  exact szr_of (by decide) (by show (5 * n + 8797236 * s).natAbs < 2 ^ 34; omega) (by decide)
/-- steps to draw from -/
def PoolV (b : Nat) (H : Hp) (v : V) : Prop := ∃ (a : Addr) (x : Rat), v = .ref a ∧ H a = some (PR x) ∧ WhM x b
def PoolP (b : Nat) (H : Hp) (v : V) : Prop := ∃ (a : Addr) (x : Rat), v = .ref a ∧ H a = some (PR x) ∧ 0 < x ∧ WhM x b
theorem PoolP.nl {b : Nat} {H H' : Hp} {v : V} (h : PoolP b H v) (s : Nl H H') : PoolP b H' v := by
  obtain ⟨a, x, e, e2, r⟩ := h
  exact ⟨a, x, e, s _ _ e2 rfl, r⟩
theorem PoolP.same {b : Nat} {H H' : Hp} {v : V} (h : PoolP b H v) (s : Same H H') : PoolP b H' v := by
  obtain ⟨a, x, e, e2, r⟩ := h
  exact ⟨a, x, e, s _ _ e2, r⟩

theorem PoolV.nl {b : Nat} {H H' : Hp} {v : V} (h : PoolV b H v) (s : Nl H H') : PoolV b H' v := by
  obtain ⟨a, x, e, e2, r⟩ := h
  exact ⟨a, x, e, s _ _ e2 rfl, r⟩
theorem Kp2.non {h g p : Addr} {A B : Hp} {n : Nat} (k : Kp2 h g A B) (pt : PotAt B h g n) (np : B p = none) : A p = none := by
  obtain ⟨n1, n2⟩ := pt.nel np
  cases e : A p with
  | none => rfl
  | some o => rw [k _ _ e n1 n2] at np; cases np
def oD : Option Rat → PyData
  | none => .none
  | some q => .tuple [.int q.num, .int (q.den : Int)]
theorem op_dp {K : PySem.W.Frag} {H : Hp} {v : V} : ∀ {o : Option Rat}, OP H v o → Dp K H v (oD o)
  | none, h => by cases h; exact .non
  | some q, ⟨a, e, h⟩ => by subst e; exact .tup (SqT.of h) (.cons (.int _) (.cons (.int _) .nil))
theorem notin_ends {K : PySem.W.Frag} {H : Hp} {E : Addr} {a b : V} {oa ob : Option Rat} {Q : VK} (hE : H E = some (.lst [a, b])) (h1 : OP H a oa) (h2 : OP H b ob) (q : Q (.bl (oa.isSome && ob.isSome)) H) : rNotInD K .non (.ref E) H Q :=
  ⟨.none, [oD oa, oD ob], .non, .lst (SqL.of hE) (.cons (op_dp h1) (.cons (op_dp h2) .nil)), rfl, by cases oa <;> cases ob <;> rfl, by
    have e : (!([oD oa, oD ob].any fun z => PyData.eqv z .none)) = (oa.isSome && ob.isSome) := by cases oa <;> cases ob <;> simp [oD, PyData.eqv]
    rw [e]
    exact q⟩
theorem mks_nl {C : Addr} {H H' : Hp} {k : Nat} {ps : List V} {zs : List Q2} (m : Mks C H k ps zs) (s : Nl H H') : Mks C H' k ps zs := ⟨m.len, fun i v z e1 e2 => by
  obtain ⟨p, e, q⟩ := m.all i v z e1 e2
  exact ⟨p, e, q.nl s⟩⟩
theorem LadAt.nl {K : PySem.W.Frag} {CM CL p : Addr} {H H' : Hp} {k : Nat} {zs : List Q2} {r : Str} {lo hi : Option Q2} (a : LadAt K CM CL H p k zs r lo hi) (s : Nl H H') : LadAt K CM CL H' p k zs r lo hi := by
  obtain ⟨⟨dx, T, ps, l, u, h1, h2, h3, h4, h5⟩, a1, a2, a3, a4, a5⟩ := a
  refine ⟨⟨dx, T, ps, l, u, s _ _ h1 rfl, ?_, mks_nl h3 s, QO.nl s h4, QO.nl s h5⟩, a1, a2, a3, a4, a5⟩
  rcases h2 with (h2 | ⟨o, h2⟩) | h2
  · exact .inl (.inl (s _ _ h2 rfl))
  · exact .inl (.inr ⟨o, s _ _ h2 rfl⟩)
  · exact .inr h2
theorem ends_gen {tb : TS} {D : Ends} {σ : L2.St} {H : Hp} {I : L2.St → Hp → Prop} (e : D.nx = I) (h : ∀ D' : Ends, D'.nx = I → tb D' σ H) : tb D σ H := h D e
/-! ### what a ladder is drawn from -/
def PoolAt (H : Hp) (P : Addr) : Prop := ∃ ps : List V, H P = some (.lst ps) ∧ ps.length = 8 ∧ ∀ v ∈ ps, PoolP 26391708 H v
theorem PoolAt.ne {H : Hp} {h g P : Addr} {n : Nat} (a : PoolAt H P) (pt : PotAt H h g n) : P ≠ h ∧ P ≠ g := by
  obtain ⟨⟨s, t, e1, _⟩, ⟨gs, e2, _⟩, _⟩ := pt
  obtain ⟨ps, e, l, al⟩ := a
  refine ⟨fun q => ?_, fun q => ?_⟩
  · rw [q, e1] at e
    cases e
    cases l
  · rw [q, e2] at e
    cases e
    cases gs with
    | nil => cases l
    | cons z t =>
      obtain ⟨b, x, e, _⟩ := al (.int z) (by simp)
      cases e
theorem PoolAt.kp {H H' : Hp} {h g P : Addr} {n : Nat} (a : PoolAt H P) (pt : PotAt H h g n) (k : Kp2 h g H H') : PoolAt H' P := by
  have ne := a.ne pt
  obtain ⟨ps, e, l, al⟩ := a
  exact ⟨ps, k _ _ e ne.1 ne.2, l, fun v hv => (al v hv).nl (pt.nl k)⟩
theorem PoolAt.same {H H' : Hp} {P : Addr} (a : PoolAt H P) (s : Same H H') : PoolAt H' P := by
  obtain ⟨ps, e, l, al⟩ := a
  exact ⟨ps, s _ _ e, l, fun v hv => (al v hv).same s⟩
theorem PoolAt.put {H : Hp} {P M : Addr} {u : HO} {vs : List V} (a : PoolAt H P) (e : H M = some (.lst vs)) (n : P ≠ M) : PoolAt (upd H M u) P := by
  obtain ⟨ps, e1, l, al⟩ := a
  exact ⟨ps, by rw [upd_ne n]; exact e1, l, fun v hv => (al v hv).nl (Nl.put e)⟩
def StepAt (H : Hp) (v : V) : Prop := v = .non ∨ PoolP 26391708 H v
theorem StepAt.nl {H H' : Hp} {v : V} (a : StepAt H v) (s : Nl H H') : StepAt H' v := a.imp_right fun q => q.nl s
theorem StepAt.same {H H' : Hp} {v : V} (a : StepAt H v) (s : Same H H') : StepAt H' v := a.imp_right fun q => q.same s
def MkD (H : Hp) (M : Addr) (ms : List Rat) : Prop := ∃ vs : List V, H M = some (.lst vs) ∧ RsV H vs ms ∧ (∀ (i : Nat) (a b : Rat), ms[i]? = some a → ms[i + 1]? = some b → a < b) ∧ ∀ (i : Nat) (x : Rat), ms[i]? = some x → WhM x ((4 + 3 * i) * 8797236)
theorem MkD.same {H H' : Hp} {M : Addr} {ms : List Rat} (a : MkD H M ms) (s : Same H H') : MkD H' M ms := by
  obtain ⟨vs, e, r, b⟩ := a
  exact ⟨vs, s _ _ e, r.same s, b⟩
theorem MkD.kp {H H' : Hp} {h g M : Addr} {n : Nat} {ms : List Rat} (a : MkD H M ms) (l : 0 < ms.length) (pt : PotAt H h g n) (k : Kp2 h g H H') : MkD H' M ms := by
  obtain ⟨vs, e, r, b⟩ := a
  have ne := rsv_ne pt e r l
  exact ⟨vs, k _ _ e ne.1 ne.2, r.nl (pt.nl k), b⟩
theorem MkD.put {H : Hp} {M E : Addr} {u : HO} {vs : List V} {ms : List Rat} (a : MkD H M ms) (e : H E = some (.lst vs)) (n : M ≠ E) : MkD (upd H E u) M ms := by
  obtain ⟨ws, e1, r, b⟩ := a
  exact ⟨ws, by rw [upd_ne n]; exact e1, r.nl (Nl.put e), b⟩
theorem MkD.snoc {H : Hp} {M c : Addr} {vs : List V} {ms : List Rat} {x y : Rat} (e : H M = some (.lst vs)) (r : RsV H vs ms) (ri : ∀ (i : Nat) (a b : Rat), ms[i]? = some a → ms[i + 1]? = some b → a < b) (wh : ∀ (i : Nat) (x : Rat), ms[i]? = some x → WhM x ((4 + 3 * i) * 8797236)) {i : Nat} (li : ms.length = i + 1) (hx : ms[i]? = some x) (y0 : 0 < y) (wy : WhM y 26391708) (hc : H c = some (PR (x + y))) : MkD (upd H M (.lst (vs ++ [.ref c]))) M (ms ++ [x + y]) := by
  have nl : Nl H (upd H M (.lst (vs ++ [.ref c]))) := Nl.put e
  have lv : vs.length = i + 1 := by rw [r.1, li]
  refine ⟨vs ++ [.ref c], upd_same, ⟨by rw [List.length_append, List.length_append, r.1]; rfl, fun j z hz => ?_⟩, fun j a b h1 h2 => ?_, fun j z hz => ?_⟩
  · by_cases hj : j < ms.length
    · rw [List.getElem?_append_left hj] at hz
      obtain ⟨d, e1, e2⟩ := r.2 j z hz
      exact ⟨d, by rw [List.getElem?_append_left (by omega)]; exact e1, nl _ _ e2 rfl⟩
    · have hj2 : j = i + 1 := by
        have := (List.getElem?_eq_some_iff.mp hz).1
        rw [List.length_append, List.length_singleton] at this
        omega
      subst hj2
      rw [List.getElem?_append_right (by omega), li, Nat.sub_self] at hz
      cases hz
      exact ⟨c, by rw [List.getElem?_append_right (by omega), lv, Nat.sub_self]; rfl, nl _ _ hc rfl⟩
  · by_cases hj : j + 1 < ms.length
    · rw [List.getElem?_append_left (by omega)] at h1
      rw [List.getElem?_append_left hj] at h2
      exact ri j a b h1 h2
    · have hj2 : j = i := by
        have := (List.getElem?_eq_some_iff.mp h2).1
        rw [List.length_append, List.length_singleton] at this
        omega
      subst hj2
      rw [List.getElem?_append_left (by omega), hx] at h1
      rw [List.getElem?_append_right (by omega), li, Nat.sub_self] at h2
      cases h1
      cases h2
      grind
  · by_cases hj : j < ms.length
    · rw [List.getElem?_append_left hj] at hz
      exact wh j z hz
    · have hj2 : j = i + 1 := by
        have := (List.getElem?_eq_some_iff.mp hz).1
        rw [List.length_append, List.length_singleton] at this
        omega
      subst hj2
      rw [List.getElem?_append_right (by omega), li, Nat.sub_self] at hz
      cases hz
      exact ((wh i x hx).add wy).mono (by omega)
/-- an end, or none -/
def ElV (H : Hp) (v : V) : Prop := v = .non ∨ ∃ (a : Addr) (x : Rat), v = .ref a ∧ H a = some (PR x) ∧ SzR 34 x
theorem ElV.nl {H H' : Hp} {v : V} (a : ElV H v) (s : Nl H H') : ElV H' v := a.imp_right fun ⟨b, x, e, e2, z⟩ => ⟨b, x, e, s _ _ e2 rfl, z⟩
theorem ElV.op {H : Hp} {v : V} (a : ElV H v) : ∃ o, OP H v o ∧ ZzO 34 o := by
  rcases a with rfl | ⟨b, x, rfl, e, z⟩
  · exact ⟨none, rfl, fun _ e => by cases e⟩
  · exact ⟨some x, ⟨b, rfl, e⟩, fun _ e => by cases e; exact z⟩
end My
/-! ### zip of a tuple and a list -/
namespace My
open PySem PySem.Spec PyProof.Rows L2
end My
namespace My
open PySem PySem.Spec PyProof.Rows L2
/-! ### max(xs, key=f), f a def of one's own that tells a whole number of each -/
def noXK : XK := fun _ _ _ => False
def rMaxKey (K : PySem.W.Frag) (sp : Sp) : List V → Hp → VK → Prop := fun vs H Q => ∃ (a : Addr) (xs : List V) (k : V → Int), vs = [V.ref a] ∧ SqL K H a xs ∧ 0 < xs.length ∧
  (∀ x ∈ xs, ∀ (H1 : Hp) (Q1 : VK), Same H H1 → (∀ H2, Same H1 H2 → Q1 (.int (k x)) H2) → sp [x] H1 Q1 noXK) ∧
  ∀ x H', x ∈ xs → (∀ y ∈ xs, k y ≤ k x) → Same H H' → Q x H'
section
variable {X : Cx} {n : Nat} {f : Addr} {fd : FuncData} {ps : List Str} {sp : Sp}
theorem mkf_turn {A1 : Around} {pins : List (Addr × Obj)} {s : Shared} {σ : L2.St} {H : Hp} {x : V} {u : Value} {Q : VK} (sb : Sub X n A1) (F : FnOk X.prog X.w X.K X.mg X.base CX0 n f fd ps sp) (hb : Binds X.K fd ps []) (I : Inv X pins σ H s) (r : RelV x u) (h : sp [x] H Q noXK) :
    wpAny (model X.prog X.w) A1 (call (.ref f) [u]) (EP X pins σ Q) (fun _ _ => False) s := by
  have e := I.env0
  have e0 : Env0 X.prog X.w X.K X.mg X.base A1 X.stack s H := ⟨sb.fr.trans e.frames, e.mod, e.bs, e.bsz, e.funs, e.frf, e.hok, e.bare⟩
  have hl : ([u] ++ []).length = ps.length := F.len _ _ _ _ h
  have bd := hb s [u] I.kIn hl
  refine wpAny_call (codeAny_mono (F.run A1 X.stack s H ⟨[u], []⟩ [u] [x] Q noXK sb.room e0 bd (.cons r .nil) h) fun r s' hq => ?_)
  rcases r with e | fl
  · exact False.elim hq
  · cases fl with
    | ret v => exact I.after hq
    | next => exact hq.elim
    | brk => exact hq.elim
    | cont => exact hq.elim
theorem fpOk_at {pins : List (Addr × Obj)} {H H' : Hp} {b : Addr} (a : FpOk X pins H b) (h : H' b = none) : FpOk X pins H' b := ⟨h, a.2⟩
theorem mkf_loop {pins : List (Addr × Obj)} {σ : L2.St} {H0 : Hp} {l It S : Addr} {xs : List V} {k : V → Int} {R : Result → Shared → Prop} (sb : Sub X n X.A.in1) (hc : X.calm = true) (F : FnOk X.prog X.w X.K X.mg X.base CX0 n f fd ps sp) (hb : Binds X.K fd ps [])
    (hl : SqL X.K H0 l xs) (nS : H0 S = none)
    (turn : ∀ x ∈ xs, ∀ (H1 : Hp) (Q1 : VK), Same H0 H1 → (∀ H2, Same H1 H2 → Q1 (.int (k x)) H2) → sp [x] H1 Q1 noXK)
    (hR : ∀ x u H' s', x ∈ xs → (∀ y ∈ xs, k y ≤ k x) → Same H0 H' → Inv X pins σ H' s' → RelV x u → R (.ok (.ret u)) s') :
    ∀ (r j : Nat) (H : Hp) (s : Shared) (x : V), xs.length - (j + 1) = r → j + 1 ≤ xs.length → Inv X pins σ H s → Same H0 H → FpOk X pins H It → s.heap.IsListIter It l (j + 1) → H S = some (.lst [x, .int (k x)]) → x ∈ xs →
      (∀ j' y, j' ≤ j → xs[j']? = some y → k y ≤ k x) → codeAny (model X.prog X.w) X.A (.builtin "max.loop" ⟨[.ref It, .ref f, .ref S], []⟩) R s := by
  have hname : (toString "max" ++ toString ".loop" : String) = "max.loop" := by decide
  intro r
  induction r with
  | zero =>
    intro j H s x hr hj I sH fp hit hS hx best
    obtain ⟨zS, itS, cS, rS, lS, eS⟩ := I.lstM hS
    obtain ⟨vb, kb, rfl, rb, tb, rfl⟩ := Vals.two rS
    have hSI : S ≠ It := ne_of_none hS fp.1
    obtain ⟨its, rv, pl, hz⟩ := I.list (sH.seq hl)
    have hlen := rv.length
    obtain ⟨f0, f1, f2, f3, f4, f5⟩ := id fp
    refine codeAny_builtin PySem.F.entry_max_loop ?_
    rw [Around.under_plainId PySem.F.plain_max_loop _]
    show wpAny _ X.A.in1 (seqItems? (.ref S) >>= _) _ _ s
    refine wpAny_bind (wpAny_seqItems eS rfl ?_)
    show wpAny _ X.A.in1 (tryCatch (pyNext (.ref It)) _ >>= _) _ _ s
    refine wpAny_bind (wpAny_tryCatch (wpAny_pyNext_list_end (I.ok.hd hc) hit pl.isList (by simp; omega) fun h' eb => ?_))
    have I1 : Inv X pins σ H { s with heap := h' } := I.turned (t' := s.toks) (fun b o hb e => eb b o hb e) f0 f1 f3 f4 f5
    have eS1 := eb S _ hSI eS
    show wpAny _ X.A.in1 (updateSeq S (fun _ => #[]) >>= _) _ _ _
    refine wpAny_bind ?_
    refine wpAny_updateSeq eS1 rfl (wpAny_bind (wpAny_letGo (wpAny_pure ?_)))
    refine hR x vb _ _ hx (fun y hy => ?_) (fun b o e => ?_) (I1.lset (t' := s.toks) (f := fun _ => #[]) (its' := []) (ys := []) hS eS1 rfl .nil (Nat.zero_le _)) rb
    · obtain ⟨j', hj'⟩ := List.mem_iff_getElem?.mp hy
      have := (List.getElem?_eq_some_iff.mp hj').1
      exact best j' y (by omega) hj'
    · rw [upd_ne (ne_of_none e nS)]
      exact sH _ _ e
  | succ r ih =>
    intro j H s x hr hj I sH fp hit hS hx best
    obtain ⟨zS, itS, cS, rS, lS, eS⟩ := I.lstM hS
    obtain ⟨vb, kb, rfl, rb, tb, rfl⟩ := Vals.two rS
    have hSI : S ≠ It := ne_of_none hS fp.1
    obtain ⟨its, rv, pl, hz⟩ := I.list (sH.seq hl)
    have hlen := rv.length
    obtain ⟨y, hy⟩ : ∃ y, xs[j + 1]? = some y := ⟨_, List.getElem?_eq_getElem (by omega)⟩
    obtain ⟨u, hu, ru⟩ := rv.get hy
    obtain ⟨f0, f1, f2, f3, f4, f5⟩ := id fp
    refine codeAny_builtin PySem.F.entry_max_loop ?_
    rw [Around.under_plainId PySem.F.plain_max_loop _]
    show wpAny _ X.A.in1 (seqItems? (.ref S) >>= _) _ _ s
    refine wpAny_bind (wpAny_seqItems eS rfl ?_)
    show wpAny _ X.A.in1 (tryCatch (pyNext (.ref It)) _ >>= _) _ _ s
    refine wpAny_bind (wpAny_tryCatch (wpAny_pyNext_list_item hit pl.isList (x := u) (by simpa using hu) fun h' st' sbt => ?_))
    have I1 : Inv X pins σ H { s with heap := h' } := I.turned (t' := s.toks) (fun b o hb e => (sbt.2 b hb).trans e) f0 f1 f3 f4 f5
    obtain ⟨o, eo, co, dO⟩ := id st'
    have I1p := I1.pinned (fp := [It]) (fun b hb => by
      have e : b = It := by simpa using hb
      subst e
      exact fp) (fun b hb => by
      have e : b = It := by simpa using hb
      subst e
      exact ⟨o, eo, fun v z => by rw [dO] at z; cases z⟩)
    show wpAny _ X.A.in1 (tryCatch (holding [u] (call (.ref f) [u])) _ >>= _) _ _ _
    refine wpAny_bind (wpAny_tryCatch (wpAny_holding (wpAny_mono (mkf_turn sb F hb I1p ru (turn y (List.mem_of_getElem? hy) H (fun v H2 => v = .int (k y) ∧ Same H H2) sH fun H2 s2 => ⟨rfl, s2⟩)) (fun w s2 hw => ?_) fun _ _ hF => hF.elim)))
    obtain ⟨v2, H2, I2p, rv2, rfl, sH2⟩ := hw
    obtain ⟨t2, rfl⟩ := rv2
    have pI := I2p.pin (It, o) (List.mem_append_right _ (List.mem_append_right _ (mem_pinsAt (by simp) eo)))
    have I2 := I2p.unpinned
    have hit2 : s2.heap.IsListIter It l (j + 1 + 1) := ⟨o, pI.1, co, dO⟩
    have hS2 := sH2 _ _ hS
    have fp2 : FpOk X pins H2 It := fpOk_at fp pI.2.1
    have s02 := sH.trans sH2
    show wpAny _ X.A.in1 (tryCatch (holding [u, .int (k y) t2] (richCompare .Gt (.int (k y) t2) (.int (k x) tb) >>= _)) _ >>= _) _ _ _
    refine wpAny_bind (wpAny_tryCatch (wpAny_holding (wpAny_bind (CmpOf.ints_gt (prog := X.prog) (w := X.w) (A := X.A.in1) (P := fun i v => ∃ t, v = .int (if i = 0 then k y else k x) t) (fun i => if i = 0 then k y else k x) (fun i v h => h) 0 1 _ _ _ _ _ ⟨t2, rfl⟩ ⟨tb, rfl⟩ ?_))))
    refine wpAny_bind (wpAny_holding (wpAny_truthy_bool ?_))
    refine wpAny_bind (wpAny_letGo (wpAny_pure ?_))
    by_cases hgt : k y > k x
    · show wpAny _ X.A.in1 (if decide (k y > k x) = true then _ else _) _ _ _
      rw [if_pos (decide_eq_true hgt)]
      obtain ⟨zS2, itS2, cS2, rS2, lS2, eS2⟩ := I2.lstM hS2
      refine wpAny_bind ?_
      refine wpAny_updateSeq eS2 rfl (wpAny_bind (wpAny_letGo ?_)) (by rw [List.size_toArray, ← lS2, sizeLine_eq]; exact Nat.le_of_ble_eq_true rfl) (by show 2 ≤ sizeLine + 1; rw [sizeLine_eq]; decide)
      rw [hname]
      refine wpAny_pure ⟨plainId_quiet PySem.F.plain_max_loop _, ih (j + 1) (upd H2 S (.lst [y, .int (k y)])) _ y (by omega) (by omega)
        (I2.lset (t' := s2.toks) (f := fun _ => #[u, .int (k y) t2]) (its' := [u, .int (k y) t2]) (ys := [y, .int (k y)]) hS2 eS2 rfl (.cons ru (.cons ⟨t2, rfl⟩ .nil)) (by show 2 ≤ sizeLine; rw [sizeLine_eq]; decide))
        (fun b o' e => ?_) (fpOk_at fp (by rw [upd_ne (Ne.symm hSI)]; exact pI.2.1)) ⟨o, ?_, co, dO⟩ upd_same (List.mem_of_getElem? hy) fun j' z hj' hz' => ?_⟩
      · rw [upd_ne (ne_of_none e nS)]
        exact s02 _ _ e
      · exact (Heap.get?_update_other _ _ hSI).trans pI.1
      · by_cases e : j' = j + 1
        · subst e
          rw [hy] at hz'
          cases hz'
          exact Int.le_refl _
        · have := best j' z (by omega) hz'
          omega
    · show wpAny _ X.A.in1 (if decide (k y > k x) = true then _ else _) _ _ _
      rw [if_neg (fun z => hgt (of_decide_eq_true z))]
      refine wpAny_bind (wpAny_letGo ?_)
      rw [hname]
      refine wpAny_pure ⟨plainId_quiet PySem.F.plain_max_loop _, ih (j + 1) H2 _ x (by omega) (by omega) I2 s02 fp2 hit2 hS2 hx fun j' z hj' hz' => ?_⟩
      by_cases e : j' = j + 1
      · subst e
        rw [hy] at hz'
        cases hz'
        omega
      · exact best j' z (by omega) hz'
theorem run_maxKey {pins : List (Addr × Obj)} {s : Shared} {σ : L2.St} {H : Hp} {vs : List V} {us : List Value} {Q : VK} (hr : Room (n + 1) X.A) (hc : X.calm = true) (F : FnOk X.prog X.w X.K X.mg X.base CX0 n f fd ps sp) (hb : Binds X.K fd ps []) (I : Inv X pins σ H s) (r : Vals vs us) (h : rMaxKey X.K sp vs H Q) :
    wpAny (model X.prog X.w) X.A (call (.builtin "max") us [(Str.ofString "key", .ref f)]) (EP X pins σ Q) X.xe s := by
  obtain ⟨l, xs, k, rfl, hl, l0, turn, q⟩ := h
  obtain ⟨its, rv, pl, hz⟩ := I.list hl
  obtain ⟨u0, rfl, ru0⟩ := vals1 r
  obtain rfl : u0 = Value.ref l := ru0
  have sb : Sub X n X.A.in1 := Sub.in1 (⟨hr, rfl⟩ : Sub X (n + 1) X.A)
  have hname : (toString "max" ++ toString ".loop" : String) = "max.loop" := by decide
  have hlen := rv.length
  refine kmk_tree PySem.F.kind_max PySem.F.plain_max PySem.F.entry_max (kmk_max_key _ _) ?_
  show wpAny _ X.A.in1 (Builtin.Builtins.bindParams "max" ["key", "default"] 0 ⟨[], [(Str.ofString "key", .ref f)]⟩ >>= _) _ _ s
  refine wpAny_bind (wpAny_of_eq (show Builtin.Builtins.bindParams "max" ["key", "default"] 0 ⟨[], [(Str.ofString "key", .ref f)]⟩ = pure [some (.ref f), none] from rfl) ?_)
  refine wpAny_bind (wpAny_pure ?_)
  refine wpAny_bind (wpAny_pyIter_list pl.isList ?_)
  refine wpAny_bind (wpAny_newList ?_ (Nat.zero_le _))
  rw [hname]
  generalize eIt : s.heap.objs.size = It
  have nI : H It = none := I.hok.fresh (by rw [eIt]; exact Nat.le_refl _)
  have I1 : Inv X pins σ H { s with heap := s.heap.push { cls := .type "list_iterator", data := .fields #[.ref l, .int 0 0] } } := I.kept (t' := s.toks) fun b o e => Heap.get?_push_of_some _ e
  have fp1 : FpOk X pins H It := I.fpOk (by rw [eIt]; exact Nat.le_refl _) nI
  have hit1 : (s.heap.push { cls := .type "list_iterator", data := .fields #[.ref l, .int 0 0] }).get? It = some { cls := .type "list_iterator", data := .fields #[.ref l, .int 0 0] } := by rw [← eIt]; exact Heap.get?_push_size _ rfl
  have I2 := I1.lnew (its := []) (ys := []) (t' := s.toks) .nil (Nat.zero_le _)
  have nS : H (s.heap.push { cls := .type "list_iterator", data := .fields #[.ref l, .int 0 0] }).objs.size = none := I1.fresh
  have hit2 : ((s.heap.push { cls := .type "list_iterator", data := .fields #[.ref l, .int 0 0] }).push { cls := .type "list", data := .seq #[] }).get? It = some { cls := .type "list_iterator", data := .fields #[.ref l, .int 0 0] } := Heap.get?_push_of_some _ hit1
  have hSI : (s.heap.push { cls := .type "list_iterator", data := .fields #[.ref l, .int 0 0] }).objs.size ≠ It := by
    rw [size_push', eIt]
    exact Nat.ne_of_gt (Nat.lt_succ_self _)
  refine wpAny_pure ⟨plainId_quiet PySem.F.plain_max_loop _, ?_⟩
  have hS : upd H (s.heap.push { cls := .type "list_iterator", data := .fields #[.ref l, .int 0 0] }).objs.size (.lst []) (s.heap.push { cls := .type "list_iterator", data := .fields #[.ref l, .int 0 0] }).objs.size = some (.lst []) := upd_same
  have sH : Same H (upd H (s.heap.push { cls := .type "list_iterator", data := .fields #[.ref l, .int 0 0] }).objs.size (.lst [])) := same1 nS
  have fp2 : FpOk X pins (upd H (s.heap.push { cls := .type "list_iterator", data := .fields #[.ref l, .int 0 0] }).objs.size (.lst [])) It := fpOk_at fp1 (by rw [upd_ne (Ne.symm hSI)]; exact nI)
  generalize upd H (s.heap.push { cls := .type "list_iterator", data := .fields #[.ref l, .int 0 0] }).objs.size (.lst []) = HS at *
  generalize (s.heap.push { cls := .type "list_iterator", data := .fields #[.ref l, .int 0 0] }).objs.size = S at *
  have hst : ((s.heap.push { cls := .type "list_iterator", data := .fields #[.ref l, .int 0 0] }).push { cls := .type "list", data := .seq #[] }).IsListIter It l 0 := ⟨_, hit2, rfl, rfl⟩
  have I2' : Inv X pins σ HS { s with heap := (s.heap.push { cls := .type "list_iterator", data := .fields #[.ref l, .int 0 0] }).push { cls := .type "list", data := .seq #[] } } := I2
  show codeAny _ _ _ _ { s with heap := (s.heap.push { cls := .type "list_iterator", data := .fields #[.ref l, .int 0 0] }).push { cls := .type "list", data := .seq #[] } }
  clear I2 I1 hit1 hit2
  generalize (s.heap.push { cls := .type "list_iterator", data := .fields #[.ref l, .int 0 0] }).push { cls := .type "list", data := .seq #[] } = h2 at *
  obtain ⟨zS, itS, cS, rS, lS, eS⟩ := I2'.lstM hS
  cases rS
  obtain ⟨its2, rv2, pl2, hz2⟩ := I2'.list (sH.seq hl)
  have hlen2 := rv2.length
  obtain ⟨y, hy⟩ : ∃ y, xs[0]? = some y := ⟨_, List.getElem?_eq_getElem l0⟩
  obtain ⟨u, hu, ru⟩ := rv2.get hy
  obtain ⟨f0, f1, f2, f3, f4, f5⟩ := id fp2
  refine codeAny_builtin PySem.F.entry_max_loop ?_
  rw [Around.under_plainId PySem.F.plain_max_loop _]
  show wpAny _ X.A.in1 (seqItems? (.ref S) >>= _) _ _ _
  refine wpAny_bind (wpAny_seqItems eS rfl ?_)
  show wpAny _ X.A.in1 (tryCatch (pyNext (.ref It)) _ >>= _) _ _ _
  refine wpAny_bind (wpAny_tryCatch (wpAny_pyNext_list_item hst pl2.isList (x := u) (by simpa using hu) fun h' st' sbt => ?_))
  have I3 : Inv X pins σ HS { s with heap := h' } := I2'.turned (t' := s.toks) (fun b o hb e => (sbt.2 b hb).trans e) f0 f1 f3 f4 f5
  obtain ⟨o, eo, co, dO⟩ := id st'
  have I3p := I3.pinned (fp := [It]) (fun b hb => by
    have e : b = It := by simpa using hb
    subst e
    exact fp2) (fun b hb => by
    have e : b = It := by simpa using hb
    subst e
    exact ⟨o, eo, fun v z => by rw [dO] at z; cases z⟩)
  show wpAny _ X.A.in1 (tryCatch (holding [u] (call (.ref f) [u])) _ >>= _) _ _ _
  refine wpAny_bind (wpAny_tryCatch (wpAny_holding (wpAny_mono (mkf_turn sb F hb I3p ru (turn y (List.mem_of_getElem? hy) HS (fun v H2 => v = .int (k y) ∧ Same HS H2) sH fun H2 s2 => ⟨rfl, s2⟩)) (fun w s2 hw => ?_) fun _ _ hF => hF.elim)))
  obtain ⟨v2, H2, I4p, rv4, rfl, sH2⟩ := hw
  obtain ⟨t2, rfl⟩ := rv4
  have pI := I4p.pin (It, o) (List.mem_append_right _ (List.mem_append_right _ (mem_pinsAt (by simp) eo)))
  have I4 := I4p.unpinned
  have hS2 := sH2 _ _ hS
  obtain ⟨zS2, itS2, cS2, rS2, lS2, eS2⟩ := I4.lstM hS2
  cases rS2
  show wpAny _ X.A.in1 (updateSeq S (fun _ => #[u, .int (k y) t2]) >>= _) _ _ _
  refine wpAny_bind ?_
  refine wpAny_updateSeq eS2 rfl ?_ (Nat.zero_le _) (by show 2 ≤ sizeLine + 1; rw [sizeLine_eq]; decide)
  rw [hname]
  refine wpAny_pure ⟨plainId_quiet PySem.F.plain_max_loop _, mkf_loop sb hc F hb hl nS turn (fun x u' H' s' m b sH' I' ru' => ⟨x, H', I', ru', q x H' m b sH'⟩) _ 0 (upd H2 S (.lst [y, .int (k y)])) _ y rfl l0
    (I4.lset (t' := s2.toks) (f := fun _ => #[u, .int (k y) t2]) (its' := [u, .int (k y) t2]) (ys := [y, .int (k y)]) hS2 eS2 rfl (.cons ru (.cons ⟨t2, rfl⟩ .nil)) (by show 2 ≤ sizeLine; rw [sizeLine_eq]; decide))
    (fun b o' e => ?_) (fpOk_at fp1 (by rw [upd_ne (Ne.symm hSI)]; exact pI.2.1)) ⟨o, ?_, co, dO⟩ upd_same (List.mem_of_getElem? hy) fun j' z hj' hz' => ?_⟩
  · rw [upd_ne (ne_of_none e nS)]
    exact (sH.trans sH2) _ _ e
  · exact (Heap.get?_update_other _ _ hSI).trans pI.1
  · have e : j' = 0 := by omega
    subst e
    rw [hy] at hz'
    cases hz'
    exact Int.le_refl _
theorem pe_maxKey {x y : Str} {p lp kp pos : Pos} {e : Expr} {t : TA} (hx : x = "max") (hg : Gl X x) (hm : X.mg x = none) (F : FnOk X.prog X.w X.K X.mg X.base CX0 n f fd ps sp) (hr : Room (n + 1) X.A) (hc : X.calm = true) (hgy : Gl X y) (hmy : X.mg y = some (.ref f)) (hb : Binds X.K fd ps [])
    (ha : PA X [e] t) (hbs : bootBuiltins "max" = some (.builtin "max")) (hdb : (y == ("__debug__" : Str)) = false := by decide)
    (he : backTo pos (starEach [e] X.env) = (false, eval e X.env) :: backTo pos (starEach [] X.env) := by rfl) (hpl : (backTo pos (starEach [e] X.env)).any (·.1) = false := by rfl) :
    PE X (.Call (.Name x p) [e] [⟨some "key", .Name y lp, kp⟩] pos) (tCB (rMaxKey X.K sp) t) := by
  subst hx
  refine ⟨fun pins s σ H Q I h => ?_⟩
  refine wpAny_Call_Name_kw (ld_blt I hg hm hbs ?_ (by decide) (by decide))
  refine PyProof.Rows.callWith_kw (thn (ha.run pos pins s σ H _ I h) fun us s1 ⟨vs, H1, I1, r1, q1⟩ => ?_) he hpl rfl rfl
  refine kwAll_cons (ld_glob I1 hgy hmy (kwAll_nil ?_) hdb)
  exact run_maxKey hr hc F hb I1 r1 q1
end
/-- the same where the inner walks are of unlike lengths, at most m -/
theorem lc2v {J : It} {n m : Nat} {G : Hp → Prop} {Y : Nat → Hp → V → Hp → Prop} {g g1 : TG} {tt tt1 : TT} {wi1 : TI} {te : TE} {vs vs1 : List Nat} {σ : L2.St} {H1 : Hp} {D : Addr} {Qd : Hp → Prop}
    (w : Walk J n G Y) (hGs : ∀ H H', G H → Same H H' → G H') (P : Nat → Hp → List V → Prop) (Pin : Nat → Nat → Hp → List V → Prop)
    (hP : ∀ i H H' acc, P i H acc → Nl H H' → P i H' acc) (hPin : ∀ i j H H' acc, Pin i j H acc → Nl H H' → Pin i j H' acc)
    (hz : n * m < sizeLine) (hG : G H1) (hD : H1 D = none) (h0 : P 0 (upd H1 D (.lst [])) [])
    (hs : ∀ (i : Nat) (x : V) (H H' : Hp) (acc : List V) (NX : Hp → Prop), i < n → Same H1 H → H D = some (.lst acc) → P i H acc → Y i H x H' → (∀ H3, Same H H3 → P (i + 1) H3 acc → NX H3) →
      (∀ (J1 : It) (H4 : Hp) (σ2 : L2.St) (G1 : Hp → Prop) (Y1 : Nat → Hp → V → Hp → Prop) (m' : Nat), m' ≤ m → Same H H4 → Pin i 0 H4 acc → Walk J1 m' G1 Y1 → (∀ H5, Kp D H4 H5 → G1 H5) →
        (∀ (j : Nat) (x : V) (H5 H6 : Hp) (acc : List V) (N : VK) (M : Hp → Prop), j < m' → Kp D H4 H5 → H5 D = some (.lst acc) → Pin i j H5 acc → Y1 j H5 x H6 → (∀ y H7, Same H5 H7 → Pin i (j + 1) H7 (acc ++ [y]) → N y H7) → (∀ H7, Same H5 H7 → Pin i (j + 1) H7 acc → M H7) →
          g1 x (wipe σ2 vs1) H6 fun σ3 H8 => wipe σ3 vs1 = wipe σ2 vs1 ∧ tt1 σ3 H8 fun b H9 => if b = true then te σ3 H9 N else M H9) →
        (∀ H5 acc, Kp D H4 H5 → Pin i m' H5 acc → P (i + 1) H5 acc) → Inn2 g1 tt1 te vs1 D NX σ2 J1 H4) →
      g x (wipe σ vs) H' fun σ2 H2 => wipe σ2 vs = wipe σ vs ∧ tt σ2 H2 fun b H3 => if b = true then wi1 σ2 H3 fun J1 H4 => Inn2 g1 tt1 te vs1 D NX σ2 J1 H4 else NX H3)
    (hd : ∀ H acc, Same H1 H → H D = some (.lst acc) → acc.length ≤ n * m → P n H acc → Qd H) :
    ∃ W : Nat → Nat → Hp → Prop, (∃ m, W 0 m (upd H1 D (.lst []))) ∧ ∀ i m H, W i m H →
  (J.stop i H ∧ Qd H) ∨ (J.go i H ∧ ∃ Nx : Hp → Prop, (∀ H', Nx H' → ∃ m', m' < m ∧ W (i + 1) m' H') ∧ ∀ x H', J.yld i H x H' → g x (wipe σ vs) H' fun σ2 H2 => wipe σ2 vs = wipe σ vs ∧ tt σ2 H2 fun b H3 =>
    if b = true then wi1 σ2 H3 fun J1 H4 => Inn2 g1 tt1 te vs1 D Nx σ2 J1 H4
    else Nx H3) := by
  let Pv : Nat → Hp → Prop := fun i H => Same H1 H ∧ ∃ acc, H D = some (.lst acc) ∧ acc.length ≤ i * m ∧ P i H acc
  refine ⟨fun i k H => k = n - i ∧ i ≤ n ∧ Pv i H, ⟨n, by simp, Nat.zero_le _, same1 hD, [], upd_same, Nat.zero_le _, h0⟩, ?_⟩
  rintro i k H ⟨rfl, hi, p⟩
  have q := hGs _ _ hG p.1
  by_cases hlt : i < n
  · refine .inr ⟨w.goes i H hlt q, Pv (i + 1), fun H' p' => ⟨n - (i + 1), by omega, rfl, hlt, p'⟩, fun x H' y => ?_⟩
    obtain ⟨sH, acc, hacc, lacc, pH⟩ := p
    have em : (i + 1) * m = i * m + m := by rw [Nat.add_mul, Nat.one_mul]
    have le : (i + 1) * m ≤ n * m := Nat.mul_le_mul_right _ hlt
    refine hs i x H H' acc _ hlt sH hacc pH (w.yields i H x H' hlt q y) (fun H3 s3 p3 => ⟨sH.trans s3, acc, s3 _ _ hacc, by omega, p3⟩) (fun J1 H4 σ2 G1 Y1 m' lm s4 pin w1 hG1 hin hfin => ?_)
    refine inn2 w1 (fun j H => Kp D H4 H ∧ Same H1 H ∧ ∃ acc, H D = some (.lst acc) ∧ acc.length ≤ i * m + j ∧ Pin i j H acc) ⟨Kp.refl _ _, sH.trans s4, acc, s4 _ _ hacc, by omega, pin⟩ (fun j H _ p => hG1 _ p.1) (fun j x H5 H6 hj p5 y5 => ?_) (fun H p => ?_)
    · obtain ⟨k5, s5, acc5, h5, l5, pin5⟩ := p5
      refine hin j x H5 H6 acc5 _ _ hj k5 h5 pin5 y5 (fun v H7 s7 pin7 => ⟨acc5, s7 _ _ h5, Nat.lt_of_le_of_lt (show acc5.length ≤ n * m by omega) hz, ?_, ?_, acc5 ++ [v], upd_same, ?_, hPin _ _ _ _ _ pin7 (Nl.put (s7 _ _ h5))⟩) (fun H7 s7 pin7 => ⟨k5.trans (Kp.same s7), s5.trans s7, acc5, s7 _ _ h5, by omega, pin7⟩)
      · intro c o ec nc
        rw [upd_ne nc]
        exact s7 _ _ (k5 c o ec nc)
      · intro c o ec
        rw [upd_ne (ne_of_none ec hD)]
        exact s7 _ _ (s5 _ _ ec)
      · rw [List.length_append, List.length_singleton]
        omega
    · obtain ⟨k5, s5, acc5, h5, l5, pin5⟩ := p
      exact ⟨s5, acc5, h5, by omega, hfin _ _ k5 pin5⟩
  · have e : i = n := by omega
    subst e
    obtain ⟨sH, acc, hacc, lacc, pH⟩ := p
    exact .inl ⟨w.stops H q, hd H acc sH hacc lacc pH⟩
end My
namespace My
open PySem PySem.Spec PyProof.Rows L2
/-! ### d.update(o), sorted(d): dicts of whole numbers -/
def rUpdD : V → List V → Hp → VK → Prop := fun x vs H Q => ∃ (d o : Addr) (kvs more : List (Key × V)), x = .ref d ∧ vs = [.ref o] ∧ d ≠ o ∧ H d = some (.dK kvs) ∧ H o = some (.dK more) ∧ kvs.length + more.length ≤ sizeLine ∧ Q .non (upd H d (.dK (mergeK kvs more)))
theorem mt_updD {X : Cx} : MtR X "dict.update" rUpdD := by
  intro pins s σ H x xs v us Q I rx rxs h
  obtain ⟨d, o, kvs, more, rfl, rfl, ne, hd, ho, hz, q⟩ := h
  cases rx
  obtain ⟨u, rfl, ru⟩ := vals1 rxs
  cases ru
  obtain ⟨zd, md, vd, rd, dd⟩ := I.hok d _ hd
  obtain ⟨zo, mo, vo, ro, dO⟩ := I.hok o _ ho
  have l1 := rd.length
  have l2 := ro.length
  refine call_meetsIn PySem.F.slot_dict_update dd.typeIs PySem.F.entry_dict_update (PySem.F.args_dict_update_2 _ _) (meets_dict_update (mixKind X.prog X.w) d o ne mo) ⟨vd, vo, dd, dO, by omega, fun h' hd' ho' sb => ?_⟩
  have zl : (mergeK kvs more).length ≤ sizeLine := Nat.le_trans (length_mergeK more kvs) hz
  exact ⟨.non, _, I.write (x := d) (e := d) (o := .dK (mergeK kvs more)) (t' := s.toks) (by rw [hd]; trivial) (.inl rfl) (fun b u hb q => (sb.2 b hb).trans q) (let ⟨o, _, _, e, _⟩ := hd'; ⟨o, e⟩) (dk_new zl md (KV.merge ro rd) hd'), rfl, q⟩
section
variable {prog : Program} {w : World} {A : Around} {E : Value → Shared → Prop} {s : Shared} {K : Type} [DecidableEq K] {knd : KeyKind prog w K} {d : Addr} {kvs : List (K × Value)} {ep : Nat}
theorem collect_dict {R : List Value → Shared → Prop} (hh : A.handled = none) (lo : (d == sysModules) = false) (hm : s.heap.DictAt knd d kvs ep) (hn : kvs.length ≤ sizeLine)
    (h : ∀ (h' : Heap) (tk : Nat) (acc : Array Value), (∀ b o, s.heap.get? b = some o → h'.get? b = some o) → s.heap.objs.size < h'.objs.size → ItemsOf (fun i v => ∃ k x, kvs[i]? = some (k, x) ∧ knd.is k v = true) acc kvs.length → R acc.toList { s with heap := h', toks := tk }) :
    wpAny (model prog w) A (collect (.ref d)) R E s := by
  have lt : d < s.heap.objs.size := hm.lt_size
  unfold collect
  apply wpAny_bind
  refine wpAny_runValue (codeAny_builtin PySem.F.entry_proto_collect ?_)
  rw [Around.under_plainId PySem.F.plain_proto_collect _]
  show wpAny _ A.in1 (newList [] >>= fun l => again (.builtin "list.__iadd__" ⟨[l, .ref d], []⟩)) _ _ s
  apply wpAny_bind
  refine wpAny_newObj_type ?_
  refine wpAny_pure ⟨plainId_quiet PySem.F.plain_list_iadd _, codeAny_builtin PySem.F.entry_list_iadd ?_⟩
  rw [Around.under_plainId PySem.F.plain_list_iadd _]
  have hS : (s.heap.push { cls := .type "list", data := .seq ([] : List Value).toArray }).get? s.heap.objs.size = some { cls := .type "list", data := .seq #[] } := Heap.get?_push_size _ rfl
  show wpAny _ A.in1 (Builtin.List.listExtendWith (.ref s.heap.objs.size) (.ref d) (.ref s.heap.objs.size)) _ _ _
  have key := PySem.W.kdl_extend (A := A) (s := { s with heap := s.heap.push { cls := .type "list", data := .seq ([] : List Value).toArray } })
    (R := fun (q : Result) (s' : Shared) => ∃ (h' : Heap) (tk : Nat) (acc : Array Value) (c : Nat), q = .ok (.ret (.ref s.heap.objs.size)) ∧ s' = { s with heap := h', toks := tk } ∧
      (∀ b o, s.heap.get? b = some o → h'.get? b = some o) ∧ h'.get? s.heap.objs.size = some { cls := .type "list", dict := none, data := .seq acc c, slots := #[] } ∧ ItemsOf (fun i v => ∃ k x, kvs[i]? = some (k, x) ∧ knd.is k v = true) acc kvs.length)
    (PySem.W.kdl_dict (knd := knd) (kvs := kvs) (ep := ep) lo) hh (hm.push _) s.heap.objs.size (Nat.ne_of_gt lt) (Nat.ne_of_gt lt) (.ref s.heap.objs.size) 0 hS
    (fun h' tk acc c hk hS' hacc => ⟨h', tk, acc, c, rfl, rfl, fun b o e => hk b o (Nat.ne_of_lt (Heap.lt_size e)) (Heap.get?_push_of_some _ e), hS', hacc⟩) hn
  refine wpAny_mono key (fun fin s' x => ?_) fun e s' x => ?_
  · cases fin with
    | done f =>
      obtain ⟨h', tk, acc, c, e, rfl, hk, hS', hacc⟩ := x
      cases e
      show wpAny _ A (load s.heap.objs.size >>= _) _ _ _
      apply wpAny_bind
      exact wpAny_load hS' (wpAny_pure (h h' tk acc hk (Heap.lt_size hS') hacc))
    | again c₁ =>
      refine ⟨x.1, codeAny_mono x.2 fun q s₂ y => ?_⟩
      obtain ⟨h', tk, acc, c, rfl, rfl, hk, hS', hacc⟩ := y
      show wpAny _ A (load s.heap.objs.size >>= _) _ _ _
      apply wpAny_bind
      exact wpAny_load hS' (wpAny_pure (h h' tk acc hk (Heap.lt_size hS') hacc))
  · obtain ⟨_, _, _, _, e', _⟩ := x
    cases e'
end
/-- sorted(d), d a dict of whole numbers -/
def rSortedDI : List V → Hp → VK → Prop := fun vs H Q => ∃ (a : Addr) (kvs : List (Key × V)) (ns : List Int), vs = [V.ref a] ∧ H a = some (.dK kvs) ∧ kvs.map (·.1) = ns.map Sum.inl ∧
  ∀ (ns' : List Int) (p : Addr), ns'.Perm ns → ns'.Pairwise (· ≤ ·) → H p = none → Q (.ref p) (upd H p (.lst (ns'.map V.int)))
theorem ints_acc {P : Program} {w : World} : ∀ {kvs : List (Key × Value)} {ns : List Int} {acc : List Value}, kvs.map (·.1) = ns.map Sum.inl → acc.length = kvs.length → (∀ (j : Nat) (v : Value), acc[j]? = some v → ∃ k x, kvs[j]? = some (k, x) ∧ (mixKind P w).is k v = true) → IntsAre acc ns
  | [], [], [], _, _, _ => .nil
  | [], [], _ :: _, _, h, _ => by simp at h
  | [], _ :: _, _, h, _, _ => by simp at h
  | _ :: _, [], _, h, _, _ => by simp at h
  | kv :: kvs, z :: ns, [], _, h, _ => by simp at h
  | kv :: kvs, z :: ns, v :: acc, h, l, f => by
    rw [List.map_cons, List.map_cons] at h
    obtain ⟨h1, h2⟩ := List.cons.inj h
    obtain ⟨k, x, e, q⟩ := f 0 v rfl
    cases e
    have h1 : k = Sum.inl z := h1
    subst h1
    obtain ⟨t, rfl⟩ := Value.isInt_shape (k := z) (v := v) q
    exact .cons z t (ints_acc h2 (by simpa using l) fun j u hu => f (j + 1) u (by simpa using hu))
theorem kv_keys : ∀ {kvs : List (Key × V)} {ws : List (Key × Value)}, KV kvs ws → kvs.map (·.1) = ws.map (·.1)
  | _, _, .nil => rfl
  | _, _, .cons h t => by rw [List.map_cons, List.map_cons, kv_keys t, h.1]
theorem cr_sortedDI {X : Cx} (hc : X.calm = true := by rfl) : CallR X (.builtin "sorted") rSortedDI := by
  intro pins s σ H vs us Q I r h
  obtain ⟨a, kvs, ns, rfl, ha, hk, q⟩ := h
  rw [Vals.ref1 r]
  obtain ⟨z, ms, ws, rel, od, es, ep, ho, hx, hd, r1, r2, r3⟩ := I.hok a _ ha
  have DA : s.heap.DictAt (mixKind X.prog X.w) a ws ep := ⟨od, es, ho, hx, hd, r1, r2, r3⟩
  have lw := rel.length
  have hk2 : ws.map (·.1) = ns.map Sum.inl := by
    rw [← hk]
    exact (kv_keys rel).symm
  apply Calls.call_function_entry kind_sorted plain_sorted entry_sorted (args_sorted1 _)
  unfold Builtin.«sorted»
  refine wpAny_bind (m := checkCount "sorted" 1 1 _) (wpAny_pure ?_)
  apply wpAny_bind
  refine collect_dict (A := X.A.in1) (I.ok.hd hc) ms DA (by omega) fun h1 tk acc kp lt hacc => ?_
  have la : acc.toList.length = ws.length := by rw [Array.length_toList]; exact hacc.1
  have hI := ints_acc (P := X.prog) (w := X.w) hk2 la fun j v e => hacc.2 j v (by rw [← Array.getElem?_toList]; exact e)
  apply wpAny_bind
  refine wpAny_newList ?_ (by rw [la]; omega)
  have gL : (h1.push (seqObj "list" acc.toList.toArray 0)).get? h1.objs.size = some (seqObj "list" acc.toList.toArray 0) := Heap.get?_push_size _ rfl
  apply wpAny_bind
  apply wpAny_holding
  refine wpAny_call_entry slot_list_sort ⟨_, gL, rfl⟩ entry_list_sort (SrtO.list_sort_ord SrtO.swo_int gL (by rw [la]; omega) (fun h2 => SrtO.ints_sortable hI h2) fun out s1 s2 => ⟨_, rfl, ?_⟩) (args_list_sort _)
  obtain ⟨k1, k2, k3⟩ := SrtO.ints_out hI s1 s2
  obtain ⟨c, hc2⟩ := sortedHeap_at (vs := acc.toList) (out := out.toArray) gL
  have hlen : ((out.map SrtO.iv).map V.int).length ≤ sizeLine := by
    rw [List.length_map, k2.length_eq]
    have := congrArg List.length hk
    rw [List.length_map, List.length_map] at this
    omega
  refine wpAny_pure ⟨_, rfl, .ref h1.objs.size, upd H h1.objs.size (.lst ((out.map SrtO.iv).map V.int)), I.laid (t' := tk) (fun b u e => ?_) (Nat.le_of_lt lt) ⟨hlen, out, c, vals_of_ints k1, hc2⟩, rfl, q _ _ k2 k3 (I.hok.fresh (Nat.le_of_lt lt))⟩
  have qq := kp b u e
  have lq := Heap.lt_size qq
  show (sortedHeap (h1.push (seqObj "list" acc.toList.toArray 0)) h1.objs.size acc.toList out.toArray).get? b = some u
  rw [sortedHeap_old (Nat.ne_of_lt lq) (by rw [size_push']; exact Nat.lt_succ_of_lt lq)]
  exact Heap.get?_push_of_some _ qq
end My
namespace My
open PySem PySem.Spec PyProof.Rows L2
/-! ### measures at all ends, between and beyond: they meet all that is met -/
/-- an end of a ladder: a mark, a midst of two neighbours, least, most -/
def EndL (d : LD) (e : Rat) : Prop := e ∈ d.ms ∨ (∃ (i : Nat) (x y : Rat), d.ms[i]? = some x ∧ d.ms[i + 1]? = some y ∧ e = (x + y) / 2) ∨ d.lo = some e ∨ d.hi = some e
theorem loCut_ends {o p : Option Rat} {i j : Bool} {e : Rat} (h : (loCut o i p j).1 = some e) : o = some e ∨ p = some e := by
  unfold loCut at h
  cases p with
  | none => exact .inl h
  | some b =>
    cases o with
    | none => exact .inr h
    | some a =>
      by_cases c : b < a
      · simp only [c, if_true] at h
        exact .inl h
      · simp only [c, if_false] at h
        exact .inr h
theorem hiCut_ends {o p : Option Rat} {i j : Bool} {e : Rat} (h : (hiCut o i p j).1 = some e) : o = some e ∨ p = some e := by
  unfold hiCut at h
  cases p with
  | none => exact .inl h
  | some b =>
    cases o with
    | none => exact .inr h
    | some a =>
      by_cases c : a < b
      · simp only [c, if_true] at h
        exact .inl h
      · simp only [c, if_false] at h
        exact .inr h
theorem lw_end {d : LD} {k : Nat} {e : Rat} (h : lwR d.ms k = some e) : EndL d e := by
  cases k with
  | zero => cases h
  | succ k => exact .inl (List.mem_of_getElem? (show d.ms[k]? = some e from h))
theorem md_end {d : LD} {k : Nat} {e : Rat} (h : mdR d.ms k = some e) : EndL d e := by
  cases k with
  | zero => cases h
  | succ k =>
    have h : (match d.ms[k]?, d.ms[k + 1]? with
      | some a, some b => some ((a + b) / 2)
      | _, _ => none) = some e := h
    cases e1 : d.ms[k]? with
    | none => rw [e1] at h; cases h
    | some x =>
      cases e2 : d.ms[k + 1]? with
      | none => rw [e1, e2] at h; cases h
      | some y =>
        rw [e1, e2] at h
        exact .inr (.inl ⟨k, x, y, e1, e2, (Option.some.inj h).symm⟩)
theorem rul_ends {d : LD} {k : Nat} {e : Rat} (h : (rulR d k).1 = some e ∨ (rulR d k).2.2.1 = some e) : EndL d e := by
  unfold rulR at h
  split at h
  · rcases h with h | h
    · exact lw_end h
    · exact .inl (List.mem_of_getElem? h)
  · split at h
    · rcases h with h | h
      · exact .inl (List.mem_of_getElem? h)
      · exact .inl (List.mem_of_getElem? h)
    · rcases h with h | h
      · exact md_end (k := k) h
      · exact md_end (k := k + 1) h
theorem part_ends {d : LD} {k : Nat} {e : Rat} (h : (partL d k).1 = some e ∨ (partL d k).2.2.1 = some e) : EndL d e := by
  rcases h with h | h
  · rcases loCut_ends (show (loCut (rulR d k).1 (rulR d k).2.1 d.lo true).1 = some e from h) with h | h
    · exact rul_ends (.inl h)
    · exact .inr (.inr (.inl h))
  · rcases hiCut_ends (show (hiCut (rulR d k).2.2.1 (rulR d k).2.2.2 d.hi true).1 = some e from h) with h | h
    · exact rul_ends (.inr h)
    · exact .inr (.inr (.inr h))
theorem loB_gap {o : Option Rat} {i : Bool} {u v x y : Rat} (h : ∀ e, o = some e → ¬ (u < e ∧ e < v)) (x1 : u < x) (x2 : x < v) (y1 : u < y) (y2 : y < v) (g : loB o i x = true) : loB o i y = true := by
  cases o with
  | none => rfl
  | some a =>
    have q := h a rfl
    simp only [loB, Bool.or_eq_true, Bool.and_eq_true, decide_eq_true_eq] at *
    grind
theorem hiB_gap {o : Option Rat} {i : Bool} {u v x y : Rat} (h : ∀ e, o = some e → ¬ (u < e ∧ e < v)) (x1 : u < x) (x2 : x < v) (y1 : u < y) (y2 : y < v) (g : hiB o i x = true) : hiB o i y = true := by
  cases o with
  | none => rfl
  | some a =>
    have q := h a rfl
    simp only [hiB, Bool.or_eq_true, Bool.and_eq_true, decide_eq_true_eq] at *
    grind
theorem F_gap1 {d : LD} (ok : LdOk d) {u v x y : Rat} {k : Nat} (h : ∀ e, EndL d e → ¬ (u < e ∧ e < v)) (x1 : u < x) (x2 : x < v) (y1 : u < y) (y2 : y < v) (g : d.F x = some k) : d.F y = some k := by
  have hk := LD.F_lt g
  have hi := Bool.and_eq_true_iff.mp (show (loB _ _ x && hiB _ _ x) = true from (part_in ok hk).mpr g)
  refine (part_in ok hk).mp (show (loB _ _ y && hiB _ _ y) = true from ?_)
  rw [loB_gap (fun e q => h e (part_ends (.inl q))) x1 x2 y1 y2 hi.1, hiB_gap (fun e q => h e (part_ends (.inr q))) x1 x2 y1 y2 hi.2]
  rfl
theorem F_gap {d : LD} (ok : LdOk d) {u v x y : Rat} (h : ∀ e, EndL d e → ¬ (u < e ∧ e < v)) (x1 : u < x) (x2 : x < v) (y1 : u < y) (y2 : y < v) : d.F x = d.F y := by
  cases e : d.F x with
  | some k => exact (F_gap1 ok h x1 x2 y1 y2 e).symm
  | none =>
    cases g : d.F y with
    | none => rfl
    | some k =>
      rw [F_gap1 ok h y1 y2 x1 x2 g] at e
      cases e
/-- the midsts of neighbours -/
def midsR : List Rat → List Rat
  | a :: b :: t => (a + b) / 2 :: midsR (b :: t)
  | _ => []
theorem mids_len : ∀ l : List Rat, (midsR l).length = l.length - 1
  | [] => rfl
  | [_] => rfl
  | a :: b :: t => by
    show (midsR (b :: t)).length + 1 = _
    rw [mids_len (b :: t)]
    simp
theorem mids_get : ∀ {l : List Rat} {i : Nat} {a b : Rat}, l[i]? = some a → l[i + 1]? = some b → (midsR l)[i]? = some ((a + b) / 2)
  | [], i, a, b, h, _ => by simp at h
  | [_], i, a, b, _, h => by simp at h
  | x :: y :: t, 0, a, b, h, g => by
    cases h
    cases g
    rfl
  | x :: y :: t, i + 1, a, b, h, g => mids_get (l := y :: t) (by simpa using h) (by simpa using g)
/-- where a number lies among rising ones -/
theorem lies : ∀ {l : List Rat}, l.Pairwise (· < ·) → ∀ x : Rat, x ∈ l ∨ (∃ (i : Nat) (a b : Rat), l[i]? = some a ∧ l[i + 1]? = some b ∧ a < x ∧ x < b) ∨ (∀ e ∈ l, x < e) ∨ ∀ e ∈ l, e < x
  | [], _, x => .inr (.inr (.inl fun e h => by simp at h))
  | a :: t, h, x => by
    obtain ⟨h1, h2⟩ := List.pairwise_cons.mp h
    by_cases c : x < a
    · refine .inr (.inr (.inl fun e he => ?_))
      rcases List.mem_cons.mp he with rfl | he
      · exact c
      · have := h1 e he
        grind
    by_cases c2 : x = a
    · exact .inl (by rw [c2]; exact List.mem_cons_self)
    have c3 : a < x := by grind
    rcases lies h2 x with q | ⟨i, b, d, e1, e2, r⟩ | q | q
    · exact .inl (List.mem_cons_of_mem _ q)
    · exact .inr (.inl ⟨i + 1, b, d, by simpa using e1, by simpa using e2, r⟩)
    · cases t with
      | nil => exact .inr (.inr (.inr fun e he => by
          cases List.mem_singleton.mp he
          exact c3))
      | cons b t => exact .inr (.inl ⟨0, a, b, rfl, rfl, c3, q b List.mem_cons_self⟩)
    · refine .inr (.inr (.inr fun e he => ?_))
      rcases List.mem_cons.mp he with rfl | he
      · exact c3
      · exact q e he
/-- ends, between, beyond -/
def triedR (E : List Rat) (a b : Rat) : List Rat := E ++ midsR E ++ [a + -1, b + 1]
theorem pw_get {l : List Rat} (h : l.Pairwise (· < ·)) {i j : Nat} {a b : Rat} (e1 : l[i]? = some a) (e2 : l[j]? = some b) (ij : i < j) : a < b := by
  obtain ⟨h1, rfl⟩ := List.getElem?_eq_some_iff.mp e1
  obtain ⟨h2, rfl⟩ := List.getElem?_eq_some_iff.mp e2
  exact List.pairwise_iff_getElem.mp h i j h1 h2 ij
theorem tried_ok {E : List Rat} {a b : Rat} (pw : E.Pairwise (· < ·)) (ha : E[0]? = some a) (hb : E[E.length - 1]? = some b) (x : Rat) : ∃ p, p ∈ triedR E a b ∧ ∀ d : LD, LdOk d → (∀ e, EndL d e → e ∈ E) → d.F p = d.F x := by
  rcases lies pw x with q | ⟨i, c, d', e1, e2, x1, x2⟩ | q | q
  · exact ⟨x, List.mem_append_left _ (List.mem_append_left _ q), fun _ _ _ => rfl⟩
  · refine ⟨(c + d') / 2, List.mem_append_left _ (List.mem_append_right _ (List.mem_of_getElem? (mids_get e1 e2))), fun d ok al => F_gap ok (u := c) (v := d') (fun e he ⟨g1, g2⟩ => ?_) (by grind) (by grind) x1 x2⟩
    obtain ⟨j, hj⟩ := List.mem_iff_getElem?.mp (al e he)
    by_cases l1 : j ≤ i
    · by_cases l2 : j = i
      · subst l2
        rw [e1] at hj
        cases hj
        grind
      · have := pw_get pw hj e1 (by omega)
        grind
    · by_cases l2 : j = i + 1
      · subst l2
        rw [e2] at hj
        cases hj
        grind
      · have := pw_get pw e2 hj (by omega)
        grind
  · have qa := q a (List.mem_of_getElem? ha)
    have lo : ∀ e ∈ E, a ≤ e := fun e he => by
      obtain ⟨j, hj⟩ := List.mem_iff_getElem?.mp he
      by_cases l2 : j = 0
      · subst l2
        rw [ha] at hj
        cases hj
        grind
      · have := pw_get pw ha hj (by omega)
        grind
    obtain ⟨u, u1, u2⟩ : ∃ u : Rat, u < x ∧ u < a + -1 := by
      by_cases c : x < a + -1
      · exact ⟨x - 1, by grind, by grind⟩
      · exact ⟨a - 2, by grind, by grind⟩
    refine ⟨a + -1, List.mem_append_right _ (by simp), fun d ok al => F_gap ok (u := u) (v := a) (fun e he ⟨_, g2⟩ => ?_) u2 (by grind) u1 qa⟩
    have := lo e (al e he)
    grind
  · have qb := q b (List.mem_of_getElem? hb)
    have hi : ∀ e ∈ E, e ≤ b := fun e he => by
      obtain ⟨j, hj⟩ := List.mem_iff_getElem?.mp he
      have lj := (List.getElem?_eq_some_iff.mp hj).1
      by_cases l2 : j = E.length - 1
      · subst l2
        rw [hb] at hj
        cases hj
        grind
      · have := pw_get pw hj hb (by omega)
        grind
    obtain ⟨v, v1, v2⟩ : ∃ v : Rat, x < v ∧ b + 1 < v := by
      by_cases c : x < b + 1
      · exact ⟨b + 2, by grind, by grind⟩
      · exact ⟨x + 1, by grind, by grind⟩
    refine ⟨b + 1, List.mem_append_right _ (by simp), fun d ok al => F_gap ok (u := b) (v := v) (fun e he ⟨g1, _⟩ => ?_) (by grind) v2 qb v1⟩
    have := hi e (al e he)
    grind
/-! ### put in one by one, rising -/
def cntR (ss : List Rat) (q : Rat) : Nat := (ss.filter fun s => decide (s < q)).length
def insR (ss : List Rat) (q : Rat) : List Rat := ss.take (cntR ss q) ++ [q] ++ ss.drop (cntR ss q)
theorem insR_mem (ss : List Rat) (q x : Rat) : x ∈ insR ss q ↔ x ∈ ss ∨ x = q := by
  unfold insR
  rw [List.mem_append, List.mem_append, List.mem_singleton]
  have h : x ∈ ss ↔ x ∈ ss.take (cntR ss q) ∨ x ∈ ss.drop (cntR ss q) := by
    rw [← List.mem_append, List.take_append_drop]
  rw [h]
  constructor
  · rintro ((h | h) | h)
    · exact .inl (.inl h)
    · exact .inr h
    · exact .inl (.inr h)
  · rintro ((h | h) | h)
    · exact .inl (.inl h)
    · exact .inr h
    · exact .inl (.inr h)
theorem insR_pw : ∀ {ss : List Rat} {q : Rat}, ss.Pairwise (· < ·) → q ∉ ss → (insR ss q).Pairwise (· < ·)
  | [], q, _, _ => by
    show [q].Pairwise (· < ·)
    exact List.pairwise_singleton _ _
  | a :: t, q, h, n => by
    obtain ⟨h1, h2⟩ := List.pairwise_cons.mp h
    have nq : ¬ q = a := fun e => n (by rw [e]; exact List.mem_cons_self)
    have nt : q ∉ t := fun e => n (List.mem_cons_of_mem _ e)
    by_cases c : a < q
    · have e : insR (a :: t) q = a :: insR t q := by
        have ec : cntR (a :: t) q = cntR t q + 1 := by
          unfold cntR
          rw [List.filter_cons_of_pos (by exact decide_eq_true c)]
          rfl
        unfold insR
        rw [ec]
        rfl
      rw [e]
      refine List.pairwise_cons.mpr ⟨fun x hx => ?_, insR_pw h2 nt⟩
      rcases (insR_mem t q x).mp hx with hx | rfl
      · exact h1 x hx
      · exact c
    · have qa : q < a := by grind
      have e0 : cntR (a :: t) q = 0 := by
        unfold cntR
        rw [List.length_eq_zero_iff, List.filter_eq_nil_iff]
        intro x hx
        rw [decide_eq_true_eq]
        rcases List.mem_cons.mp hx with rfl | hx
        · exact c
        · have := h1 x hx
          grind
      have e : insR (a :: t) q = q :: a :: t := by
        unfold insR
        rw [e0]
        rfl
      rw [e]
      refine List.pairwise_cons.mpr ⟨fun x hx => ?_, h⟩
      rcases List.mem_cons.mp hx with rfl | hx
      · exact qa
      · have := h1 x hx
        grind
theorem cntR_le (ss : List Rat) (q : Rat) : cntR ss q ≤ ss.length := List.length_filter_le _ _
def optR (q : Rat) : List V → List Rat → List (Option V)
  | w :: ws, s :: ss => (if s < q then some w else none) :: optR q ws ss
  | _, _ => []
theorem optR_len {q : Rat} : ∀ {ws : List V} {ss : List Rat}, ws.length = ss.length → (optR q ws ss).length = ws.length
  | [], [], _ => rfl
  | [], _ :: _, h => by simp at h
  | _ :: _, [], h => by simp at h
  | w :: ws, s :: ss, h => by
    show (optR q ws ss).length + 1 = _
    rw [optR_len (by simpa using h)]
    rfl
theorem optR_get {q s : Rat} {w : V} : ∀ {ws : List V} {ss : List Rat} {i : Nat}, ws[i]? = some w → ss[i]? = some s → (optR q ws ss)[i]? = some (if s < q then some w else none)
  | [], _, i, h, _ => by simp at h
  | _ :: _, [], i, _, h => by simp at h
  | w0 :: ws, s0 :: ss, 0, h, g => by
    cases h
    cases g
    rfl
  | w0 :: ws, s0 :: ss, i + 1, h, g => optR_get (ws := ws) (ss := ss) (by simpa using h) (by simpa using g)
theorem optR_cnt {q : Rat} : ∀ {ws : List V} {ss : List Rat}, ws.length = ss.length → ((optR q ws ss).filterMap id).length = cntR ss q
  | [], [], _ => rfl
  | [], _ :: _, h => by simp at h
  | _ :: _, [], h => by simp at h
  | w :: ws, s :: ss, h => by
    have ih := optR_cnt (q := q) (ws := ws) (ss := ss) (by simpa using h)
    show (((if s < q then some w else none) :: optR q ws ss).filterMap id).length = _
    unfold cntR at ih ⊢
    by_cases c : s < q
    · rw [if_pos c, List.filter_cons_of_pos (by exact decide_eq_true c)]
      show (((optR q ws ss).filterMap id).length + 1) = _
      rw [ih]
      rfl
    · rw [if_neg c, List.filter_cons_of_neg (by rw [decide_eq_true_eq]; exact c)]
      exact ih
theorem RsV.app {H : Hp} {vs ws : List V} {ms ns : List Rat} (a : RsV H vs ms) (b : RsV H ws ns) : RsV H (vs ++ ws) (ms ++ ns) := by
  refine ⟨by rw [List.length_append, List.length_append, a.1, b.1], fun i x e => ?_⟩
  by_cases hi : i < ms.length
  · rw [List.getElem?_append_left hi] at e
    obtain ⟨p, e1, e2⟩ := a.2 i x e
    exact ⟨p, by rw [List.getElem?_append_left (by rw [a.1]; exact hi)]; exact e1, e2⟩
  · rw [List.getElem?_append_right (by omega)] at e
    obtain ⟨p, e1, e2⟩ := b.2 _ x e
    exact ⟨p, by rw [List.getElem?_append_right (by rw [a.1]; omega), a.1]; exact e1, e2⟩
theorem RsV.take {H : Hp} {vs : List V} {ms : List Rat} (a : RsV H vs ms) (n : Nat) : RsV H (vs.take n) (ms.take n) := by
  refine ⟨by rw [List.length_take, List.length_take, a.1], fun i x e => ?_⟩
  rw [List.getElem?_take] at e
  split at e
  · obtain ⟨p, e1, e2⟩ := a.2 i x e
    exact ⟨p, by rw [List.getElem?_take, if_pos (by assumption)]; exact e1, e2⟩
  · cases e
theorem RsV.drop {H : Hp} {vs : List V} {ms : List Rat} (a : RsV H vs ms) (n : Nat) : RsV H (vs.drop n) (ms.drop n) := by
  refine ⟨by rw [List.length_drop, List.length_drop, a.1], fun i x e => ?_⟩
  rw [List.getElem?_drop] at e
  obtain ⟨p, e1, e2⟩ := a.2 _ x e
  exact ⟨p, by rw [List.getElem?_drop]; exact e1, e2⟩
theorem RsV.one {H : Hp} {a : Addr} {q : Rat} (h : H a = some (PR q)) : RsV H [.ref a] [q] := ⟨rfl, fun i x e => by
  cases i with
  | zero => cases e; exact ⟨a, rfl, h⟩
  | succ i => simp at e⟩
theorem RsV.none {H : Hp} : RsV H [] [] := ⟨rfl, fun i x e => by simp at e⟩
theorem RsV.insr {H : Hp} {vs : List V} {ms : List Rat} {a : Addr} {q : Rat} (r : RsV H vs ms) (h : H a = some (PR q)) : RsV H (vs.take (cntR ms q) ++ [.ref a] ++ vs.drop (cntR ms q)) (insR ms q) := ((r.take _).app (RsV.one h)).app (r.drop _)
theorem RsV.dp {K : PySem.W.Frag} {H : Hp} {D : Addr} {vs : List V} {ms : List Rat} (hD : H D = some (.lst vs)) (r : RsV H vs ms) : Dp K H (.ref D) (.list (ms.map fun q => intsD [q.num, (q.den : Int)])) := by
  refine .lst (SqL.of hD) (dpAll_of (fun q : Rat => intsD [q.num, (q.den : Int)]) r.1 fun i v q e1 e2 => ?_)
  obtain ⟨a, g1, g2⟩ := r.2 i q e2
  rw [e1] at g1
  cases g1
  exact dpT (zs := [q.num, (q.den : Int)]) g2
theorem any_rats (ms : List Rat) (q : Rat) : ((ms.map fun q => intsD [q.num, (q.den : Int)]).any fun z => PyData.eqv z (intsD [q.num, (q.den : Int)])) = decide (q ∈ ms) := by
  rw [Bool.eq_iff_iff, List.any_eq_true, decide_eq_true_eq]
  constructor
  · rintro ⟨z, hz, e⟩
    obtain ⟨x, hx, rfl⟩ := List.mem_map.mp hz
    rw [eqv_intsD, decide_eq_true_eq] at e
    injection e with e1 e2
    injection e2 with e3 _
    rw [PR.inj e1.symm e3.symm]
    exact hx
  · intro h
    exact ⟨_, List.mem_map.mpr ⟨q, h, rfl⟩, by rw [eqv_intsD]; exact decide_eq_true rfl⟩
/-- the ends of a ladder, as the law gathers them -/
def endsR (d : LD) : List Rat := d.ms ++ midsR d.ms ++ (d.lo.toList ++ d.hi.toList)
theorem ends_all {d : LD} {e : Rat} (h : EndL d e) : e ∈ endsR d := by
  unfold endsR
  rcases h with h | ⟨i, x, y, h1, h2, rfl⟩ | h | h
  · exact List.mem_append_left _ (List.mem_append_left _ h)
  · exact List.mem_append_left _ (List.mem_append_right _ (List.mem_of_getElem? (mids_get h1 h2)))
  · exact List.mem_append_right _ (List.mem_append_left _ (by rw [h]; simp))
  · exact List.mem_append_right _ (List.mem_append_right _ (by rw [h]; simp))
end My
namespace My
open PySem PySem.Spec PyProof.Rows L2
/-! ### d[k] = v, sorted(xs) with K by name -/
end My
namespace My
open PySem PySem.Spec PyProof.Rows L2
/-! ### d.setdefault(k, v), d.get(k, v) with the room by name -/
theorem pe_dsetdK {X : Cx} {o e f : Expr} {td ty tx : TE} {apos cpos : Pos} (ho : PE X o td) (he : PE X e ty) (hf : PE X f tx) (h1 : attributeBase o "setdefault" X.env (eval o X.env) = eval o X.env := by rfl)
    (h2 : ((backTo cpos (starEach [e, f] X.env)).all (fun x => !x.1) && (backToKw cpos (keywordEach [] X.env)).all (fun x => x.1.isSome) && decide (([e, f] : List Expr).length + ([] : List Keyword).length + (if ([] : List Keyword).isEmpty then 0 else 1) < 30)) = true := by rfl)
    (h3 : (apos.endLine == cpos.line) = true := by rfl) (h4 : backTo cpos (starEach [e, f] X.env) = [(false, eval e X.env), (false, eval f X.env)] := by rfl) : PE X (.Call (.Attribute o "setdefault" apos) [e, f] [] cpos) (tDSetd td ty tx) :=
  pe_dsetd ho he hf ⟨h1, h2, h3, h4⟩
theorem pe_dgetK {X : Cx} {o e f : Expr} {td ty tx : TE} {apos cpos : Pos} (hu : X.A.units + 64 < cLine) (ho : PE X o td) (he : PE X e ty) (hf : PE X f tx) (h1 : attributeBase o "get" X.env (eval o X.env) = eval o X.env := by rfl)
    (h2 : ((backTo cpos (starEach [e, f] X.env)).all (fun x => !x.1) && (backToKw cpos (keywordEach [] X.env)).all (fun x => x.1.isSome) && decide (([e, f] : List Expr).length + ([] : List Keyword).length + (if ([] : List Keyword).isEmpty then 0 else 1) < 30)) = true := by rfl)
    (h3 : (apos.endLine == cpos.line) = true := by rfl) (h4 : backTo cpos (starEach [e, f] X.env) = [(false, eval e X.env), (false, eval f X.env)] := by rfl) : PE X (.Call (.Attribute o "get" apos) [e, f] [] cpos) (tDGet2 td ty tx) :=
  pe_dget2 (Nat.lt_of_le_of_lt (Nat.add_le_add_left (by decide) _) hu) ho he hf ⟨h1, h2, h3, h4⟩
theorem repTK {X : Cx} {K : PySem.W.Frag} (h : X.K = K := by rfl) : OpR X (binaryOp .Mult) (rRepT K) := by
  subst h
  exact op_repT
end My
namespace My
open PySem PySem.Spec PyProof.Rows L2
/-! ### a comprehension that makes lists -/
/-- all but D stays -/
def Kx (D : Addr) (H H' : Hp) : Prop := ∀ c o, H c = some o → c ≠ D → H' c = some o
theorem Kx.of {D : Addr} {H H' : Hp} (s : Same H H') : Kx D H H' := fun c o e _ => s c o e
theorem Kx.put {D : Addr} {H : Hp} {u : HO} : Kx D H (upd H D u) := fun c o e n => by rw [upd_ne n]; exact e
theorem Kx.trans {D : Addr} {H H' H'' : Hp} (a : Kx D H H') (b : Kx D H' H'') : Kx D H H'' := fun c o e n => b _ _ (a _ _ e n) n
section
variable {J : It} {n : Nat} {G : Hp → Prop} {Y : Nat → Hp → V → Hp → Prop} {g : TG} {tt : TT} {te : TE} {vs : List Nat} {σ : L2.St} {H1 : Hp} {D : Addr} {Qd : Hp → Prop}
theorem lcd (w : Walk J n G Y) (hGs : ∀ H H', G H → Same H H' → G H') (R : Nat → Hp → V → Prop) (hR : ∀ i H H' y, R i H y → Kx D H H' → R i H' y) (hz : n < sizeLine) (hG : G H1) (hD : H1 D = none)
    (hs : ∀ (i : Nat) (x : V) (H H' : Hp) (N : VK) (M : Hp → Prop), i < n → Same H1 H → (∃ acc, H D = some (.lst acc)) → Y i H x H' → (∀ y H4, Same H H4 → R i H4 y → N y H4) →
      g x (wipe σ vs) H' fun σ2 H2 => wipe σ2 vs = wipe σ vs ∧ tt σ2 H2 fun b H3 => if b = true then te σ2 H3 N else M H3)
    (hd : ∀ H ys, Same H1 H → H D = some (.lst ys) → ys.length = n → (∀ i y, ys[i]? = some y → R i H y) → Qd H) :
    ∃ W : Nat → Nat → Hp → Prop, (∃ m, W 0 m (upd H1 D (.lst []))) ∧ ∀ i m H, W i m H →
      (J.stop i H ∧ Qd H) ∨ (J.go i H ∧ ∃ Nx : Hp → Prop, (∀ H', Nx H' → ∃ m', m' < m ∧ W (i + 1) m' H') ∧ ∀ x H', J.yld i H x H' → g x (wipe σ vs) H' fun σ2 H2 => wipe σ2 vs = wipe σ vs ∧ tt σ2 H2 fun b H3 =>
        if b = true then te σ2 H3 fun y H4 => ∃ acc, H4 D = some (.lst acc) ∧ acc.length < sizeLine ∧ Nx (upd H4 D (.lst (acc ++ [y]))) else Nx H3) := by
  refine lc_it w (fun i H => Same H1 H ∧ ∃ ys, H D = some (.lst ys) ∧ ys.length = i ∧ ∀ j y, ys[j]? = some y → R j H y) ⟨same1 hD, [], upd_same, rfl, fun j y hy => by simp at hy⟩ (fun i H _ p => hGs _ _ hG p.1) (fun i x H H' hi p y => ?_) (fun H p => ?_)
  · obtain ⟨s1, ys, h1, h2, h3⟩ := p
    refine hs i x H H' _ _ hi s1 ⟨ys, h1⟩ y (fun v H4 s4 r4 => ⟨ys, s4 _ _ h1, by omega, ?_, ys ++ [v], upd_same, by rw [List.length_append, h2]; rfl, ?_⟩)
    · intro c o ec
      rw [upd_ne (ne_of_none ec hD)]
      exact s4 _ _ (s1 _ _ ec)
    · intro j z hj
      by_cases hlt : j < ys.length
      · rw [List.getElem?_append_left hlt] at hj
        exact hR _ _ _ _ (hR _ _ _ _ (h3 j z hj) (Kx.of s4)) Kx.put
      · have hj2 : j = ys.length := by
          have := (List.getElem?_eq_some_iff.mp hj).1
          rw [List.length_append, List.length_singleton] at this
          omega
        subst hj2
        rw [List.getElem?_append_right (Nat.le_refl _), Nat.sub_self] at hj
        cases hj
        rw [h2]
        exact hR _ _ _ _ r4 Kx.put
  · obtain ⟨s1, ys, h1, h2, h3⟩ := p
    exact hd H ys s1 h1 h2 h3
end
end My
namespace K36
open PySem PySem.Spec PyProof.Rows L2 My
local macro_rules | `(tactic| walk_at "c") => `(tactic| first | exact Eq.refl _ | ((with_reducible show (_ : Int) ≤ _); omega) | ((with_reducible show (_ : Int) < _); omega) | ((with_reducible show (_ : Nat) ≤ _); omega) | ((with_reducible show (_ : Nat) < _); omega) | assumption | with_reducible exact lf_marks _ _ _ _ | with_reducible exact lf_rule _ _ _ _ | with_reducible exact lf_least _ _ _ _ | with_reducible exact lf_most _ _ _ _ | with_reducible exact mf_top _ _ | with_reducible exact mf_bottom _ _ | with_reducible exact sf_low _ _ _ _ | with_reducible exact sf_high _ _ _ _ | with_reducible exact sf_low_in _ _ _ _ | with_reducible exact sf_high_in _ _ _ _ | exact SqL.of (by assumption) | exact SqT.of (by assumption) | exact Or.inl (SqL.of (by assumption)) | exact Or.inr (SqT.of (by assumption)) | exact Or.inr (by assumption) | exact Or.inl (by assumption) | omega | exact atI_nat (by assumption) | exact atI_of (n := 0) rfl (by assumption) | exact logS (by omega) | exact Or.inl (Or.inl ⟨by omega, by omega⟩) | exact Or.inl (Or.inr ⟨by omega, by omega⟩) | exact szb rfl | exact szs (by omega) | exact szl (by omega) | exact Or.inl ⟨Eq.refl _, _, SqL.of (by assumption)⟩ | exact ⟨_, SqT.of (by assumption)⟩ | exact ⟨_, SqL.of (by assumption)⟩ | exact ⟨by omega, by omega, by omega, by omega⟩)
local macro_rules | `(tactic| walk_at "e") => `(tactic| first | rfl | exact ⟨rfl, rfl⟩ | exact ⟨rfl, rfl, rfl⟩ | assumption | exact trivial)
local macro_rules | `(tactic| walk_at "w1") => `(tactic| first
  | refine q_belowT (by assumption) (by assumption) (by omega) (by omega) ?_ | refine q_belowA (by assumption) (by assumption) (by omega) (by omega) ?_ | refine q_subT (by assumption) (by assumption) (by omega) (by omega) (by omega) ?_
  | refine meth_q (by assumption) (by decide +kernel) (by decide +kernel) ?_ | refine meth_l (by assumption) (by decide +kernel) (by decide +kernel) (by decide +kernel) (by decide +kernel) ?_ | refine meth_s (by assumption) (by decide +kernel) (by decide +kernel) (by decide +kernel) (by decide +kernel) ?_
  | apply @Exists.intro V | apply @Exists.intro Int | apply @Exists.intro Addr | apply @Exists.intro Bool | apply @Exists.intro (List V) | apply @Exists.intro Str | apply @Exists.intro Nat | apply @Exists.intro (List (Str × V))
  | refine And.intro (by walk_at "c") ?_ | refine iteT ?_ | refine iteF ?_ | refine iteDT (by omega) ?_ | refine iteDF (by omega) ?_ | refine iteNS (by omega) ?_ | refine iteNT (by omega) ?_)
local macro_rules | `(tactic| walk_at "w") => `(tactic| repeat (walk_at "w1"))
local macro_rules | `(tactic| walk_at "wa1") => `(tactic| first | refine q_addT (by assumption) (by assumption) (by omega) (by omega) (by omega) ?_ | refine q_mulT (by assumption) (by assumption) (by omega) (by omega) (by omega) ?_ | walk_at "w1")
local macro_rules | `(tactic| walk_at "wa") => `(tactic| repeat (walk_at "wa1"))
local macro_rules | `(tactic| walk_at "hand") => `(tactic| first | assumption | exact HandAt.up (by walk_at "hand") (by assumption))
local macro_rules | `(tactic| walk_at "hp") => `(tactic| first | assumption | exact upd_same | exact up1 (by assumption) (by walk_at "hp") | exact Kp.get (by assumption) (by walk_at "hand") (by walk_at "hp") (by rfl) | exact L2.Same.get (by assumption) (by walk_at "hp") | exact up2 (by assumption) (by walk_at "hp") (by rfl))
local macro_rules | `(tactic| walk_at "fc") => `(tactic| first | (with_reducible apply eq_id; apply Eq.refl) | (with_reducible apply ile_id; omega) | (with_reducible apply ilt_id; omega) | (with_reducible apply nle_id; omega) | (with_reducible apply nlt_id; omega) | assumption | (apply Eq.refl; done) | with_reducible exact lf_marks _ _ _ _ | with_reducible exact lf_rule _ _ _ _ | with_reducible exact lf_least _ _ _ _ | with_reducible exact lf_most _ _ _ _ | with_reducible exact mf_top _ _ | with_reducible exact mf_bottom _ _ | with_reducible exact sf_low _ _ _ _ | with_reducible exact sf_high _ _ _ _ | with_reducible exact sf_low_in _ _ _ _ | with_reducible exact sf_high_in _ _ _ _ | exact SqL.of (by assumption) | exact SqT.of (by assumption) | exact Or.inl (SqL.of (by assumption)) | exact Or.inr (SqT.of (by assumption)) | exact Or.inr (by assumption) | exact Or.inl (by assumption) | omega | exact atI_nat (by assumption) | exact atI_of (n := 0) rfl (by assumption) | exact logS (by omega) | exact Or.inl (Or.inl ⟨by omega, by omega⟩) | exact Or.inl (Or.inr ⟨by omega, by omega⟩) | exact szb rfl | exact szs (by omega) | exact szl (by omega) | exact Or.inl ⟨Eq.refl _, _, SqL.of (by assumption)⟩ | exact ⟨_, SqT.of (by assumption)⟩ | exact ⟨_, SqL.of (by assumption)⟩ | exact ⟨by omega, by omega, by omega, by omega⟩)
local macro_rules | `(tactic| walk_at "f1") => `(tactic| first
  | refine q_belowT (by assumption) (by assumption) (by omega) (by omega) ?_ | refine q_belowA (by assumption) (by assumption) (by omega) (by omega) ?_ | refine q_subT (by assumption) (by assumption) (by omega) (by omega) (by omega) ?_
  | refine meth_q (by assumption) (by decide +kernel) (by decide +kernel) ?_ | refine meth_l (by assumption) (by decide +kernel) (by decide +kernel) (by decide +kernel) (by decide +kernel) ?_ | refine meth_s (by assumption) (by decide +kernel) (by decide +kernel) (by decide +kernel) (by decide +kernel) ?_
  | apply @Exists.intro V | apply @Exists.intro Int | apply @Exists.intro Addr | apply @Exists.intro Bool | apply @Exists.intro (List V) | apply @Exists.intro Str | apply @Exists.intro Nat | apply @Exists.intro (List (Str × V))
  | (apply And.intro; (focus (walk_at "fc"))) | (with_reducible apply iteT) | (with_reducible apply iteF) | refine iteDT (by omega) ?_ | refine iteDF (by omega) ?_ | refine iteNS (by omega) ?_ | refine iteNT (by omega) ?_)
local macro_rules | `(tactic| walk_at "f") => `(tactic| repeat (walk_at "f1"))


def sp_shby (CM CS : Addr) : Sp := fun vs H Q _ => ∃ (v w : V) (k : Nat) (zs zt : List Q2) (r rt : Str) (lo hi lt ht : Option Q2) (a b : Nat), vs = [v, w] ∧ RunV CM CS H v zs r lo hi a ∧ RunV CM CS H w zt rt lt ht b ∧ LadQ zs r lo hi ∧ LadQ zt rt lt ht ∧ a < zs.length ∧ b < zt.length ∧ SzE k (sizE zs r lo hi a).1.1 ∧ SzE k (sizE zs r lo hi a).2.1 ∧ SzE k (sizE zt rt lt ht b).1.1 ∧ SzE k (sizE zt rt lt ht b).2.1 ∧ 0 < k ∧ k ≤ 2000 ∧
  ∀ (u : V) (H' : Hp), Same H H' → MetV CM H' (k + k + 12) u (sizF zs r lo hi) (sizF zt rt lt ht) a b → Q u H'
theorem raw_sze {CM : Addr} {H : Hp} {v : V} {m e : Option Q2} {k : Nat} (a : MsV CM H v m) (l : LowO m) (r : ReO m e) (s : SzE k e) : SzE k m := by
  have q := qo_of a l r s
  cases m with
  | none => trivial
  | some m =>
    cases e with
    | none => exact r.elim
    | some e =>
      obtain ⟨p, rfl, ma⟩ := a
      obtain ⟨p', ep, qq⟩ := q
      cases ep
      obtain ⟨t, u, mt, fr⟩ := id qq.ob
      obtain ⟨e1, e2⟩ := ma.uniq mt
      have h1 := qq.s1.le fr.lt
      have h2 := qq.s2.le fr.lu
      rw [← e1] at h1
      rw [← e2] at h2
      exact ⟨h1, h2⟩
theorem none_met {zs : List Q2} {r : Str} {lo hi : Option Q2} {a : Nat} (L : LadQ zs r lo hi) (ha : a < zs.length) (h : sizB zs r lo hi a = false) {x : Rat} (f : sizF zs r lo hi x = some a) : False := by
  have := (siz_some (n := a) L).mpr ⟨ofR x, ofR_pos x, (siz_in L (ofR_pos x) ha).mpr f⟩
  rw [h] at this
  cases this
def sp_common27 (K : PySem.W.Frag) (CM CL : Addr) : Sp := fun vs H Q _ => ∃ (p q : Addr) (k : Nat) (zs zt : List Q2) (r rt : Str) (lo hi lt ht : Option Q2) (a : Nat), vs = [.ref p, .int a, .ref q] ∧ LadAt K CM CL H p k zs r lo hi ∧ LadAt K CM CL H q k zt rt lt ht ∧ a < zs.length ∧ 0 < k ∧ k ≤ 900 ∧
  ∀ (D : Addr) (us : List V) (H' : Hp), Same H H' → H' D = some (.lst us) → us.length = zt.length → (∀ (b : Nat) (u : V), us[b]? = some u → MetV CM H' (4 * k + 36) u (sizF zs r lo hi) (sizF zt rt lt ht) a b) → Q (.ref D) H'

theorem idx_first {n : Nat} {c : Nat → Bool} (ne : idx n c ≠ []) : ∃ i : Nat, (idx n c)[0]? = some (i : Int) ∧ i < n ∧ c i = true ∧ ∀ j, j < n → c j = true → i ≤ j := by
  have l0 := List.length_pos_iff.mpr ne
  have h0 : (idx n c)[0]? = some (idx n c)[0] := List.getElem?_eq_getElem l0
  obtain ⟨i, hi, ci, e⟩ := idx_mem.mp (List.mem_of_getElem? h0)
  refine ⟨i, by rw [h0, e], hi, ci, fun j hj cj => ?_⟩
  obtain ⟨q, hq, eq⟩ := List.mem_iff_getElem.mp (idx_mem.mpr ⟨j, hj, cj, rfl⟩)
  by_cases z : q = 0
  · subst z
    omega
  · have := List.pairwise_iff_getElem.mp (idx_sorted (n := n) (c := c)) 0 q l0 hq (by omega)
    omega
theorem idx_last {n : Nat} {c : Nat → Bool} (ne : idx n c ≠ []) : ∃ i : Nat, (idx n c)[(idx n c).length - 1]? = some (i : Int) ∧ i < n ∧ c i = true ∧ ∀ j, j < n → c j = true → j ≤ i := by
  have l0 := List.length_pos_iff.mpr ne
  have l1 : (idx n c).length - 1 < (idx n c).length := by omega
  have h0 : (idx n c)[(idx n c).length - 1]? = some (idx n c)[(idx n c).length - 1] := List.getElem?_eq_getElem l1
  obtain ⟨i, hi, ci, e⟩ := idx_mem.mp (List.mem_of_getElem? h0)
  refine ⟨i, by rw [h0, e], hi, ci, fun j hj cj => ?_⟩
  obtain ⟨q, hq, eq⟩ := List.mem_iff_getElem.mp (idx_mem.mpr ⟨j, hj, cj, rfl⟩)
  by_cases z : q = (idx n c).length - 1
  · subst z
    omega
  · have := List.pairwise_iff_getElem.mp (idx_sorted (n := n) (c := c)) q _ hq l1 (by omega)
    omega
/-- what led answers -/
def LedV (H : Hp) (v : V) : Option (Nat × Nat) → Prop
  | none => v = .non
  | some (c, d) => ∃ T : Addr, v = .ref T ∧ H T = some (.tup [.int c, .int d])
def metC (us : List V) (i : Nat) : Bool := match us[i]? with | some u => !decide (u = V.non) | none => false
theorem metC_at {us : List V} {i : Nat} {u : V} (h : us[i]? = some u) : metC us i = !decide (u = V.non) := by unfold metC; rw [h]
def sp_led (K : PySem.W.Frag) (CM CL : Addr) : Sp := fun vs H Q _ => ∃ (p q : Addr) (k : Nat) (zs zt : List Q2) (r rt : Str) (lo hi lt ht : Option Q2) (a : Nat), vs = [.ref p, .int a, .ref q] ∧ LadAt K CM CL H p k zs r lo hi ∧ LadAt K CM CL H q k zt rt lt ht ∧ a < zs.length ∧ 0 < k ∧ k ≤ 900 ∧
  ∀ (v : V) (u : Option (Nat × Nat)) (H' : Hp), Same H H' → LedV H' v u → LedS (sizF zs r lo hi) (sizF zt rt lt ht) a zt.length u → Q v H'
theorem met_non {CM : Addr} {H : Hp} {k : Nat} {v : V} {F G : Rat → Option Nat} {a b : Nat} (m : MetV CM H k v F G a b) : (!decide (v = V.non)) = true ↔ ∃ x, F x = some a ∧ G x = some b := by
  rcases m with ⟨r, z, rfl, q, f, g⟩ | ⟨rfl, no⟩
  · exact ⟨fun _ => ⟨_, f, g⟩, fun _ => rfl⟩
  · constructor
    · intro h
      rw [decide_eq_true rfl] at h
      cases h
    · rintro ⟨x, f, g⟩
      exact (no x f g).elim

def sp_ledpap (K : PySem.W.Frag) (CM CL : Addr) : Sp := fun vs H Q _ => ∃ (p q : Addr) (k : Nat) (zs zt : List Q2) (r rt : Str) (lo hi lt ht : Option Q2) (a : Nat), vs = [.ref p, .int a, .ref q] ∧ LadAt K CM CL H p k zs r lo hi ∧ LadAt K CM CL H q k zt rt lt ht ∧ a < zs.length ∧ 0 < k ∧ k ≤ 900 ∧
  ∀ (T : Addr) (ys : List V) (bs : List Nat) (H' : Hp), Same H H' → H' T = some (.tup ys) → ys.length ≤ 24 → PapS CM H' (4 * k + 36) ys bs (sizF zs r lo hi) (sizF zt rt lt ht) a 0 zt.length → Q (.ref T) H'
theorem nn_fm : ∀ l : List V, (l.map fun v => if (!decide (v = V.non)) = true then some v else none).filterMap _root_.id = l.filter fun v => !decide (v = V.non)
  | [] => rfl
  | x :: t => by
    rw [List.map_cons, List.filter_cons]
    cases e : (!decide (x = V.non)) with
    | true => simpa [e] using nn_fm t
    | false => simpa [e] using nn_fm t
theorem PapS.same {CM : Addr} {H H' : Hp} {k : Nat} {ys : List V} {bs : List Nat} {F G : Rat → Option Nat} {a off n : Nat} (p : PapS CM H k ys bs F G a off n) (s : Same H H') : PapS CM H' k ys bs F G a off n := ⟨p.len, p.rise, p.mem, fun i y b h1 h2 => by
  obtain ⟨r, z, e, q, f⟩ := p.all i y b h1 h2
  exact ⟨r, z, e, q.same s, f⟩⟩
def sp_comes (K : PySem.W.Frag) (CM CL : Addr) : Sp := fun vs H Q _ => ∃ (q t : Addr) (k : Nat) (zs : List Q2) (r : Str) (lo hi : Option Q2) (z : Q2) (n : Nat), vs = [.ref q, .ref t, .int n] ∧ LadAt K CM CL H q k zs r lo hi ∧ QAt CM H t k z ∧ 0 < k ∧ k ≤ 1000 ∧ sizF zs r lo hi (toR z) = some n ∧ ∀ H', Same H H' → Q (.bl true) H'
theorem run_list : ∀ {n c : Nat} {bs : List Nat}, bs.Pairwise (· < ·) → (∀ b, b ∈ bs ↔ c ≤ b ∧ b < c + n) → bs.length = n ∧ ∀ i b, bs[i]? = some b → b = c + i
  | 0, c, bs, _, h => by
    cases bs with
    | nil => exact ⟨rfl, fun i b e => by simp at e⟩
    | cons x t =>
      have := (h x).mp (List.mem_cons_self ..)
      omega
  | n + 1, c, bs, p, h => by
    cases bs with
    | nil =>
      have := (h c).mpr ⟨Nat.le_refl _, by omega⟩
      cases this
    | cons x t =>
      obtain ⟨p1, p2⟩ := List.pairwise_cons.mp p
      have hx := (h x).mp (List.mem_cons_self ..)
      have e : x = c := by
        rcases List.mem_cons.mp ((h c).mpr ⟨Nat.le_refl _, by omega⟩) with e | e
        · exact e.symm
        · have := p1 c e
          omega
      subst e
      obtain ⟨l, g⟩ := run_list (n := n) (c := x + 1) (bs := t) p2 fun b => by
        constructor
        · intro hb
          have h1 := (h b).mp (List.mem_cons_of_mem _ hb)
          have h2 := p1 b hb
          omega
        · intro hb
          rcases List.mem_cons.mp ((h b).mpr ⟨by omega, by omega⟩) with e | e
          · omega
          · exact e
      refine ⟨by rw [List.length_cons, l], fun i b e => ?_⟩
      cases i with
      | zero => cases e; rfl
      | succ i =>
        have := g i b (by simpa using e)
        omega
/-- paper and run belong together -/
theorem pap_run {CM : Addr} {H : Hp} {k : Nat} {ys : List V} {bs : List Nat} {zs zt : List Q2} {r rt : Str} {lo hi lt ht : Option Q2} {a c d : Nat} (L : LadQ zs r lo hi) (M : LadQ zt rt lt ht) (P : PapS CM H k ys bs (sizF zs r lo hi) (sizF zt rt lt ht) a 0 zt.length) (l : LedS (sizF zs r lo hi) (sizF zt rt lt ht) a zt.length (some (c, d))) :
    ys.length = d - c + 1 ∧ ∀ i y, ys[i]? = some y → ∃ (t : Addr) (z : Q2), y = .ref t ∧ QAt CM H t k z ∧ sizF zs r lo hi (toR z) = some a ∧ sizF zt rt lt ht (toR z) = some (c + i) := by
  obtain ⟨h1, h2, h3, ⟨x, f1, g1⟩, ⟨y, f2, g2⟩, h4⟩ := l
  obtain ⟨e1, e2⟩ := run_list (n := d - c + 1) (c := c) P.rise fun b => by
    rw [P.mem b]
    constructor
    · rintro ⟨_, _, z, f, g⟩
      have := h4 b z f g
      omega
    · rintro ⟨l1, l2⟩
      exact ⟨by omega, by omega, met_conv L M f1 g1 f2 g2 l1 (by omega)⟩
  refine ⟨by rw [P.len, e1], fun i y hy => ?_⟩
  have li := (List.getElem?_eq_some_iff.mp hy).1
  have lb : i < bs.length := by have := P.len; omega
  have hb : bs[i]? = some bs[i] := List.getElem?_eq_getElem lb
  obtain ⟨t, z, e, q, f, g⟩ := P.all i y _ hy hb
  rw [e2 i _ hb] at g
  exact ⟨t, z, e, q, f, g⟩
theorem pap_none {CM : Addr} {H : Hp} {k : Nat} {ys : List V} {bs : List Nat} {F G : Rat → Option Nat} {a n : Nat} (P : PapS CM H k ys bs F G a 0 n) (l : LedS F G a n none) : ys = [] := by
  have : bs = [] := by
    cases bs with
    | nil => rfl
    | cons b t =>
      obtain ⟨_, h, x, f, g⟩ := (P.mem b).mp (List.mem_cons_self ..)
      exact (l b (by omega) x f g).elim
  have e := P.len
  rw [this] at e
  exact List.length_eq_zero_iff.mp e
def sp_ispap (K : PySem.W.Frag) (CM CL : Addr) : Sp := fun vs H Q _ => ∃ (p q T S : Addr) (k : Nat) (zs zt : List Q2) (r rt : Str) (lo hi lt ht : Option Q2) (a c d : Nat) (ys : List V), vs = [.ref p, .int a, .ref q, .ref T, .ref S] ∧ LadAt K CM CL H p k zs r lo hi ∧ LadAt K CM CL H q k zt rt lt ht ∧ 0 < k ∧ k ≤ 1000 ∧ H T = some (.tup [.int c, .int d]) ∧ H S = some (.tup ys) ∧ c ≤ d ∧ d < 24 ∧ ys.length = d - c + 1 ∧
  (∀ i y, ys[i]? = some y → ∃ (t : Addr) (z : Q2), y = .ref t ∧ QAt CM H t k z ∧ sizF zs r lo hi (toR z) = some a ∧ sizF zt rt lt ht (toR z) = some (c + i)) ∧ ∀ H', Same H H' → Q (.bl true) H'
def sp_shled (K : PySem.W.Frag) (CM CL : Addr) : Sp := fun vs H Q _ => ∃ (p q S : Addr) (v : V) (k : Nat) (zs zt : List Q2) (r rt : Str) (lo hi lt ht : Option Q2) (a : Nat) (u : Option (Nat × Nat)) (ys : List V) (bs : List Nat), vs = [.ref p, .int a, .ref q, v, .ref S] ∧ LadAt K CM CL H p k zs r lo hi ∧ LadAt K CM CL H q k zt rt lt ht ∧ a < zs.length ∧ 0 < k ∧ k ≤ 200 ∧ LedV H v u ∧ LedS (sizF zs r lo hi) (sizF zt rt lt ht) a zt.length u ∧ H S = some (.tup ys) ∧ PapS CM H (4 * k + 36) ys bs (sizF zs r lo hi) (sizF zt rt lt ht) a 0 zt.length ∧ ∀ H', Same H H' → Q (.bl true) H'
def sp_istupU (K : PySem.W.Frag) : Sp := fun vs H Q _ => ∃ (a : Addr) (xs : List V) (n : Int), vs = [.ref a, .int n] ∧ SqT K H a xs ∧ Q (.bl (decide ((xs.length : Int) = n))) H

/-- the sizes of a run, as one -/
def rF (F : Rat → Option Nat) (a b : Nat) (x : Rat) : Option Nat := match F x with
  | some k => if a ≤ k ∧ k ≤ b then some 0 else none
  | none => none
theorem rF_iff {F : Rat → Option Nat} {a b : Nat} {x : Rat} : rF F a b x = some 0 ↔ ∃ k, F x = some k ∧ a ≤ k ∧ k ≤ b := by
  unfold rF
  cases F x with
  | none => simp
  | some k =>
    constructor
    · intro h
      by_cases c : a ≤ k ∧ k ≤ b
      · exact ⟨k, rfl, c.1, c.2⟩
      · simp [c] at h
    · rintro ⟨k', e, h1, h2⟩
      cases e
      simp [h1, h2]
theorem ints_of : ∀ {ys : List V} {P : Nat → Int → Prop}, (∀ i y, ys[i]? = some y → ∃ z, y = V.int z ∧ P i z) → ∃ ns : List Int, ys = ns.map V.int ∧ ∀ i z, ns[i]? = some z → P i z
  | [], _, _ => ⟨[], rfl, fun i z h => by simp at h⟩
  | y :: t, P, h => by
    obtain ⟨z, rfl, hz⟩ := h 0 y rfl
    obtain ⟨ns, rfl, hn⟩ := ints_of (ys := t) (P := fun i z => P (i + 1) z) (fun i y e => h (i + 1) y (by simpa using e))
    refine ⟨z :: ns, rfl, fun i w e => ?_⟩
    cases i with
    | zero => cases e; exact hz
    | succ i => exact hn i w (by simpa using e)
theorem LedV.nl30 {H H' : Hp} {v : V} {u : Option (Nat × Nat)} (a : LedV H v u) (s : Nl H H') : LedV H' v u := by
  cases u with
  | none => exact a
  | some c =>
    obtain ⟨T, e, h⟩ := a
    exact ⟨T, e, s _ _ h rfl⟩
theorem runbeh_of {H : Hp} {vs : List V} {F G : Rat → Option Nat} {a b n : Nat} (lv : vs.length = b + 1 - a) (hv : ∀ i v, vs[i]? = some v → ∃ u, LedV H v u ∧ LedS F G (a + i) n u) (gl : ∀ x b, G x = some b → b < n) :
    ((∀ v ∈ vs, v = V.non) → LedS (rF F a b) G 0 n none) ∧
    (∀ c d : Nat, (∃ (T : Addr) (d1 : Nat), V.ref T ∈ vs ∧ H T = some (.tup [.int c, .int d1])) → (∃ (T : Addr) (c1 : Nat), V.ref T ∈ vs ∧ H T = some (.tup [.int c1, .int d])) → (∀ (T : Addr) (c' d' : Nat), V.ref T ∈ vs → H T = some (.tup [.int c', .int d']) → c ≤ c' ∧ d' ≤ d) → LedS (rF F a b) G 0 n (some (c, d))) := by
  have at_ : ∀ x k, F x = some k → a ≤ k → k ≤ b → ∃ v u, v ∈ vs ∧ LedV H v u ∧ LedS F G k n u := fun x k _ h1 h2 => by
    have li : k - a < vs.length := by omega
    obtain ⟨u, g1, g2⟩ := hv (k - a) _ (List.getElem?_eq_getElem li)
    exact ⟨_, u, List.getElem_mem li, g1, (show a + (k - a) = k by omega) ▸ g2⟩
  have of_ : ∀ (T : Addr) (c d : Nat), V.ref T ∈ vs → H T = some (.tup [.int c, .int d]) → ∃ k, a ≤ k ∧ k ≤ b ∧ LedS F G k n (some (c, d)) := fun T c d m e => by
    obtain ⟨i, hi⟩ := List.mem_iff_getElem?.mp m
    have li := (List.getElem?_eq_some_iff.mp hi).1
    obtain ⟨u, g1, g2⟩ := hv i _ hi
    cases u with
    | none => cases (show V.ref T = V.non from g1)
    | some cd =>
      obtain ⟨c', d'⟩ := cd
      obtain ⟨T', e1, e2⟩ := g1
      cases e1
      rw [e] at e2
      have e3 := HO.tup.inj (Option.some.inj e2)
      simp at e3
      obtain ⟨e4, e5⟩ := e3
      have h4 : c = c' := by omega
      have h5 : d = d' := by omega
      subst h4
      subst h5
      exact ⟨a + i, by omega, by omega, g2⟩
  refine ⟨fun al b' hb x f g => ?_, fun c d ⟨T1, d1, m1, e1⟩ ⟨T2, c2, m2, e2⟩ al => ?_⟩
  · obtain ⟨k, hk, h1, h2⟩ := rF_iff.mp f
    obtain ⟨v, u, hm, g1, g2⟩ := at_ x k hk h1 h2
    cases al v hm
    cases u with
    | none => exact g2 b' hb x hk g
    | some cd =>
      obtain ⟨c, d⟩ := cd
      obtain ⟨T, e, _⟩ := g1
      cases e
  · obtain ⟨k1, ha1, hb1, L1⟩ := of_ T1 c d1 m1 e1
    obtain ⟨k2, ha2, hb2, L2⟩ := of_ T2 c2 d m2 e2
    obtain ⟨i1, i2, i3, ⟨x, f1, g1⟩, i5, i6⟩ := L1
    obtain ⟨j1, j2, j3, j4, ⟨y, f2, g2⟩, j6⟩ := L2
    have q1 := al T2 c2 d m2 e2
    refine ⟨i1, j2, by omega, ⟨x, rF_iff.mpr ⟨k1, f1, ha1, hb1⟩, g1⟩, ⟨y, rF_iff.mpr ⟨k2, f2, ha2, hb2⟩, g2⟩, fun b' z f g => ?_⟩
    obtain ⟨k, hk, h1, h2⟩ := rF_iff.mp f
    obtain ⟨v, u, hm, w1, w2⟩ := at_ z k hk h1 h2
    cases u with
    | none => exact (w2 b' (gl z b' g) z hk g).elim
    | some cd =>
      obtain ⟨c', d'⟩ := cd
      obtain ⟨T, rfl, eT⟩ := w1
      have q2 := al T c' d' hm eT
      have q3 := w2.2.2.2.2.2 b' z hk g
      omega
def sp_runbeh (K : PySem.W.Frag) (CM CL : Addr) : Sp := fun vs H Q _ => ∃ (p q R : Addr) (k : Nat) (zs zt : List Q2) (r rt : Str) (lo hi lt ht : Option Q2) (a b : Nat), vs = [.ref p, .ref R, .ref q] ∧ LadAt K CM CL H p k zs r lo hi ∧ LadAt K CM CL H q k zt rt lt ht ∧ H R = some (.tup [.int a, .int b]) ∧ a ≤ b ∧ b < zs.length ∧ 0 < k ∧ k ≤ 900 ∧
  ∀ (v : V) (u : Option (Nat × Nat)) (H' : Hp), Same H H' → LedV H' v u → LedS (rF (sizF zs r lo hi) a b) (sizF zt rt lt ht) 0 zt.length u → Q v H'
structure LQ where
  zs : List Q2
  r : Str
  lo : Option Q2
  hi : Option Q2
abbrev LQ.F (w : LQ) : Rat → Option Nat := sizF w.zs w.r w.lo w.hi
/-- ladders one behind another -/
def WayAt (K : PySem.W.Frag) (CM CL : Addr) (H : Hp) (W : Addr) (k : Nat) (ws : List LQ) : Prop := ∃ ps : List V, SqT K H W ps ∧ ps.length = ws.length ∧ ∀ (i : Nat) (w : LQ), ws[i]? = some w → ∃ p : Addr, ps[i]? = some (V.ref p) ∧ LadAt K CM CL H p k w.zs w.r w.lo w.hi
theorem WayAt.same {K : PySem.W.Frag} {CM CL : Addr} {H H' : Hp} {W : Addr} {k : Nat} {ws : List LQ} (a : WayAt K CM CL H W k ws) (s : Same H H') : WayAt K CM CL H' W k ws := by
  obtain ⟨ps, h1, h2, h3⟩ := a
  refine ⟨ps, s.sqt h1, h2, fun i w e => ?_⟩
  obtain ⟨p, e1, e2⟩ := h3 i w e
  exact ⟨p, e1, e2.same s⟩
def PrL (H : Hp) (ps : List V) (rs : List (Nat × Nat)) : Prop := ps.length = rs.length ∧ ∀ (i a b : Nat), rs[i]? = some (a, b) → ∃ t : Addr, ps[i]? = some (V.ref t) ∧ H t = some (.tup [.int a, .int b])
theorem PrL.nl {H H' : Hp} {ps : List V} {rs : List (Nat × Nat)} (a : PrL H ps rs) (s : Nl H H') : PrL H' ps rs := ⟨a.1, fun i x y e => by
  obtain ⟨t, e1, e2⟩ := a.2 i x y e
  exact ⟨t, e1, s _ _ e2 rfl⟩⟩
theorem PrL.snoc {H : Hp} {ps : List V} {rs : List (Nat × Nat)} {t : Addr} {c d : Nat} (a : PrL H ps rs) (h : H t = some (.tup [.int c, .int d])) : PrL H (ps ++ [.ref t]) (rs ++ [(c, d)]) := by
  refine ⟨by rw [List.length_append, List.length_append, a.1]; rfl, fun i x y e => ?_⟩
  by_cases hi : i < rs.length
  · rw [List.getElem?_append_left hi] at e
    obtain ⟨t', e1, e2⟩ := a.2 i x y e
    exact ⟨t', by rw [List.getElem?_append_left (by rw [a.1]; exact hi)]; exact e1, e2⟩
  · have li := (List.getElem?_eq_some_iff.mp e).1
    rw [List.length_append, List.length_singleton] at li
    have ei : i = rs.length := by omega
    subst ei
    rw [List.getElem?_append_right (by omega), Nat.sub_self] at e
    cases e
    exact ⟨t, by rw [List.getElem?_append_right (by rw [a.1]; omega), a.1, Nat.sub_self]; rfl, h⟩
/-- runs so far -/
structure RunsP (ws : List LQ) (n : Nat) (rs : List (Nat × Nat)) : Prop where
  first : rs[0]? = some (n, n)
  len : rs.length ≤ ws.length
  step : ∀ (i a b c d : Nat) (w w' : LQ), rs[i]? = some (a, b) → ws[i]? = some w → ws[i + 1]? = some w' → rs[i + 1]? = some (c, d) → LedS (rF w.F a b) w'.F 0 w'.zs.length (some (c, d))
structure RunsS (ws : List LQ) (n : Nat) (rs : List (Nat × Nat)) : Prop extends RunsP ws n rs where
  stop : ∀ (a b : Nat) (w w' : LQ), rs[rs.length - 1]? = some (a, b) → ws[rs.length - 1]? = some w → ws[rs.length]? = some w' → LedS (rF w.F a b) w'.F 0 w'.zs.length none
theorem RunsP.at_ {ws : List LQ} {n i a b : Nat} {rs : List (Nat × Nat)} {w0 w : LQ} (r : RunsP ws n rs) (h0 : ws[0]? = some w0) (n0 : n < w0.zs.length) (e : rs[i]? = some (a, b)) (hw : ws[i]? = some w) : a ≤ b ∧ b < w.zs.length := by
  cases i with
  | zero =>
    rw [r.first] at e
    cases e
    rw [h0] at hw
    cases hw
    exact ⟨Nat.le_refl _, n0⟩
  | succ i =>
    have li := (List.getElem?_eq_some_iff.mp e).1
    have lw := (List.getElem?_eq_some_iff.mp hw).1
    obtain ⟨w1, hw1⟩ : ∃ w1, ws[i]? = some w1 := ⟨_, List.getElem?_eq_getElem (by omega)⟩
    obtain ⟨⟨a1, b1⟩, e1⟩ : ∃ r1, rs[i]? = some r1 := ⟨_, List.getElem?_eq_getElem (by omega)⟩
    have L := r.step i a1 b1 a b w1 w e1 hw1 hw e
    exact ⟨L.2.2.1, L.2.1⟩
theorem RunsP.snoc {ws : List LQ} {n i a b c d : Nat} {rs : List (Nat × Nat)} {w w' : LQ} (r : RunsP ws n rs) (li : rs.length = i + 1) (e : rs[i]? = some (a, b)) (hw : ws[i]? = some w) (hw' : ws[i + 1]? = some w') (L : LedS (rF w.F a b) w'.F 0 w'.zs.length (some (c, d))) : RunsP ws n (rs ++ [(c, d)]) := by
  have lw := (List.getElem?_eq_some_iff.mp hw').1
  refine ⟨?_, by rw [List.length_append, List.length_singleton]; omega, fun j a1 b1 c1 d1 v v' h1 h2 h3 h4 => ?_⟩
  · rw [List.getElem?_append_left (by omega)]
    exact r.first
  · by_cases hj : j + 1 < rs.length
    · rw [List.getElem?_append_left (by omega)] at h1
      rw [List.getElem?_append_left hj] at h4
      exact r.step j a1 b1 c1 d1 v v' h1 h2 h3 h4
    · have lj := (List.getElem?_eq_some_iff.mp h4).1
      rw [List.length_append, List.length_singleton] at lj
      have ej : j = i := by omega
      subst ej
      rw [List.getElem?_append_left (by omega), e] at h1
      rw [List.getElem?_append_right (by omega), li, Nat.sub_self] at h4
      cases h1
      cases h4
      rw [hw] at h2
      rw [hw'] at h3
      cases h2
      cases h3
      exact L
theorem LedV.same30 {H H' : Hp} {v : V} {u : Option (Nat × Nat)} (a : LedV H v u) (s : Same H H') : LedV H' v u := a.nl30 (Nl.of s)
theorem rF_conv {zs : List Q2} {r : Str} {lo hi : Option Q2} {a b : Nat} {x y z : Rat} (L : LadQ zs r lo hi) (l1 : x ≤ z) (l2 : z ≤ y) (h1 : rF (sizF zs r lo hi) a b x = some 0) (h2 : rF (sizF zs r lo hi) a b y = some 0) : rF (sizF zs r lo hi) a b z = some 0 := by
  rw [rF_iff] at *
  obtain ⟨k1, f1, a1, b1⟩ := h1
  obtain ⟨k2, f2, a2, b2⟩ := h2
  rw [sizF_iff] at f1 f2
  have e1 := sizR_le (r := r) L.pos l1
  have e2 := sizR_le (r := r) L.pos l2
  refine ⟨(sizeR zs r (ofR z)).toNat, sizF_iff.mpr ⟨inO_conv L.plo L.phi l1 l2 f1.1 f2.1, by omega, by omega⟩, by omega, by omega⟩
theorem met_convS {zt : List Q2} {rt : Str} {lt ht : Option Q2} {b c d : Nat} {x y : Rat} {S : Rat → Prop} (cS : ∀ z, x ≤ z → z ≤ y → S z) (M : LadQ zt rt lt ht) (h1 : S x) (g1 : sizF zt rt lt ht x = some c) (h2 : S y) (g2 : sizF zt rt lt ht y = some d) (l1 : c ≤ b) (l2 : b ≤ d) : ∃ z, S z ∧ sizF zt rt lt ht z = some b := by
  by_cases e1 : b = c
  · subst e1; exact ⟨x, h1, g1⟩
  by_cases e2 : b = d
  · subst e2; exact ⟨y, h2, g2⟩
  have G1 := sizF_iff.mp g1
  have G2 := sizF_iff.mp g2
  have p := rulE_pos (r := rt) (n := b) M.pos
  obtain ⟨w, hw, i1, i2⟩ := some_in p.1 p.2 (rul_some (r := rt) (n := b) M.rise M.pos)
  have hb : b < zt.length := by omega
  have sw := (rul_in M.rise M.pos hw hb).mp (by unfold rulIn; rw [i1, i2]; rfl)
  have rw1 : sizeR zt rt (ofR (toR w)) = (b : Int) := by
    have f1 : ltq w (ofR (toR w)) = false := by
      cases e : ltq w (ofR (toR w)) with
      | false => rfl
      | true =>
        have := (ltq_R hw (ofR_pos _)).mp e
        rw [toR_ofR] at this
        exact absurd this (by grind)
    have f2 : ltq (ofR (toR w)) w = false := by
      cases e : ltq (ofR (toR w)) w with
      | false => rfl
      | true =>
        have := (ltq_R (ofR_pos _) hw).mp e
        rw [toR_ofR] at this
        exact absurd this (by grind)
    have m1 := sizeR_mono (r := rt) M.pos (ofR_pos (toR w)) hw f1
    have m2 := sizeR_mono (r := rt) M.pos hw (ofR_pos (toR w)) f2
    omega
  have lx : x ≤ toR w := Rat.not_lt.mp fun q => by
    have := sizR_le (r := rt) M.pos (Rat.le_of_lt q)
    omega
  have ly : toR w ≤ y := Rat.not_lt.mp fun q => by
    have := sizR_le (r := rt) M.pos (Rat.le_of_lt q)
    omega
  exact ⟨toR w, cS _ lx ly, sizF_iff.mpr ⟨inO_conv M.plo M.phi lx ly G1.1 G2.1, rw1, hb⟩⟩
/-- any size of the other one between two that a run meets is met -/
theorem run_between {zs zt : List Q2} {r rt : Str} {lo hi lt ht : Option Q2} {a b c d k n : Nat} (L : LadQ zs r lo hi) (M : LadQ zt rt lt ht) (h : LedS (rF (sizF zs r lo hi) a b) (sizF zt rt lt ht) 0 n (some (c, d))) (l1 : c ≤ k) (l2 : k ≤ d) : ∃ z, rF (sizF zs r lo hi) a b z = some 0 ∧ sizF zt rt lt ht z = some k := by
  obtain ⟨_, _, _, ⟨x, f1, g1⟩, ⟨y, f2, g2⟩, _⟩ := h
  by_cases xy : x ≤ y
  · exact met_convS (S := fun z => rF (sizF zs r lo hi) a b z = some 0) (fun z h1 h2 => rF_conv L h1 h2 f1 f2) M f1 g1 f2 g2 l1 l2
  · have yx : y ≤ x := by grind
    have G1 := sizF_iff.mp g1
    have G2 := sizF_iff.mp g2
    have := sizR_le (r := rt) M.pos yx
    have e1 : k = c := by omega
    subst e1
    exact ⟨x, f1, g1⟩
def sp_sizeahead (K : PySem.W.Frag) (CM CL : Addr) : Sp := fun vs H Q _ => ∃ (p R q : Addr) (k : Nat) (zs zt : List Q2) (r rt : Str) (lo hi lt ht : Option Q2) (a b n : Nat), vs = [.ref p, .ref R, .ref q, .int n] ∧ LadAt K CM CL H p k zs r lo hi ∧ LadAt K CM CL H q k zt rt lt ht ∧ H R = some (.tup [.int a, .int b]) ∧ 0 < k ∧ k ≤ 900 ∧ (∃ x, rF (sizF zs r lo hi) a b x = some 0 ∧ sizF zt rt lt ht x = some n) ∧
  ∀ (m : Nat) (H' : Hp), Same H H' → a ≤ m → m ≤ b → (∃ x, sizF zs r lo hi x = some m ∧ sizF zt rt lt ht x = some n) → Q (.int m) H'
/-- a size for each run, each meeting the one behind it -/
structure SzsS (ws : List LQ) (rs : List (Nat × Nat)) (off last : Nat) (ks : List Nat) : Prop where
  len : off + ks.length = ws.length
  pos : 0 < ks.length
  last : ks[ks.length - 1]? = some last
  inr : ∀ (i k a b : Nat), ks[i]? = some k → rs[off + i]? = some (a, b) → a ≤ k ∧ k ≤ b
  met : ∀ (i k l : Nat) (w w' : LQ), ks[i]? = some k → ks[i + 1]? = some l → ws[off + i]? = some w → ws[off + i + 1]? = some w' → ∃ x, w.F x = some k ∧ w'.F x = some l
theorem SzsS.cons {ws : List LQ} {rs : List (Nat × Nat)} {off last k a b l : Nat} {ks : List Nat} {w w' : LQ} (s : SzsS ws rs (off + 1) last ks) (hr : rs[off]? = some (a, b)) (hw : ws[off]? = some w) (hw' : ws[off + 1]? = some w') (h0 : ks[0]? = some l) (ak : a ≤ k) (kb : k ≤ b) (m : ∃ x, w.F x = some k ∧ w'.F x = some l) : SzsS ws rs off last (k :: ks) := by
  refine ⟨by have := s.len; rw [List.length_cons]; omega, by rw [List.length_cons]; omega, ?_, fun i k' a' b' e1 e2 => ?_, fun i k1 l1 v v' e1 e2 e3 e4 => ?_⟩
  · have := s.pos
    rw [List.length_cons, Nat.add_sub_cancel]
    obtain ⟨j, hj⟩ : ∃ j, ks.length = j + 1 := ⟨ks.length - 1, by omega⟩
    rw [hj, List.getElem?_cons_succ, show j = ks.length - 1 by omega]
    exact s.last
  · cases i with
    | zero =>
      cases e1
      rw [Nat.add_zero, hr] at e2
      cases e2
      exact ⟨ak, kb⟩
    | succ i => exact s.inr i k' a' b' (by simpa using e1) (by rw [show off + 1 + i = off + (i + 1) by omega]; exact e2)
  · cases i with
    | zero =>
      cases e1
      rw [Nat.add_zero] at e3 e4
      rw [List.getElem?_cons_succ, h0] at e2
      cases e2
      rw [hw] at e3
      rw [hw'] at e4
      cases e3
      cases e4
      exact m
    | succ i => exact s.met i k1 l1 v v' (by simpa using e1) (by simpa using e2) (by rw [show off + 1 + i = off + (i + 1) by omega]; exact e3) (by rw [show off + 1 + i + 1 = off + (i + 1) + 1 by omega]; exact e4)
def sp_sizesto (K : PySem.W.Frag) (CM CL : Addr) : Sp := fun vs H Q _ => ∃ (W R : Addr) (k : Nat) (ws : List LQ) (w0 : LQ) (ps : List V) (rs : List (Nat × Nat)) (n a b last : Nat), vs = [.ref W, .ref R, .int last] ∧ WayAt K CM CL H W k ws ∧ ws[0]? = some w0 ∧ n < w0.zs.length ∧ H R = some (.tup ps) ∧ PrL H ps rs ∧ RunsP ws n rs ∧ rs.length = ws.length ∧ rs[rs.length - 1]? = some (a, b) ∧ a ≤ last ∧ last ≤ b ∧ 0 < k ∧ k ≤ 900 ∧ 0 < ws.length ∧ ws.length ≤ 31 ∧
  ∀ (T : Addr) (ks : List Nat) (H' : Hp), Same H H' → H' T = some (.tup (ks.map fun k : Nat => V.int k)) → SzsS ws rs 0 last ks → Q (.ref T) H'
/-- a row: sizes, and measures between them -/
def RowAt (CM : Addr) (H : Hp) (T : Addr) (k : Nat) (ws : List LQ) (rs : List (Nat × Nat)) (last : Nat) : Prop := ∃ (S M : Addr) (ks : List Nat) (ms : List V), H T = some (.tup [.ref S, .ref M]) ∧ H S = some (.tup (ks.map fun k : Nat => V.int k)) ∧ H M = some (.tup ms) ∧ SzsS ws rs 0 last ks ∧ ms.length + 1 = ks.length ∧
  ∀ (i : Nat) (y : V), ms[i]? = some y → ∃ (r : Addr) (z : Q2) (w w' : LQ) (a b : Nat), y = .ref r ∧ QAt CM H r k z ∧ ws[i]? = some w ∧ ws[i + 1]? = some w' ∧ ks[i]? = some a ∧ ks[i + 1]? = some b ∧ w.F (toR z) = some a ∧ w'.F (toR z) = some b
theorem RowAt.same {CM : Addr} {H H' : Hp} {T : Addr} {k : Nat} {ws : List LQ} {rs : List (Nat × Nat)} {last : Nat} (a : RowAt CM H T k ws rs last) (s : Same H H') : RowAt CM H' T k ws rs last := by
  obtain ⟨S, M, ks, ms, h1, h2, h3, h4, h5, h6⟩ := a
  refine ⟨S, M, ks, ms, s _ _ h1, s _ _ h2, s _ _ h3, h4, h5, fun i y e => ?_⟩
  obtain ⟨r, z, w, w', x, y', g1, g2, g3⟩ := h6 i y e
  exact ⟨r, z, w, w', x, y', g1, g2.same s, g3⟩
def sp_rowto (K : PySem.W.Frag) (CM CL : Addr) : Sp := fun vs H Q _ => ∃ (W R : Addr) (k : Nat) (ws : List LQ) (w0 : LQ) (ps : List V) (rs : List (Nat × Nat)) (n a b last : Nat), vs = [.ref W, .ref R, .int last] ∧ WayAt K CM CL H W k ws ∧ ws[0]? = some w0 ∧ n < w0.zs.length ∧ H R = some (.tup ps) ∧ PrL H ps rs ∧ RunsP ws n rs ∧ rs.length = ws.length ∧ rs[rs.length - 1]? = some (a, b) ∧ a ≤ last ∧ last ≤ b ∧ 0 < k ∧ k ≤ 900 ∧ 0 < ws.length ∧ ws.length ≤ 31 ∧
  ∀ (T : Addr) (H' : Hp), Same H H' → RowAt CM H' T (4 * k + 36) ws rs last → Q (.ref T) H'
/-- what is told of a round -/
def RoundAt (CM : Addr) (H : Hp) (T : Addr) (k : Nat) (ws : List LQ) (n : Nat) : Prop := ∃ (R : Addr) (ps : List V) (rs : List (Nat × Nat)), RunsS ws n rs ∧ H R = some (.tup ps) ∧ PrL H ps rs ∧
  ((rs.length < ws.length ∧ H T = some (.tup [.str "stops", .ref R])) ∨
    (rs.length = ws.length ∧ ∃ (A B : Addr) (a b : Nat), H T = some (.tup [.str "comes", .ref R, .ref A, .ref B]) ∧ rs[rs.length - 1]? = some (a, b) ∧ RowAt CM H A k ws rs a ∧ RowAt CM H B k ws rs b))
theorem RoundAt.same {CM : Addr} {H H' : Hp} {T : Addr} {k : Nat} {ws : List LQ} {n : Nat} (a : RoundAt CM H T k ws n) (s : Same H H') : RoundAt CM H' T k ws n := by
  obtain ⟨R, ps, rs, h1, h2, h3, h4⟩ := a
  refine ⟨R, ps, rs, h1, s _ _ h2, h3.nl (Nl.of s), ?_⟩
  rcases h4 with ⟨l, e⟩ | ⟨l, A, B, a, b, e1, e2, e3, e4⟩
  · exact .inl ⟨l, s _ _ e⟩
  · exact .inr ⟨l, A, B, a, b, s _ _ e1, e2, e3.same s, e4.same s⟩
def sp_round (K : PySem.W.Frag) (CM CL : Addr) : Sp := fun vs H Q _ => ∃ (W : Addr) (k : Nat) (ws : List LQ) (w0 : LQ) (n : Nat), vs = [.ref W, .int n] ∧ WayAt K CM CL H W k ws ∧ ws[0]? = some w0 ∧ n < w0.zs.length ∧ 0 < k ∧ k ≤ 900 ∧ ws.length ≤ 30 ∧
  ∀ (T : Addr) (H' : Hp), Same H H' → RoundAt CM H' T (4 * k + 36) (ws ++ ws.take 1) n → Q (.ref T) H'
theorem RunsS.pre {ws : List LQ} {n : Nat} {rs rs' : List (Nat × Nat)} (A : RunsS ws n rs) (B : RunsS ws n rs') : ∀ i, i < rs.length → rs'[i]? = rs[i]?
  | 0, _ => by rw [A.first, B.first]
  | i + 1, h => by
    have ih := RunsS.pre A B i (by omega)
    have la := A.len
    obtain ⟨⟨a, b⟩, e1⟩ : ∃ r, rs[i]? = some r := ⟨_, List.getElem?_eq_getElem (by omega)⟩
    obtain ⟨⟨c, d⟩, e2⟩ : ∃ r, rs[i + 1]? = some r := ⟨_, List.getElem?_eq_getElem h⟩
    obtain ⟨w, hw⟩ : ∃ w, ws[i]? = some w := ⟨_, List.getElem?_eq_getElem (by omega)⟩
    obtain ⟨w', hw'⟩ : ∃ w, ws[i + 1]? = some w := ⟨_, List.getElem?_eq_getElem (by omega)⟩
    rw [e1] at ih
    have li := (List.getElem?_eq_some_iff.mp ih).1
    have L1 := A.step i a b c d w w' e1 hw hw' e2
    rw [e2]
    by_cases l : i + 1 < rs'.length
    · obtain ⟨⟨c', d'⟩, e3⟩ : ∃ r, rs'[i + 1]? = some r := ⟨_, List.getElem?_eq_getElem l⟩
      have L2 := B.step i a b c' d' w w' ih hw hw' e3
      rw [e3, LedS.uniq L2 L1]
    · have el : rs'.length = i + 1 := by omega
      have L2 := B.stop a b w w' (by rw [el, Nat.add_sub_cancel]; exact ih) (by rw [el, Nat.add_sub_cancel]; exact hw) (by rw [el]; exact hw')
      cases LedS.uniq L2 L1
theorem RunsS.uniq {ws : List LQ} {n : Nat} {rs rs' : List (Nat × Nat)} (A : RunsS ws n rs) (B : RunsS ws n rs') : rs = rs' := by
  refine List.ext_getElem? fun i => ?_
  by_cases h : i < rs.length
  · exact (RunsS.pre A B i h).symm
  · by_cases g : i < rs'.length
    · exact RunsS.pre B A i g
    · rw [List.getElem?_eq_none (by omega), List.getElem?_eq_none (by omega)]
abbrev prI (q : Nat × Nat) : List Int := [(q.1 : Int), (q.2 : Int)]
def runsD (rs : List (Nat × Nat)) : PyData := .tuple (rs.map fun q => intsD (prI q))
theorem sh_runs (rs : List (Nat × Nat)) : SeqAt.shaped (runsD rs) = true := by
  have h := rows_depth prI rs
  have e1 : (runsD rs).depth ≤ 64 := by
    show PyData.depthAll (rs.map fun l => intsD (prI l)) + 1 ≤ 64
    omega
  have e2 : (runsD rs).canLay0 = true := rows_lay prI rs
  unfold SeqAt.shaped
  rw [e2, decide_eq_true e1]
  rfl
theorem eqvAll_rows : ∀ rs : List (Nat × Nat), PyData.eqvAll (rs.map fun q => intsD (prI q)) (rs.map fun q => intsD (prI q)) = true
  | [] => by simp [PyData.eqvAll]
  | q :: t => by
    rw [List.map_cons]
    simp only [PyData.eqvAll, eqvAll_rows t, eqv_intsD]
    simp
theorem eqv_runs (rs : List (Nat × Nat)) : PyData.eqv (runsD rs) (runsD rs) = true := by
  unfold runsD
  simp only [PyData.eqv]
  exact eqvAll_rows rs
theorem PrL.dp {K : PySem.W.Frag} {H : Hp} {R : Addr} {ps : List V} {rs : List (Nat × Nat)} (hR : H R = some (.tup ps)) (p : PrL H ps rs) : Dp K H (.ref R) (runsD rs) := by
  refine .tup (SqT.of hR) (dpAll_of (fun q => intsD (prI q)) p.1 fun i v l e1 e2 => ?_)
  obtain ⟨a, b⟩ := l
  obtain ⟨t, g1, g2⟩ := p.2 i a b e2
  rw [e1] at g1
  cases g1
  exact dpT (zs := [(a : Int), (b : Int)]) g2
def sp_areruns (K : PySem.W.Frag) : Sp := fun vs H Q _ => ∃ (A R : Addr) (qs ps : List V) (rs : List (Nat × Nat)), vs = [.ref A, .ref R] ∧ H A = some (.tup qs) ∧ H R = some (.tup ps) ∧ PrL H qs rs ∧ PrL H ps rs ∧ rs.length ≤ 40 ∧ ∀ H', Same H H' → Q (.bl true) H'
def sp_aresizes (K : PySem.W.Frag) : Sp := fun vs H Q _ => ∃ (S R : Addr) (ps : List V) (rs : List (Nat × Nat)) (ks : List Nat) (last : Nat), vs = [.ref S, .ref R, .int last] ∧ H S = some (.tup (ks.map fun k : Nat => V.int k)) ∧ H R = some (.tup ps) ∧ PrL H ps rs ∧ ks.length = rs.length ∧ 0 < ks.length ∧ ks.length ≤ 40 ∧ ks[ks.length - 1]? = some last ∧ (∀ (i k a b : Nat), ks[i]? = some k → rs[i]? = some (a, b) → a ≤ k ∧ k ≤ b) ∧ ∀ H', Same H H' → Q (.bl true) H'
def sp_isword30 : Sp := fun vs H Q _ => ∃ a : Str, vs = [.str a, .str a] ∧ Q (.bl true) H
def sp_aresteps (K : PySem.W.Frag) (CM CL : Addr) : Sp := fun vs H Q _ => ∃ (M W S : Addr) (k : Nat) (ms : List V) (ws : List LQ) (ks : List Nat), vs = [.ref M, .ref W, .ref S] ∧ H M = some (.tup ms) ∧ WayAt K CM CL H W k ws ∧ H S = some (.tup (ks.map fun k : Nat => V.int k)) ∧ ms.length + 1 = ks.length ∧ ks.length = ws.length ∧ ws.length ≤ 40 ∧ 0 < k ∧ k ≤ 1000 ∧
  (∀ (i : Nat) (y : V), ms[i]? = some y → ∃ (r : Addr) (z : Q2) (w w' : LQ) (a b : Nat), y = .ref r ∧ QAt CM H r k z ∧ ws[i]? = some w ∧ ws[i + 1]? = some w' ∧ ks[i]? = some a ∧ ks[i + 1]? = some b ∧ w.F (toR z) = some a ∧ w'.F (toR z) = some b) ∧ ∀ H', Same H H' → Q (.bl true) H'
theorem WayAt.mono {K : PySem.W.Frag} {CM CL : Addr} {H : Hp} {W : Addr} {k j : Nat} {ws : List LQ} (a : WayAt K CM CL H W k ws) (l : k ≤ j) : WayAt K CM CL H W j ws := by
  obtain ⟨ps, h1, h2, h3⟩ := a
  refine ⟨ps, h1, h2, fun i w e => ?_⟩
  obtain ⟨p, e1, e2⟩ := h3 i w e
  exact ⟨p, e1, e2.mono l⟩
def sp_isrow (K : PySem.W.Frag) (CM CL : Addr) : Sp := fun vs H Q _ => ∃ (T W R : Addr) (k : Nat) (ws : List LQ) (ps : List V) (rs : List (Nat × Nat)) (last : Nat), vs = [.ref T, .ref W, .ref R, .int last] ∧ RowAt CM H T k ws rs last ∧ WayAt K CM CL H W k ws ∧ H R = some (.tup ps) ∧ PrL H ps rs ∧ rs.length = ws.length ∧ ws.length ≤ 40 ∧ 0 < k ∧ k ≤ 1000 ∧ ∀ H', Same H H' → Q (.bl true) H'
def sp_isstop (K : PySem.W.Frag) : Sp := fun vs H Q _ => ∃ (T A R : Addr) (qs ps : List V) (rs : List (Nat × Nat)), vs = [.ref T, .ref R] ∧ H T = some (.tup [.str "stops", .ref A]) ∧ H A = some (.tup qs) ∧ PrL H qs rs ∧ H R = some (.tup ps) ∧ PrL H ps rs ∧ rs.length ≤ 40 ∧ ∀ H', Same H H' → Q (.bl true) H'
def sp_isreturn (K : PySem.W.Frag) (CM CL : Addr) : Sp := fun vs H Q _ => ∃ (T A R B C W : Addr) (k : Nat) (ws : List LQ) (qs ps : List V) (rs : List (Nat × Nat)) (a b : Nat), vs = [.ref T, .ref W, .ref R] ∧ H T = some (.tup [.str "comes", .ref A, .ref B, .ref C]) ∧ H A = some (.tup qs) ∧ PrL H qs rs ∧ H R = some (.tup ps) ∧ PrL H ps rs ∧ WayAt K CM CL H W k ws ∧ rs.length = ws.length ∧ ws.length ≤ 40 ∧ 0 < k ∧ k ≤ 1000 ∧ rs[rs.length - 1]? = some (a, b) ∧ RowAt CM H B k ws rs a ∧ RowAt CM H C k ws rs b ∧ ∀ H', Same H H' → Q (.bl true) H'
def sp_showsround (K : PySem.W.Frag) (CM CL : Addr) : Sp := fun vs H Q _ => ∃ (W T : Addr) (k : Nat) (ws : List LQ) (w0 : LQ) (n : Nat), vs = [.ref W, .int n, .ref T] ∧ WayAt K CM CL H W k ws ∧ ws[0]? = some w0 ∧ n < w0.zs.length ∧ 0 < k ∧ k ≤ 200 ∧ ws.length ≤ 30 ∧ RoundAt CM H T (4 * k + 36) (ws ++ ws.take 1) n ∧ ∀ H', Same H H' → Q (.bl true) H'
def sp_way (K : PySem.W.Frag) (CM CL : Addr) : Sp := fun vs H Q _ => ∃ (W : Addr) (k : Nat) (ws : List LQ), vs = [.ref W] ∧ WayAt K CM CL H W k ws ∧ ws.length ≤ 30 ∧ ∀ (W' : Addr) (H' : Hp), Same H H' → WayAt K CM CL H' W' k (ws ++ ws.take 1) → Q (.ref W') H'
def sp_runsof (K : PySem.W.Frag) (CM CL : Addr) : Sp := fun vs H Q _ => ∃ (W : Addr) (k : Nat) (ws : List LQ) (w0 : LQ) (n : Nat), vs = [.ref W, .int n] ∧ WayAt K CM CL H W k ws ∧ ws[0]? = some w0 ∧ n < w0.zs.length ∧ 0 < k ∧ k ≤ 900 ∧ ws.length ≤ 31 ∧
  ∀ (T : Addr) (ps : List V) (rs : List (Nat × Nat)) (H' : Hp), Same H H' → H' T = some (.tup ps) → PrL H' ps rs → RunsS ws n rs → Q (.ref T) H'
def sp_arew (K : PySem.W.Frag) : Sp := fun vs H Q _ => ∃ (a : Addr) (ns : List Int), vs = [.ref a] ∧ SqT K H a (ns.map V.int) ∧ ns.length ≤ 900 ∧ ∀ H', Same H H' → Q (.bl true) H'
theorem filT (n : Nat) : (List.replicate n (some (V.bl true))).filterMap _root_.id = (List.replicate n true).map V.bl := by
  induction n with
  | zero => rfl
  | succ n ih => rw [List.replicate_succ, List.replicate_succ]; simpa using ih
theorem allT (n : Nat) : (List.replicate n true).all _root_.id = true := by
  induction n with
  | zero => rfl
  | succ n ih => rw [List.replicate_succ]; simpa using ih


theorem RowAt.nl {CM : Addr} {H H' : Hp} {T : Addr} {k : Nat} {ws : List LQ} {rs : List (Nat × Nat)} {last : Nat} (a : RowAt CM H T k ws rs last) (s : Nl H H') : RowAt CM H' T k ws rs last := by
  obtain ⟨S, M, ks, ms, h1, h2, h3, h4, h5, h6⟩ := a
  refine ⟨S, M, ks, ms, s _ _ h1 rfl, s _ _ h2 rfl, s _ _ h3 rfl, h4, h5, fun i y e => ?_⟩
  obtain ⟨r, z, w, w', x, y', g1, g2, g3⟩ := h6 i y e
  exact ⟨r, z, w, w', x, y', g1, g2.nl s, g3⟩
theorem nonS {H H' : Hp} {D : Addr} (s : Same H H') (n : H' D = none) : H D = none := by
  cases e : H D with
  | none => rfl
  | some o => rw [s _ _ e] at n; cases n
/-- the rows from a start to both ends -/
def EndsR (CM : Addr) (H : Hp) (k : Nat) (ws : List LQ) (n : Nat) (acc : List V) : Prop := ∃ rs, RunsS ws n rs ∧ ((rs.length < ws.length ∧ acc = []) ∨ (rs.length = ws.length ∧ ∃ (A B : Addr) (a b : Nat), acc = [.ref A, .ref B] ∧ rs[rs.length - 1]? = some (a, b) ∧ RowAt CM H A k ws rs a ∧ RowAt CM H B k ws rs b))
def sp_endrows (K : PySem.W.Frag) (CM CL : Addr) : Sp := fun vs H Q _ => ∃ (W : Addr) (k : Nat) (ws : List LQ) (w0 : LQ) (n : Nat), vs = [.ref W, .int n] ∧ WayAt K CM CL H W k ws ∧ ws[0]? = some w0 ∧ n < w0.zs.length ∧ 0 < k ∧ k ≤ 900 ∧ ws.length ≤ 30 ∧
  ∀ (D : Addr) (acc : List V) (H' : Hp), H D = none → Same H H' → H' D = some (.lst acc) → EndsR CM H' (4 * k + 36) (ws ++ ws.take 1) n acc → Q (.ref D) H'
abbrev drI (last n : Nat) : Int := (((last : Int) - (n : Int)).natAbs : Int)
def sp_driftof (CM : Addr) : Sp := fun vs H Q _ => ∃ (T : Addr) (k : Nat) (ws : List LQ) (rs : List (Nat × Nat)) (n last : Nat), vs = [.ref T] ∧ RowAt CM H T k ws rs last ∧ rs[0]? = some (n, n) ∧ ws.length ≤ 40 ∧ ∀ H', Same H H' → Q (.int (drI last n)) H'
def RowE (CM : Addr) (H : Hp) (k : Nat) (ws : List LQ) (N : Nat) (v : V) (z : Int) : Prop := ∃ (A : Addr) (n last a b : Nat) (rs : List (Nat × Nat)), v = .ref A ∧ n < N ∧ RunsS ws n rs ∧ rs.length = ws.length ∧ rs[rs.length - 1]? = some (a, b) ∧ (last = a ∨ last = b) ∧ RowAt CM H A k ws rs last ∧ z = drI last n
theorem RowE.nl {CM : Addr} {H H' : Hp} {k : Nat} {ws : List LQ} {N M : Nat} {v : V} {z : Int} (a : RowE CM H k ws N v z) (s : Nl H H') (l : N ≤ M) : RowE CM H' k ws M v z := by
  obtain ⟨A, n, last, a', b, rs, h1, h2, h3, h4, h5, h6, h7, h8⟩ := a
  exact ⟨A, n, last, a', b, rs, h1, by omega, h3, h4, h5, h6, h7.nl s, h8⟩
/-- what a start wants of the rows: to its end a (lo), to its end b (hi) -/
def Want (CM : Addr) (H : Hp) (k : Nat) (ws : List LQ) (N n : Nat) (acc : List V) (lo : Bool) : Prop := ∀ (a b : Nat) (rs : List (Nat × Nat)), RunsS ws n rs → rs.length = ws.length → rs[rs.length - 1]? = some (a, b) → ∃ v ∈ acc, RowE CM H k ws N v (drI (if lo = true then a else b) n)
theorem Want.up {CM : Addr} {H H' : Hp} {k : Nat} {ws : List LQ} {N M n : Nat} {acc tl : List V} {lo : Bool} (a : Want CM H k ws N n acc lo) (s : Nl H H') (l : N ≤ M) : Want CM H' k ws M n (acc ++ tl) lo := fun x y rs h1 h2 h3 => by
  obtain ⟨v, hm, r⟩ := a x y rs h1 h2 h3
  exact ⟨v, List.mem_append_left _ hm, r.nl s l⟩
def RowsP (CM : Addr) (k : Nat) (ws : List LQ) (i : Nat) (H : Hp) (acc : List V) : Prop := (∀ v ∈ acc, ∃ z, RowE CM H k ws i v z) ∧ ∀ n, n < i → ∀ lo, Want CM H k ws i n acc lo
def RowsI (CM : Addr) (k : Nat) (ws : List LQ) (i j : Nat) (H : Hp) (acc : List V) : Prop := (∀ v ∈ acc, ∃ z, RowE CM H k ws (i + 1) v z) ∧ (∀ n, n < i → ∀ lo, Want CM H k ws (i + 1) n acc lo) ∧ (1 ≤ j → Want CM H k ws (i + 1) i acc true) ∧ (2 ≤ j → Want CM H k ws (i + 1) i acc false)
theorem RowsP.nl {CM : Addr} {H H' : Hp} {k : Nat} {ws : List LQ} {i : Nat} {acc : List V} (a : RowsP CM k ws i H acc) (s : Nl H H') : RowsP CM k ws i H' acc := ⟨fun v hv => (a.1 v hv).imp fun z r => r.nl s (Nat.le_refl _), fun n hn lo => by
  have := (a.2 n hn lo).up (tl := []) s (Nat.le_refl _)
  rwa [List.append_nil] at this⟩
theorem RowsI.nl {CM : Addr} {H H' : Hp} {k : Nat} {ws : List LQ} {i j : Nat} {acc : List V} (a : RowsI CM k ws i j H acc) (s : Nl H H') : RowsI CM k ws i j H' acc := by
  have up : ∀ {n lo}, Want CM H k ws (i + 1) n acc lo → Want CM H' k ws (i + 1) n acc lo := fun {n lo} w => by
    have := w.up (tl := []) s (Nat.le_refl _)
    rwa [List.append_nil] at this
  exact ⟨fun v hv => (a.1 v hv).imp fun z r => r.nl s (Nat.le_refl _), fun n hn lo => up (a.2.1 n hn lo), fun h => up (a.2.2.1 h), fun h => up (a.2.2.2 h)⟩
theorem RowsP.start {CM : Addr} {H H' : Hp} {k : Nat} {ws : List LQ} {i : Nat} {acc : List V} (a : RowsP CM k ws i H acc) (s : Nl H H') : RowsI CM k ws i 0 H' acc := ⟨fun v hv => (a.1 v hv).imp fun z r => r.nl s (Nat.le_succ _), fun n hn lo => by
  have := (a.2 n hn lo).up (tl := []) s (Nat.le_succ _)
  rwa [List.append_nil] at this, fun h => by omega, fun h => by omega⟩
theorem RowsI.snoc {CM : Addr} {H : Hp} {k : Nat} {ws : List LQ} {i j a b last : Nat} {acc : List V} {rs : List (Nat × Nat)} {A : Addr} (p : RowsI CM k ws i j H acc) (R : RunsS ws i rs) (l : rs.length = ws.length) (e : rs[rs.length - 1]? = some (a, b)) (r : RowAt CM H A k ws rs last)
    (hl : (j = 0 ∧ last = a) ∨ (j = 1 ∧ last = b)) : RowsI CM k ws i (j + 1) H (acc ++ [.ref A]) := by
  have ne : ∃ z, RowE CM H k ws (i + 1) (.ref A) z := ⟨_, A, i, last, a, b, rs, rfl, Nat.lt_succ_self _, R, l, e, by omega, r, rfl⟩
  have nl : Nl H H := fun _ _ e _ => e
  refine ⟨fun v hv => ?_, fun n hn lo => (p.2.1 n hn lo).up nl (Nat.le_refl _), fun _ => ?_, fun h2 => ?_⟩
  · rcases List.mem_append.mp hv with hv | hv
    · exact p.1 v hv
    · cases List.mem_singleton.mp hv
      exact ne
  · rcases hl with ⟨rfl, rfl⟩ | ⟨rfl, rfl⟩
    · intro a' b' rs' R' l' e'
      cases RunsS.uniq R' R
      rw [e] at e'
      cases e'
      exact ⟨_, List.mem_append_right _ (List.mem_singleton.mpr rfl), A, i, last, last, b, rs, rfl, Nat.lt_succ_self _, R, l, e, .inl rfl, r, rfl⟩
    · exact (p.2.2.1 (Nat.le_refl _)).up nl (Nat.le_refl _)
  · rcases hl with ⟨rfl, rfl⟩ | ⟨rfl, rfl⟩
    · omega
    · intro a' b' rs' R' l' e'
      cases RunsS.uniq R' R
      rw [e] at e'
      cases e'
      exact ⟨_, List.mem_append_right _ (List.mem_singleton.mpr rfl), A, i, last, a, last, rs, rfl, Nat.lt_succ_self _, R, l, e, .inr rfl, r, rfl⟩
/-- the greatest drift -/
def DriftAt (CM : Addr) (H : Hp) (k : Nat) (ws : List LQ) (N : Nat) (v : V) : Prop := (v = .non ∧ ∀ n rs, n < N → RunsS ws n rs → rs.length ≠ ws.length) ∨
  ∃ (T : Addr) (x : V) (z : Int), v = .ref T ∧ H T = some (.tup [.int z, x]) ∧ RowE CM H k ws N x z ∧ ∀ (n a b : Nat) rs, n < N → RunsS ws n rs → rs.length = ws.length → rs[rs.length - 1]? = some (a, b) → drI a n ≤ z ∧ drI b n ≤ z
def sp_mostdrift (K : PySem.W.Frag) (CM CL : Addr) : Sp := fun vs H Q _ => ∃ (W : Addr) (k : Nat) (ws : List LQ) (w0 : LQ), vs = [.ref W] ∧ WayAt K CM CL H W k ws ∧ ws[0]? = some w0 ∧ 0 < k ∧ k ≤ 900 ∧ ws.length ≤ 30 ∧
  ∀ (v : V) (H' : Hp), Same H H' → DriftAt CM H' (4 * k + 36) (ws ++ ws.take 1) w0.zs.length v → Q v H'
theorem RowE.uniq {CM : Addr} {H : Hp} {k : Nat} {ws : List LQ} {N : Nat} {v : V} {z z' : Int} (a : RowE CM H k ws N v z) (b : RowE CM H k ws N v z') : z = z' := by
  obtain ⟨A, n, last, a1, b1, rs, rfl, _, R, _, _, _, ⟨S, M, ks, ms, h1, h2, _, Z, _⟩, rfl⟩ := a
  obtain ⟨A', n', last', a1', b1', rs', eA, _, R', _, _, _, ⟨S', M', ks', ms', h1', h2', _, Z', _⟩, rfl⟩ := b
  cases eA
  rw [h1] at h1'
  cases h1'
  rw [h2] at h2'
  have ek := (List.map_inj_right (f := fun k : Nat => V.int k) (fun x y h => by have := V.int.inj h; omega)).mp (HO.tup.inj (Option.some.inj h2'))
  subst ek
  have l1 := Z.last
  rw [Z'.last] at l1
  cases l1
  obtain ⟨c, hc⟩ : ∃ c, ks[0]? = some c := ⟨_, List.getElem?_eq_getElem Z.pos⟩
  have i1 := Z.inr 0 c n n hc (by rw [Nat.zero_add]; exact R.first)
  have i2 := Z'.inr 0 c n' n' hc (by rw [Nat.zero_add]; exact R'.first)
  have : n = n' := by omega
  subst this
  rfl
theorem pick_fun {xs : List V} {P : V → Int → Prop} (h : ∀ x ∈ xs, ∃ z, P x z) : ∃ k : V → Int, ∀ x ∈ xs, P x (k x) :=
  ⟨fun x => if m : x ∈ xs then Classical.choose (h x m) else 0, fun x m => by
    show P x (if m : x ∈ xs then Classical.choose (h x m) else 0)
    rw [dif_pos m]
    exact Classical.choose_spec (h x m)⟩


def sp_part27 : Sp := fun vs H Q _ => ∃ (p : Addr) (d : LD) (k j : Nat), vs = [.ref p, .int k] ∧ LdAt H p d ∧ k < d.ms.length ∧ SzD j d ∧ IsRule d.r ∧ 0 < j ∧ j ≤ 900 ∧ ∀ (v : V) (H' : Hp), Same H H' → LPart H' v (partL d k) → Q v H'
def sp_met27 : Sp := fun vs H Q _ => ∃ (v : V) (p : Addr) (s : LS) (d : LD) (j : Nat) (F : Rat → Option Nat) (a : Nat), vs = [v, .ref p] ∧ LPart H v s ∧ ZzL (j + j + 3) s ∧ LdAt H p d ∧ LdOk d ∧ SzD j d ∧ 0 < j ∧ j ≤ 900 ∧ (∀ x, insB s x = true ↔ F x = some a) ∧ ∀ (w : V) (u : Option (Nat × Nat)) (H' : Hp), Same H H' → LedV H' w u → LedS F d.F a d.ms.length u → Q w H'
def sp_made27 (K : PySem.W.Frag) (CM CL : Addr) : Sp := fun vs H Q _ => ∃ (p : Addr) (d : LD) (k : Nat), vs = [.ref p] ∧ LdAt H p d ∧ LdOk d ∧ SzD k d ∧ 0 < k ∧ k ≤ 900 ∧ ∀ (q : Addr) (H' : Hp), Same H H' → LadAt K CM CL H' q k (zR d.ms) d.r (oR d.lo) (oR d.hi) → Q (.ref q) H'
def sp_scaled27 : Sp := fun vs H Q _ => ∃ (p s : Addr) (d : LD) (c : Rat) (k : Nat), vs = [.ref p, .ref s] ∧ LdAt H p d ∧ H s = some (PR c) ∧ SzD k d ∧ SzR k c ∧ 0 < k ∧ k ≤ 900 ∧ d.ms.length ≤ 900 ∧ ∀ (q : Addr) (H' : Hp), Same H H' → LdAt H' q (d.sc c) → Q (.ref q) H'
theorem LedV.same27 {H H' : Hp} {v : V} {u : Option (Nat × Nat)} (a : LedV H v u) (s : Same H H') : LedV H' v u := by
  cases u with
  | none => exact a
  | some c =>
    obtain ⟨T, e, h⟩ := a
    exact ⟨T, e, s _ _ h⟩
/-- what a paper holds, against the run that is due -/
structure PapU (CM : Addr) (H : Hp) (k : Nat) (ys : List V) (F G : Rat → Option Nat) (a : Nat) (u : Option (Nat × Nat)) : Prop where
  len : (match u with | none => 0 | some (c, d) => (d : Int) - (c : Int) + 1) = (ys.length : Int)
  all : ∀ (i : Nat) (y : V), ys[i]? = some y → ∃ (t : Addr) (z : Q2) (c d : Nat), y = .ref t ∧ QAt CM H t k z ∧ F (toR z) = some a ∧ u = some (c, d) ∧ G (toR z) = some (c + i)
theorem PapU.same {CM : Addr} {H H' : Hp} {k : Nat} {ys : List V} {F G : Rat → Option Nat} {a : Nat} {u : Option (Nat × Nat)} (p : PapU CM H k ys F G a u) (s : Same H H') : PapU CM H' k ys F G a u := ⟨p.len, fun i y e => by
  obtain ⟨t, z, c, d, h1, h2, h3⟩ := p.all i y e
  exact ⟨t, z, c, d, h1, h2.same s, h3⟩⟩
theorem papU_of {CM : Addr} {H : Hp} {k : Nat} {ys : List V} {bs : List Nat} {zs zt : List Q2} {r rt : Str} {lo hi lt ht : Option Q2} {a : Nat} {u : Option (Nat × Nat)} (L : LadQ zs r lo hi) (M : LadQ zt rt lt ht) (P : PapS CM H k ys bs (sizF zs r lo hi) (sizF zt rt lt ht) a 0 zt.length) (l : LedS (sizF zs r lo hi) (sizF zt rt lt ht) a zt.length u) : PapU CM H k ys (sizF zs r lo hi) (sizF zt rt lt ht) a u := by
  cases u with
  | none =>
    have e := pap_none P l
    subst e
    exact ⟨rfl, fun i y e => by simp at e⟩
  | some cd =>
    obtain ⟨c, d⟩ := cd
    obtain ⟨e, al⟩ := pap_run L M P l
    have cd := l.2.2.1
    refine ⟨?_, fun i y h => ?_⟩
    · show (d : Int) - (c : Int) + 1 = _
      omega
    · obtain ⟨t, z, h1, h2, h3, h4⟩ := al i y h
      exact ⟨t, z, c, d, h1, h2, h3, rfl, h4⟩
theorem ZzL.mono27 {a b : Nat} {s : LS} (h : ZzL a s) (l : a ≤ b) : ZzL b s := ⟨h.1.mono l, h.2.mono l⟩
theorem cp30 : CPow 10 30 := ⟨by decide, by decide, by decide⟩
theorem lg24 {z : Int} (h : z ≤ 24) (h0 : 0 ≤ z) : z.natAbs.log2 < 9000 := Nat.lt_of_le_of_lt (Nat.log2_le_self _) (by omega)
def sp_drawn27 : Sp := fun vs H Q _ => ∃ (h g : Addr) (n m : Nat), vs = [.ref h, .int m] ∧ PotAt H h g n ∧ n < 90000 ∧ 0 < m ∧ m ≤ 24 ∧ ∀ (p : Addr) (d : LD) (H' : Hp), Kp2 h g H H' → PotAt H' h g (n + 40) → LdAt H' p d → LdOk d → SzD 34 d → Q (.ref p) H'
def sp_right27 : Sp := fun vs H Q _ => ∃ (h g p q : Addr) (n : Nat) (d e : LD), vs = [.ref h, .ref p, .ref q] ∧ PotAt H h g n ∧ n < 80000 ∧ LdAt H p d ∧ LdAt H q e ∧ LdG d ∧ LdG e ∧ ∀ H', Kp2 h g H H' → PotAt H' h g (n + 4) → Q (.bl true) H'
def sp_ladders27 : Sp := fun vs H Q _ => ∃ (h g : Addr) (n c m : Nat), vs = [.ref h, .int c, .int m] ∧ PotAt H h g n ∧ n < 80000 ∧ c ≤ 100 ∧ 0 < m ∧ m ≤ 24 ∧ ∀ (D : Addr) (ys : List V) (H' : Hp), H D = none → Kp2 h g H H' → PotAt H' h g (n + 1 + 40 * c) → H' D = some (.lst ys) → ys.length = c → (∀ v ∈ ys, LdV LdG H' v) → Q (.ref D) H'


def sp_rising36 : Sp := fun vs H Q _ => ∃ (P : Addr) (vs0 : List V) (qs : List Rat) (k : Nat), vs = [.ref P] ∧ H P = some (.lst vs0) ∧ RsV H vs0 qs ∧ (∀ x ∈ qs, SzR k x) ∧ k ≤ 4000 ∧ qs.length ≤ 900 ∧ ∀ (D : Addr) (ws : List V) (ss : List Rat) (H' : Hp), Same H H' → H' D = some (.lst ws) → RsV H' ws ss → ss.Pairwise (· < ·) → (∀ x, x ∈ ss ↔ x ∈ qs) → ss.length ≤ qs.length → Q (.ref D) H'
def optO (o : Option Rat) (v : V) : Option V := if o.isSome = true then some v else none
theorem optO_rsv {H : Hp} {u w : V} {lo hi : Option Rat} (a : OP H u lo) (b : OP H w hi) : RsV H ([optO lo u, optO hi w].filterMap id) (lo.toList ++ hi.toList) := by
  cases lo with
  | none =>
    cases hi with
    | none => exact RsV.none
    | some y =>
      obtain ⟨q, rfl, h⟩ := b
      exact RsV.one h
  | some x =>
    obtain ⟨p, rfl, g⟩ := a
    cases hi with
    | none => exact RsV.one g
    | some y =>
      obtain ⟨q, rfl, h⟩ := b
      exact (RsV.one g).app (RsV.one h)
theorem rsv_of {H : Hp} {ys : List V} {ms : List Rat} (l : ys.length = ms.length) (h : ∀ (i : Nat) (y : V), ys[i]? = some y → ∃ (a : Addr) (x : Rat), y = .ref a ∧ ms[i]? = some x ∧ H a = some (PR x)) : RsV H ys ms := ⟨l, fun i x e => by
  have li := (List.getElem?_eq_some_iff.mp e).1
  obtain ⟨a, x', e1, e2, e3⟩ := h i _ (List.getElem?_eq_getElem (by omega))
  rw [e2] at e
  cases e
  exact ⟨a, by rw [List.getElem?_eq_getElem (by omega), e1], e3⟩⟩
theorem ends_len {d : LD} : (endsR d).length ≤ d.ms.length + d.ms.length + 2 := by
  unfold endsR
  rw [List.length_append, List.length_append, List.length_append, mids_len]
  have h1 : d.lo.toList.length ≤ 1 := by cases d.lo <;> simp
  have h2 : d.hi.toList.length ≤ 1 := by cases d.hi <;> simp
  omega
theorem mids_mem : ∀ {l : List Rat} {x : Rat}, x ∈ midsR l → ∃ a b, a ∈ l ∧ b ∈ l ∧ x = (a + b) / 2
  | [], x, h => by simp [midsR] at h
  | [_], x, h => by simp [midsR] at h
  | a :: b :: t, x, h => by
    rcases List.mem_cons.mp (show x ∈ (a + b) / 2 :: midsR (b :: t) from h) with rfl | h
    · exact ⟨a, b, by simp, by simp, rfl⟩
    · obtain ⟨c, d, h1, h2, h3⟩ := mids_mem h
      exact ⟨c, d, List.mem_cons_of_mem _ h1, List.mem_cons_of_mem _ h2, h3⟩
theorem mids_sz {l : List Rat} {k : Nat} (h : ∀ x ∈ l, SzR k x) : ∀ x ∈ midsR l, SzR (2 + (k + k + 1)) x := fun x hx => by
  obtain ⟨a, b, h1, h2, rfl⟩ := mids_mem hx
  exact szr_half (szr_add (h a h1) (h b h2))
theorem ends_sz {d : LD} {k : Nat} (h : SzD k d) : ∀ x ∈ endsR d, SzR (2 + (k + k + 1)) x := fun x hx => by
  unfold endsR at hx
  rcases List.mem_append.mp hx with hx | hx
  · rcases List.mem_append.mp hx with hx | hx
    · exact (h.1 x hx).mono (by omega)
    · exact mids_sz h.1 x hx
  · rcases List.mem_append.mp hx with hx | hx
    · cases e : d.lo with
      | none => rw [e] at hx; simp at hx
      | some y =>
        rw [e] at hx
        have : x = y := by simpa using hx
        subst this
        exact (h.2.1 x e).mono (by omega)
    · cases e : d.hi with
      | none => rw [e] at hx; simp at hx
      | some y =>
        rw [e] at hx
        have : x = y := by simpa using hx
        subst this
        exact (h.2.2 x e).mono (by omega)
def flatE (ds : List LD) : List Rat := (ds.map endsR).flatten
theorem flatE_snoc (ds : List LD) (d : LD) : flatE (ds ++ [d]) = flatE ds ++ endsR d := by
  unfold flatE
  rw [List.map_append, List.flatten_append]
  simp
def sp_tried36 (CM : Addr) : Sp := fun vs H Q _ => ∃ (P : Addr) (ps : List V) (ds : List LD), vs = [.ref P] ∧ H P = some (.lst ps) ∧ ps.length = ds.length ∧ (∀ (i : Nat) (d : LD), ds[i]? = some d → ∃ p : Addr, ps[i]? = some (.ref p) ∧ LdAt H p d ∧ LdG d) ∧ 0 < ds.length ∧ ds.length ≤ 5 ∧ ∀ (D : Addr) (ws : List V) (E : List Rat) (a b : Rat) (H' : Hp), Same H H' → H' D = some (.lst ws) → ws.length = (triedR E a b).length → (∀ (i : Nat) (x : Rat), (triedR E a b)[i]? = some x → ∃ m : Addr, ws[i]? = some (.ref m) ∧ QAt CM H' m 600 (ofR x)) → E.Pairwise (· < ·) → E[0]? = some a → E[E.length - 1]? = some b → (∀ (i : Nat) (d : LD) (x : Rat), ds[i]? = some d → EndL d x → x ∈ E) → (triedR E a b).length ≤ 600 → Q (.ref D) H'

theorem keys_putK {κ : Type} [DecidableEq κ] (kvs : List (κ × V)) (k : κ) (v : V) : (putK kvs k v).map (·.1) = if k ∈ kvs.map (·.1) then kvs.map (·.1) else kvs.map (·.1) ++ [k] := by
  have e : (kvs.any fun kv => decide (kv.1 = k)) = decide (k ∈ kvs.map (·.1)) := by
    rw [Bool.eq_iff_iff, List.any_eq_true, decide_eq_true_eq, List.mem_map]
    constructor
    · rintro ⟨x, h1, h2⟩
      exact ⟨x, h1, of_decide_eq_true h2⟩
    · rintro ⟨x, h1, h2⟩
      exact ⟨x, h1, decide_eq_true h2⟩
  unfold putK
  rw [e]
  by_cases c : k ∈ kvs.map (·.1)
  · rw [if_pos (decide_eq_true c), if_pos c, List.map_map]
    refine List.map_congr_left fun x _ => ?_
    show (if x.1 = k then (x.1, v) else x).1 = x.1
    split <;> rfl
  · rw [if_neg (fun z => c (of_decide_eq_true z)), if_neg c, List.map_append]
    rfl
/-- the keys of a dict of whole numbers, each once -/
structure KeysZ (kvs : List (Key × V)) (P : Int → Prop) : Prop where
  nd : (kvs.map (·.1)).Nodup
  al : ∀ k ∈ kvs.map (·.1), ∃ z : Int, k = Sum.inl z
  iff : ∀ z : Int, (Sum.inl z : Key) ∈ kvs.map (·.1) ↔ P z
theorem KeysZ.nil : KeysZ [] fun _ => False := ⟨List.nodup_nil, fun k h => by simp at h, fun z => by simp⟩
theorem KeysZ.imp {kvs : List (Key × V)} {P P' : Int → Prop} (a : KeysZ kvs P) (h : ∀ z, P z ↔ P' z) : KeysZ kvs P' := ⟨a.nd, a.al, fun z => (a.iff z).trans (h z)⟩
theorem KeysZ.put {kvs : List (Key × V)} {P : Int → Prop} (a : KeysZ kvs P) (y : Int) (v : V) : KeysZ (putK kvs (Sum.inl y) v) fun z => P z ∨ z = y := by
  have e := keys_putK kvs (Sum.inl y : Key) v
  by_cases c : (Sum.inl y : Key) ∈ kvs.map (·.1)
  · rw [if_pos c] at e
    refine ⟨by rw [e]; exact a.nd, by rw [e]; exact a.al, fun z => ?_⟩
    rw [e, a.iff]
    constructor
    · exact .inl
    · rintro (h | rfl)
      · exact h
      · exact (a.iff _).mp c
  · rw [if_neg c] at e
    refine ⟨?_, fun k hk => ?_, fun z => ?_⟩
    · rw [e, List.nodup_append]
      refine ⟨a.nd, by simp, fun x hx b hb => ?_⟩
      cases List.mem_singleton.mp hb
      exact fun q => c (q ▸ hx)
    · rw [e] at hk
      rcases List.mem_append.mp hk with hk | hk
      · exact a.al k hk
      · cases List.mem_singleton.mp hk
        exact ⟨y, rfl⟩
    · rw [e, List.mem_append, a.iff, List.mem_singleton]
      constructor
      · rintro (h | h)
        · exact .inl h
        · exact .inr (Sum.inl.inj h)
      · rintro (h | rfl)
        · exact .inl h
        · exact .inr rfl
theorem KeysZ.merge : ∀ {more kvs : List (Key × V)} {P : Int → Prop}, KeysZ kvs P → (∀ k ∈ more.map (·.1), ∃ z : Int, k = Sum.inl z) → KeysZ (mergeK kvs more) fun z => P z ∨ (Sum.inl z : Key) ∈ more.map (·.1)
  | [], kvs, P, a, _ => a.imp fun z => by simp
  | (k, v) :: t, kvs, P, a, h => by
    obtain ⟨y, rfl⟩ := h k (by simp)
    have ih := KeysZ.merge (more := t) (a.put y v) fun k hk => h k (by rw [List.map_cons]; exact List.mem_cons_of_mem _ hk)
    refine KeysZ.imp ih fun z => ?_
    rw [List.map_cons, List.mem_cons]
    constructor
    · rintro ((h | rfl) | h)
      · exact .inl h
      · exact .inr (.inl rfl)
      · exact .inr (.inr h)
    · rintro (h | h | h)
      · exact .inl (.inl h)
      · exact .inl (.inr (Sum.inl.inj h))
      · exact .inr h
theorem nodup_len : ∀ (N : Nat) (l : List Int), l.Nodup → (∀ z ∈ l, 0 ≤ z ∧ z < (N : Int)) → l.length ≤ N
  | 0, l, _, h => by
    cases l with
    | nil => exact Nat.le_refl _
    | cons x t =>
      have := h x (by simp)
      omega
  | N + 1, l, nd, h => by
    have l1 := nodup_len N (l.erase (N : Int)) (nd.erase _) fun z hz => by
      obtain ⟨z1, z2⟩ := (nd.mem_erase_iff).mp hz
      have := h z z2
      have : z ≠ (N : Int) := z1
      omega
    have l2 : l.length ≤ (l.erase (N : Int)).length + 1 := by
      by_cases c : (N : Int) ∈ l
      · rw [List.length_erase_of_mem c]
        omega
      · rw [List.erase_of_not_mem c]
        omega
    omega
/-- what the keys are, as whole numbers -/
theorem KeysZ.ints {kvs : List (Key × V)} {P : Int → Prop} (a : KeysZ kvs P) : ∃ ns : List Int, kvs.map (·.1) = ns.map Sum.inl ∧ ns.Nodup ∧ (∀ z, z ∈ ns ↔ P z) := by
  have h : ∀ ks : List Key, (∀ k ∈ ks, ∃ z : Int, k = Sum.inl z) → ∃ ns : List Int, ks = ns.map Sum.inl := fun ks => by
    induction ks with
    | nil => exact fun _ => ⟨[], rfl⟩
    | cons k t ih =>
      intro h
      obtain ⟨z, rfl⟩ := h k (by simp)
      obtain ⟨ns, e⟩ := ih fun k hk => h k (List.mem_cons_of_mem _ hk)
      exact ⟨z :: ns, by rw [List.map_cons, e]⟩
  obtain ⟨ns, e⟩ := h _ a.al
  have mi : ∀ z : Int, (Sum.inl z : Key) ∈ (ns.map Sum.inl : List Key) ↔ z ∈ ns := fun z => by
    rw [List.mem_map]
    constructor
    · rintro ⟨y, hy, q⟩
      cases q
      exact hy
    · exact fun hy => ⟨z, hy, rfl⟩
  refine ⟨ns, e, ?_, fun z => ?_⟩
  · have := a.nd
    rw [e] at this
    exact List.Pairwise.of_map Sum.inl (fun x y h q => h (by rw [q])) this
  · rw [← a.iff z, e]
    exact (mi z).symm

theorem KeysZ.len24 {kvs : List (Key × V)} {P : Int → Prop} (a : KeysZ kvs P) (h : ∀ z, P z → ∃ k : Nat, z = (k : Int) ∧ k < 24) : kvs.length ≤ 24 := by
  obtain ⟨ks, ek, nd, mk⟩ := a.ints
  have lk := congrArg List.length ek
  rw [List.length_map, List.length_map] at lk
  rw [lk]
  refine nodup_len 24 ks nd fun z hz => ?_
  obtain ⟨k, rfl, hk⟩ := h z ((mk z).mp hz)
  omega
/-- a dict of dicts: what leads to what -/
structure LeadJ (H0 H : Hp) (D : Addr) (kvs : List (Key × V)) (O : Int → Prop) (P : Nat → Nat → Prop) : Prop where
  at_ : H D = some (.dK kvs)
  new : H0 D = none
  keys : KeysZ kvs O
  inn : ∀ kv ∈ kvs, ∃ (a : Addr) (k : Nat) (kv2 : List (Key × V)), kv = (Sum.inl (k : Int), .ref a) ∧ H a = some (.dK kv2) ∧ H0 a = none ∧ a ≠ D ∧ KeysZ kv2 (fun z => ∃ l : Nat, z = (l : Int) ∧ P k l)
  inj : ∀ x ∈ kvs, ∀ y ∈ kvs, x.2 = y.2 → x.1 = y.1
theorem LeadJ.up {H0 H : Hp} {D q : Addr} {u : HO} {kvs : List (Key × V)} {O : Int → Prop} {P : Nat → Nat → Prop} (L : LeadJ H0 H D kvs O P) (n : H q = none) : LeadJ H0 (upd H q u) D kvs O P :=
  ⟨by rw [upd_ne (ne_of_none L.at_ n)]; exact L.at_, L.new, L.keys, fun kv h => by
    obtain ⟨a, k, kv2, e, h1, h2, h3, h4⟩ := L.inn kv h
    exact ⟨a, k, kv2, e, by rw [upd_ne (ne_of_none h1 n)]; exact h1, h2, h3, h4⟩, L.inj⟩
theorem valV_some {kvs : List (Key × V)} {k : Key} {v : V} (h : valV kvs k = some v) : (k, v) ∈ kvs := by
  unfold valV at h
  obtain ⟨x, hx, rfl⟩ := Option.map_eq_some_iff.mp h
  have h1 := List.mem_of_find?_eq_some hx
  have h2 := List.find?_some hx
  have : x.1 = k := by simpa using h2
  subst this
  exact h1
theorem LeadJ.old {H0 H : Hp} {D : Addr} {kvs : List (Key × V)} {O : Int → Prop} {P : Nat → Nat → Prop} (L : LeadJ H0 H D kvs O P) {k : Nat} {v : V} (h : valV kvs (Sum.inl (k : Int)) = some v) : ∃ (a : Addr) (kv2 : List (Key × V)), v = .ref a ∧ H a = some (.dK kv2) ∧ H0 a = none ∧ KeysZ kv2 (fun z => ∃ l : Nat, z = (l : Int) ∧ P k l) ∧ ∀ (l : Nat) (tv : V), LeadJ H0 (upd H a (.dK (mergeK kv2 [(Sum.inl (l : Int), tv)]))) D kvs O (fun c d => P c d ∨ (c = k ∧ d = l)) := by
  have m := valV_some h
  obtain ⟨a, k', kv2, e, h1, h2, h3, h4⟩ := L.inn _ m
  have e1 : k = k' := by
    have := congrArg Prod.fst e
    have := Sum.inl.inj this
    omega
  subst e1
  have e2 : v = .ref a := congrArg Prod.snd e
  subst e2
  refine ⟨a, kv2, rfl, h1, h2, h4, fun l tv => ⟨by rw [upd_ne (Ne.symm h3)]; exact L.at_, L.new, L.keys, fun kv hkv => ?_, L.inj⟩⟩
  obtain ⟨b, c, kv3, ekv, g1, g2, g3, g4⟩ := L.inn kv hkv
  by_cases q : b = a
  · subst q
    have e3 := L.inj _ hkv _ m (by rw [ekv])
    rw [ekv] at e3
    have e4 : c = k := by
      have := Sum.inl.inj (show (Sum.inl (c : Int) : Key) = Sum.inl (k : Int) from e3)
      omega
    subst e4
    refine ⟨b, c, _, ekv, upd_same, g2, g3, ?_⟩
    refine (h4.merge (more := [(Sum.inl (l : Int), tv)]) fun k hk => ⟨(l : Int), by simpa using hk⟩).imp fun z => ?_
    constructor
    · rintro (⟨d, rfl, p⟩ | h)
      · exact ⟨d, rfl, .inl p⟩
      · have : z = (l : Int) := by simpa using h
        exact ⟨l, this, .inr ⟨rfl, rfl⟩⟩
    · rintro ⟨d, rfl, p | ⟨_, rfl⟩⟩
      · exact .inl ⟨d, rfl, p⟩
      · exact .inr (by simp)
  · refine ⟨b, c, kv3, ekv, by rw [upd_ne q]; exact g1, g2, g3, g4.imp fun z => ?_⟩
    have cn : c ≠ k := fun ec => by
      subst ec
      obtain ⟨i, hi⟩ := List.mem_iff_getElem?.mp hkv
      obtain ⟨j, hj⟩ := List.mem_iff_getElem?.mp m
      have ij : i = j := by
        have nd := L.keys.nd
        have e5 : (kvs.map (·.1))[i]? = some (Sum.inl (c : Int)) := by rw [List.getElem?_map, hi, ekv]; rfl
        have e6 : (kvs.map (·.1))[j]? = some (Sum.inl (c : Int)) := by rw [List.getElem?_map, hj]; rfl
        exact (List.getElem?_inj (List.getElem?_eq_some_iff.mp e5).1 nd).mp (by rw [e5, e6])
      subst ij
      rw [hi] at hj
      have := Option.some.inj hj
      rw [ekv] at this
      have := congrArg Prod.snd this
      exact q (V.ref.inj this)
    constructor
    · rintro ⟨d, rfl, p⟩
      exact ⟨d, rfl, .inl p⟩
    · rintro ⟨d, rfl, p | ⟨rfl, _⟩⟩
      · exact ⟨d, rfl, p⟩
      · exact absurd rfl cn
theorem LeadJ.put {H0 H : Hp} {D p : Addr} {kvs : List (Key × V)} {O : Int → Prop} {P : Nat → Nat → Prop} (L : LeadJ H0 H D kvs O P) {k : Nat} (h : valV kvs (Sum.inl (k : Int)) = none) (hp : H p = some (.dK [])) (np : H0 p = none) (nD : p ≠ D) (ni : ∀ kv ∈ kvs, kv.2 ≠ .ref p) (no : ∀ l, ¬ P k l) : LeadJ H0 (upd H D (.dK (putK kvs (Sum.inl (k : Int)) (.ref p)))) D (putK kvs (Sum.inl (k : Int)) (.ref p)) (fun z => O z ∨ z = (k : Int)) P := by
  have ep := putK_new (.ref p) h
  refine ⟨upd_same, L.new, L.keys.put _ _, fun kv hkv => ?_, fun x hx y hy e => ?_⟩
  · rw [ep] at hkv
    rcases List.mem_append.mp hkv with hkv | hkv
    · obtain ⟨a, k, kv2, e, h1, h2, h3, h4⟩ := L.inn kv hkv
      exact ⟨a, k, kv2, e, by rw [upd_ne h3]; exact h1, h2, h3, h4⟩
    · cases List.mem_singleton.mp hkv
      exact ⟨p, k, [], rfl, by rw [upd_ne nD]; exact hp, np, nD, KeysZ.nil.imp fun z => ⟨fun f => f.elim, fun ⟨l, _, f⟩ => no l f⟩⟩
  · rw [ep] at hx hy
    rcases List.mem_append.mp hx with hx | hx
    · rcases List.mem_append.mp hy with hy | hy
      · exact L.inj x hx y hy e
      · cases List.mem_singleton.mp hy
        exact absurd e (ni x hx)
    · cases List.mem_singleton.mp hx
      rcases List.mem_append.mp hy with hy | hy
      · exact absurd e.symm (ni y hy)
      · cases List.mem_singleton.mp hy
        rfl
theorem LeadJ.imp {H0 H : Hp} {D : Addr} {kvs : List (Key × V)} {O O' : Int → Prop} {P P' : Nat → Nat → Prop} (L : LeadJ H0 H D kvs O P) (h : ∀ z, O z ↔ O' z) (g : ∀ k l, P k l ↔ P' k l) : LeadJ H0 H D kvs O' P' :=
  ⟨L.at_, L.new, L.keys.imp h, fun kv hkv => by
    obtain ⟨a, k, kv2, e, h1, h2, h3, h4⟩ := L.inn kv hkv
    exact ⟨a, k, kv2, e, h1, h2, h3, h4.imp fun z => ⟨fun ⟨l, e, p⟩ => ⟨l, e, (g k l).mp p⟩, fun ⟨l, e, p⟩ => ⟨l, e, (g k l).mpr p⟩⟩⟩, L.inj⟩
theorem valV_none {kvs : List (Key × V)} {k : Key} (h : valV kvs k = none) : ∀ kv ∈ kvs, kv.1 ≠ k := fun kv hkv e => by
  unfold valV at h
  rw [Option.map_eq_none_iff, List.find?_eq_none] at h
  exact h kv hkv (by simp [e])
theorem new_sameX {H H' : Hp} {d : Addr} {f : HO} (n : H d = none) (s : Same H H') : Same H (upd H' d f) := fun b o e => by
  rw [upd_ne (ne_of_none e n)]
  exact s _ _ e
theorem old_none {H H' : Hp} {p : Addr} (s : Same H H') (n : H' p = none) : H p = none := by
  cases q : H p with
  | none => rfl
  | some o => rw [s _ _ q] at n; cases n
def sp_leads36 : Sp := fun vs H Q _ => ∃ (A B : Addr) (us ws : List V) (n : Nat) (f g : Nat → Option Nat), vs = [.ref A, .ref B] ∧ H A = some (.lst us) ∧ H B = some (.lst ws) ∧ us.length = n ∧ ws.length = n ∧ n ≤ 600 ∧ (∀ i, i < n → us[i]? = some (optI (f i)) ∧ ws[i]? = some (optI (g i))) ∧ (∀ i k, f i = some k → k < 24) ∧ (∀ i k, g i = some k → k < 24) ∧ ∀ (D : Addr) (kvs : List (Key × V)) (H' : Hp), Same H H' → LeadJ H H' D kvs (fun z => ∃ k l : Nat, z = (k : Int) ∧ ∃ i, i < n ∧ f i = some k ∧ g i = some l) (fun k l => ∃ i, i < n ∧ f i = some k ∧ g i = some l) → Q (.ref D) H'

def sp_rowsright36 (K : PySem.W.Frag) (CM CL : Addr) : Sp := fun vs H Q _ => ∃ (O T R A B : Addr) (os ps : List V) (k n a b : Nat) (ws : List LQ) (rs : List (Nat × Nat)), vs = [.ref O, .ref T] ∧ H O = some (.lst os) ∧ os.length = ws.length ∧ (∀ (i : Nat) (w : LQ), ws[i]? = some w → ∃ p : Addr, os[i]? = some (.ref p) ∧ LadAt K CM CL H p k w.zs w.r w.lo w.hi) ∧ 0 < k ∧ k ≤ 1000 ∧ ws.length ≤ 31 ∧ H T = some (.tup [.str "comes", .ref R, .ref A, .ref B]) ∧ H R = some (.tup ps) ∧ PrL H ps rs ∧ RunsP ws n rs ∧ rs.length = ws.length ∧ rs[rs.length - 1]? = some (a, b) ∧ RowAt CM H A k ws rs a ∧ RowAt CM H B k ws rs b ∧ ∀ H', Same H H' → Q (.bl true) H'

/-- what one comes to, size by size -/
def Rch (ws : List LQ) (n : Nat) : Nat → Nat → Prop
  | 0, k => k = n
  | i + 1, l => ∃ k w w' x, Rch ws n i k ∧ ws[i]? = some w ∧ ws[i + 1]? = some w' ∧ w.F x = some k ∧ w'.F x = some l
theorem Rch.lt {ws : List LQ} {n i k : Nat} {w : LQ} (h : Rch ws n i k) (hw : ws[i]? = some w) (n0 : ∀ w0, ws[0]? = some w0 → n < w0.zs.length) : k < w.zs.length := by
  cases i with
  | zero =>
    cases h
    exact n0 w hw
  | succ i =>
    obtain ⟨k', w1, w2, x, _, _, h3, _, h5⟩ := h
    rw [hw] at h3
    cases h3
    exact sizeQ_lt h5
theorem rch_runs {ws : List LQ} {n : Nat} {rs : List (Nat × Nat)} (R : RunsS ws n rs) (lq : ∀ w ∈ ws, LadQ w.zs w.r w.lo w.hi) : ∀ i, i < ws.length → ∀ k, Rch ws n i k ↔ ∃ a b, rs[i]? = some (a, b) ∧ a ≤ k ∧ k ≤ b
  | 0, _, k => by
    constructor
    · intro h
      cases h
      exact ⟨n, n, R.first, Nat.le_refl _, Nat.le_refl _⟩
    · rintro ⟨a, b, e, h1, h2⟩
      rw [R.first] at e
      cases e
      show k = n
      omega
  | i + 1, hi, l => by
    have ih := rch_runs R lq i (by omega)
    obtain ⟨w, hw⟩ : ∃ w, ws[i]? = some w := ⟨_, List.getElem?_eq_getElem (by omega)⟩
    obtain ⟨w', hw'⟩ : ∃ w, ws[i + 1]? = some w := ⟨_, List.getElem?_eq_getElem hi⟩
    constructor
    · rintro ⟨k, v, v', x, hk, e1, e2, f1, f2⟩
      rw [hw] at e1
      rw [hw'] at e2
      cases e1
      cases e2
      obtain ⟨a, b, hr, ak, kb⟩ := (ih k).mp hk
      have lr := (List.getElem?_eq_some_iff.mp hr).1
      have rx : rF w.F a b x = some 0 := rF_iff.mpr ⟨k, f1, ak, kb⟩
      have ll : l < w'.zs.length := sizeQ_lt f2
      by_cases c : i + 1 < rs.length
      · obtain ⟨⟨c', d'⟩, e3⟩ : ∃ r, rs[i + 1]? = some r := ⟨_, List.getElem?_eq_getElem c⟩
        have L := R.step i a b c' d' w w' hr hw hw' e3
        exact ⟨c', d', e3, L.2.2.2.2.2 l x rx f2⟩
      · have el : rs.length = i + 1 := by omega
        have L := R.stop a b w w' (by rw [el, Nat.add_sub_cancel]; exact hr) (by rw [el, Nat.add_sub_cancel]; exact hw) (by rw [el]; exact hw')
        exact (L l ll x rx f2).elim
    · rintro ⟨c', d', e3, h1, h2⟩
      have lr := (List.getElem?_eq_some_iff.mp e3).1
      obtain ⟨⟨a, b⟩, hr⟩ : ∃ r, rs[i]? = some r := ⟨_, List.getElem?_eq_getElem (by omega)⟩
      have L := R.step i a b c' d' w w' hr hw hw' e3
      obtain ⟨x, rx, gx⟩ := run_between (lq w (List.mem_of_getElem? hw)) (lq w' (List.mem_of_getElem? hw')) L h1 h2
      obtain ⟨k, hk, ak, kb⟩ := rF_iff.mp rx
      exact ⟨k, w, w', x, (ih k).mpr ⟨a, b, hr, ak, kb⟩, hw, hw', hk, gx⟩
theorem led_rF {F G : Rat → Option Nat} {a n : Nat} {u : Option (Nat × Nat)} (L : LedS F G a n u) : LedS (rF F a a) G 0 n u := by
  have e : ∀ x, rF F a a x = some 0 ↔ F x = some a := fun x => by
    rw [rF_iff]
    constructor
    · rintro ⟨k, h, h1, h2⟩
      have : k = a := by omega
      exact this ▸ h
    · exact fun h => ⟨a, h, Nat.le_refl _, Nat.le_refl _⟩
  cases u with
  | none => exact fun b hb x f g => L b hb x ((e x).mp f) g
  | some cd =>
    obtain ⟨c, d⟩ := cd
    obtain ⟨h1, h2, h3, ⟨x, fx, gx⟩, ⟨y, fy, gy⟩, h6⟩ := L
    exact ⟨h1, h2, h3, ⟨x, (e x).mpr fx, gx⟩, ⟨y, (e y).mpr fy, gy⟩, fun b z f g => h6 b z ((e z).mp f) g⟩
theorem led_iff {zs zt : List Q2} {r rt : Str} {lo hi lt ht : Option Q2} {a c d n l : Nat} (L : LadQ zs r lo hi) (M : LadQ zt rt lt ht) (h : LedS (sizF zs r lo hi) (sizF zt rt lt ht) a n (some (c, d))) : (c ≤ l ∧ l ≤ d) ↔ ∃ x, sizF zs r lo hi x = some a ∧ sizF zt rt lt ht x = some l := by
  constructor
  · rintro ⟨h1, h2⟩
    obtain ⟨x, rx, gx⟩ := run_between L M (led_rF h) h1 h2
    obtain ⟨k, hk, k1, k2⟩ := rF_iff.mp rx
    have : k = a := by omega
    subst this
    exact ⟨x, hk, gx⟩
  · rintro ⟨x, f, g⟩
    exact h.2.2.2.2.2 l x f g

theorem led_ex {F G : Rat → Option Nat} {a n : Nat} (gl : ∀ x b, G x = some b → b < n) : ∃ u, LedS F G a n u := by
  have least : ∀ (N : Nat) (P : Nat → Prop), (∀ b, b < N → ¬ P b) ∨ ∃ c, c < N ∧ P c ∧ ∀ b, b < N → P b → c ≤ b := fun N P => by
    induction N with
    | zero => exact .inl fun b h => absurd h (Nat.not_lt_zero _)
    | succ N ih =>
      rcases ih with ih | ⟨c, h1, h2, h3⟩
      · by_cases q : P N
        · exact .inr ⟨N, by omega, q, fun b hb pb => by
            by_cases e : b = N
            · omega
            · exact (ih b (by omega) pb).elim⟩
        · exact .inl fun b hb pb => by
            by_cases e : b = N
            · exact q (e ▸ pb)
            · exact ih b (by omega) pb
      · exact .inr ⟨c, by omega, h2, fun b hb pb => by
          by_cases e : b = N
          · omega
          · exact h3 b (by omega) pb⟩
  have most : ∀ (N : Nat) (P : Nat → Prop), (∀ b, b < N → ¬ P b) ∨ ∃ c, c < N ∧ P c ∧ ∀ b, b < N → P b → b ≤ c := fun N P => by
    induction N with
    | zero => exact .inl fun b h => absurd h (Nat.not_lt_zero _)
    | succ N ih =>
      by_cases q : P N
      · exact .inr ⟨N, by omega, q, fun b hb _ => by omega⟩
      · rcases ih with ih | ⟨c, h1, h2, h3⟩
        · exact .inl fun b hb pb => by
            by_cases e : b = N
            · exact q (e ▸ pb)
            · exact ih b (by omega) pb
        · exact .inr ⟨c, by omega, h2, fun b hb pb => by
            by_cases e : b = N
            · exact absurd (e ▸ pb) q
            · exact h3 b (by omega) pb⟩
  rcases least n fun b => ∃ x, F x = some a ∧ G x = some b with h | ⟨c, c1, c2, c3⟩
  · exact ⟨none, fun b hb x f g => h b hb ⟨x, f, g⟩⟩
  · rcases most n fun b => ∃ x, F x = some a ∧ G x = some b with h | ⟨d, d1, d2, d3⟩
    · exact (h c c1 c2).elim
    · exact ⟨some (c, d), c1, d1, c3 d d1 d2, c2, d2, fun b x f g => ⟨c3 b (gl x b g) ⟨x, f, g⟩, d3 b (gl x b g) ⟨x, f, g⟩⟩⟩
theorem runs_ex {ws : List LQ} {n : Nat} (l : 0 < ws.length) : ∃ rs, RunsS ws n rs := by
  have h : ∀ i, i < ws.length → (∃ rs, RunsS ws n rs) ∨ ∃ rs, RunsP ws n rs ∧ rs.length = i + 1 := fun i => by
    induction i with
    | zero => exact fun _ => .inr ⟨[(n, n)], ⟨rfl, l, fun i a b c d w w' h1 h2 h3 h4 => by simp at h4⟩, rfl⟩
    | succ i ih =>
      intro hi
      rcases ih (by omega) with h | ⟨rs, R, lr⟩
      · exact .inl h
      · obtain ⟨⟨a, b⟩, hr⟩ : ∃ r, rs[i]? = some r := ⟨_, List.getElem?_eq_getElem (by omega)⟩
        obtain ⟨w, hw⟩ : ∃ w, ws[i]? = some w := ⟨_, List.getElem?_eq_getElem (by omega)⟩
        obtain ⟨w', hw'⟩ : ∃ w, ws[i + 1]? = some w := ⟨_, List.getElem?_eq_getElem hi⟩
        obtain ⟨u, L⟩ := led_ex (F := rF w.F a b) (G := w'.F) (a := 0) (n := w'.zs.length) (fun x b h => sizeQ_lt h)
        cases u with
        | none =>
          refine .inl ⟨rs, R, fun a' b' v v' h1 h2 h3 => ?_⟩
          rw [lr, Nat.add_sub_cancel] at h1 h2
          rw [lr] at h3
          rw [hr] at h1
          rw [hw] at h2
          rw [hw'] at h3
          cases h1
          cases h2
          cases h3
          exact L
        | some cd =>
          obtain ⟨c, d⟩ := cd
          exact .inr ⟨rs ++ [(c, d)], R.snoc lr hr hw hw' L, by rw [List.length_append, lr]; rfl⟩
  rcases h (ws.length - 1) (by omega) with h | ⟨rs, R, lr⟩
  · exact h
  · refine ⟨rs, R, fun a b w w' h1 h2 h3 => ?_⟩
    have := (List.getElem?_eq_some_iff.mp h3).1
    omega
/-- the greatest that one lies from the start, of the starts so far -/
def MnyS (ws : List LQ) (L i : Nat) (m : Int) : Prop := -1 ≤ m ∧ (m = -1 ∨ ∃ n k, n < i ∧ Rch ws n L k ∧ m = drI k n) ∧ ∀ n k, n < i → Rch ws n L k → drI k n ≤ m
theorem MnyS.next {ws : List LQ} {L i : Nat} {m m' : Int} {zs : List Int} (a : MnyS ws L i m) (h : ∀ z, z ∈ zs ↔ ∃ k, z = drI k i ∧ Rch ws i L k) (hm : m' ∈ m :: zs) (hx : ∀ y ∈ m :: zs, y ≤ m') : MnyS ws L (i + 1) m' := by
  have h1 := hx m List.mem_cons_self
  have a1 := a.1
  refine ⟨by omega, ?_, fun n k hn hk => ?_⟩
  · rcases List.mem_cons.mp hm with rfl | hm
    · rcases a.2.1 with e | ⟨n, k, hn, hk, e⟩
      · exact .inl e
      · exact .inr ⟨n, k, by omega, hk, e⟩
    · obtain ⟨k, e, hk⟩ := (h m').mp hm
      exact .inr ⟨i, k, by omega, hk, e⟩
  · by_cases q : n = i
    · subst q
      exact hx _ (List.mem_cons_of_mem _ ((h _).mpr ⟨k, rfl, hk⟩))
    · have := a.2.2 n k (by omega) hk
      omega
/-- the program's greatest drift against the law's -/
theorem drift_is {CM : Addr} {H : Hp} {k : Nat} {ws : List LQ} {N L : Nat} {v : V} {m : Int} (lq : ∀ w ∈ ws, LadQ w.zs w.r w.lo w.hi) (lw : ws.length = L + 1) (D : DriftAt CM H k ws N v) (M : MnyS ws L N m) : (v = .non ∧ m = -1) ∨ ∃ (T : Addr) (x : V), 0 ≤ m ∧ v = .ref T ∧ H T = some (.tup [.int m, x]) ∧ RowE CM H k ws N x m := by
  have rr : ∀ n k, Rch ws n L k → ∃ rs a b, RunsS ws n rs ∧ rs.length = ws.length ∧ rs[rs.length - 1]? = some (a, b) ∧ a ≤ k ∧ k ≤ b := fun n k h => by
    obtain ⟨rs, R⟩ := runs_ex (ws := ws) (n := n) (by omega)
    obtain ⟨a, b, e, h1, h2⟩ := (rch_runs R lq L (by omega) k).mp h
    have l1 := (List.getElem?_eq_some_iff.mp e).1
    have l2 := R.len
    exact ⟨rs, a, b, R, by omega, by rw [show rs.length - 1 = L by omega]; exact e, h1, h2⟩
  rcases D with ⟨e, no⟩ | ⟨T, x, z, e, hT, rE, bd⟩
  · refine .inl ⟨e, ?_⟩
    rcases M.2.1 with q | ⟨n, k, hn, hk, _⟩
    · exact q
    · obtain ⟨rs, a, b, R, l, _⟩ := rr n k hk
      exact (no n rs hn R l).elim
  · obtain ⟨A, n, last, a, b, rs, ex, hn, R, l, e1, ho, rA, ez⟩ := id rE
    have ab : a ≤ b := by
      cases L with
      | zero =>
        rw [show rs.length - 1 = 0 by omega, R.first] at e1
        cases e1
        exact Nat.le_refl _
      | succ L =>
        obtain ⟨w1, hw1⟩ : ∃ w, ws[L]? = some w := ⟨_, List.getElem?_eq_getElem (by omega)⟩
        obtain ⟨w2, hw2⟩ : ∃ w, ws[L + 1]? = some w := ⟨_, List.getElem?_eq_getElem (by omega)⟩
        obtain ⟨⟨a1, b1⟩, er⟩ : ∃ r, rs[L]? = some r := ⟨_, List.getElem?_eq_getElem (by omega)⟩
        have LL := R.step L a1 b1 a b w1 w2 er hw1 hw2 (by rw [show L + 1 = rs.length - 1 by omega]; exact e1)
        exact LL.2.2.1
    have rl : Rch ws n L last := (rch_runs R lq L (by omega) last).mpr ⟨a, b, by rw [show L = rs.length - 1 by omega]; exact e1, by omega, by omega⟩
    have m1 := M.2.2 n last hn rl
    have z0 : 0 ≤ z := by rw [ez]; exact Int.natCast_nonneg _
    have m2 : m ≤ z := by
      rcases M.2.1 with q | ⟨n', k', hn', hk', q⟩
      · omega
      · obtain ⟨rs', a', b', R', l', e', h1, h2⟩ := rr n' k' hk'
        have q2 := bd n' a' b' rs' hn' R' l' e'
        rw [q]
        simp only [drI] at q2 ⊢
        omega
    have em : z = m := by omega
    subst em
    exact .inr ⟨T, x, z0, e, hT, rE⟩

theorem pw_ltI {l : List Int} (h : l.Pairwise (· ≤ ·)) (n : l.Nodup) : l.Pairwise (· < ·) := (List.Pairwise.and h n).imp fun ⟨a, b⟩ => by omega
theorem sorted_uniq : ∀ {l m : List Int}, l.Pairwise (· < ·) → m.Pairwise (· < ·) → (∀ z, z ∈ l ↔ z ∈ m) → l = m
  | [], [], _, _, _ => rfl
  | [], b :: m, _, _, h => by have := (h b).mpr (by simp); simp at this
  | a :: l, [], _, _, h => by have := (h a).mp (by simp); simp at this
  | a :: l, b :: m, hl, hm, h => by
    obtain ⟨l1, l2⟩ := List.pairwise_cons.mp hl
    obtain ⟨m1, m2⟩ := List.pairwise_cons.mp hm
    have e : a = b := by
      rcases List.mem_cons.mp ((h a).mp (by simp)) with e | e
      · exact e
      · rcases List.mem_cons.mp ((h b).mpr (by simp)) with g | g
        · exact g.symm
        · have := m1 a e
          have := l1 b g
          omega
    subst e
    rw [sorted_uniq l2 m2 fun z => ?_]
    constructor
    · intro hz
      rcases List.mem_cons.mp ((h z).mp (List.mem_cons_of_mem _ hz)) with e | e
      · have := l1 z hz
        omega
      · exact e
    · intro hz
      rcases List.mem_cons.mp ((h z).mpr (List.mem_cons_of_mem _ hz)) with e | e
      · have := m1 z hz
        omega
      · exact e
/-- from a to b, as whole numbers -/
def rngI (a b : Nat) : List Int := (List.range (b + 1 - a)).map fun j => ((a + j : Nat) : Int)
theorem rngI_mem {a b : Nat} {z : Int} : z ∈ rngI a b ↔ ∃ k : Nat, z = (k : Int) ∧ a ≤ k ∧ k ≤ b := by
  unfold rngI
  rw [List.mem_map]
  constructor
  · rintro ⟨j, hj, rfl⟩
    rw [List.mem_range] at hj
    exact ⟨a + j, rfl, by omega, by omega⟩
  · rintro ⟨k, rfl, h1, h2⟩
    exact ⟨k - a, by rw [List.mem_range]; omega, by rw [show a + (k - a) = k by omega]⟩
theorem rngI_pw (a b : Nat) : (rngI a b).Pairwise (· < ·) := by
  unfold rngI
  rw [List.pairwise_map]
  exact List.pairwise_lt_range.imp fun {x y} h => by omega
theorem rngI_len (a b : Nat) : (rngI a b).length = b + 1 - a := by unfold rngI; rw [List.length_map, List.length_range]
theorem rngI_get {a b i : Nat} (h : i < b + 1 - a) : (rngI a b)[i]? = some ((a + i : Nat) : Int) := by
  unfold rngI
  rw [List.getElem?_map, List.getElem?_range h]
  rfl
/-- of two ways that follow one another: the sizes that a measure leads to -/
def Lnk (ws : List LQ) (i k l : Nat) : Prop := ∃ w w' x, ws[i]? = some w ∧ ws[i + 1]? = some w' ∧ w.F x = some k ∧ w'.F x = some l
/-- a dict of dicts: what leads to what -/
def EdgeAt (H : Hp) (p : Addr) (P : Nat → Nat → Prop) : Prop := ∃ kvs : List (Key × V), H p = some (.dK kvs) ∧ KeysZ kvs (fun z => ∃ k l : Nat, z = (k : Int) ∧ P k l) ∧ ∀ kv ∈ kvs, ∃ (a : Addr) (k : Nat) (kv2 : List (Key × V)), kv = (Sum.inl (k : Int), .ref a) ∧ H a = some (.dK kv2) ∧ KeysZ kv2 (fun z => ∃ l : Nat, z = (l : Int) ∧ P k l)
theorem EdgeAt.same {H H' : Hp} {p : Addr} {P : Nat → Nat → Prop} (a : EdgeAt H p P) (s : Same H H') : EdgeAt H' p P := by
  obtain ⟨kvs, h1, h2, h3⟩ := a
  refine ⟨kvs, s _ _ h1, h2, fun kv h => ?_⟩
  obtain ⟨a, k, kv2, e, g1, g2⟩ := h3 kv h
  exact ⟨a, k, kv2, e, s _ _ g1, g2⟩
theorem EdgeAt.imp {H : Hp} {p : Addr} {P P' : Nat → Nat → Prop} (a : EdgeAt H p P) (h : ∀ k l, P k l ↔ P' k l) : EdgeAt H p P' := by
  have e : P = P' := funext fun k => funext fun l => propext (h k l)
  exact e ▸ a
theorem EdgeAt.upd {H : Hp} {p G : Addr} {u : HO} {xs : List V} {P : Nat → Nat → Prop} (a : EdgeAt H p P) (hG : H G = some (.lst xs)) : EdgeAt (upd H G u) p P := by
  obtain ⟨kvs, h1, h2, h3⟩ := a
  have ne : ∀ (b : Addr) (k : List (Key × V)), H b = some (.dK k) → b ≠ G := fun b k h q => by rw [q, hG] at h; cases h
  refine ⟨kvs, by rw [upd_ne (ne p kvs h1)]; exact h1, h2, fun kv h => ?_⟩
  obtain ⟨a, k, kv2, e, g1, g2⟩ := h3 kv h
  exact ⟨a, k, kv2, e, by rw [upd_ne (ne a kv2 g1)]; exact g1, g2⟩
theorem LeadJ.edge {H0 H : Hp} {D : Addr} {kvs : List (Key × V)} {P : Nat → Nat → Prop} (a : LeadJ H0 H D kvs (fun z => ∃ k l : Nat, z = (k : Int) ∧ P k l) P) : EdgeAt H D P := ⟨kvs, a.at_, a.keys, fun kv h => by
  obtain ⟨b, k, kv2, e, g1, _, _, g2⟩ := a.inn kv h
  exact ⟨b, k, kv2, e, g1, g2⟩⟩
theorem PrL.tup {H H' : Hp} {ps : List V} {rs : List (Nat × Nat)} (a : PrL H ps rs) (h : ∀ t zs, H t = some (.tup zs) → H' t = some (.tup zs)) : PrL H' ps rs := ⟨a.1, fun i x y e => by
  obtain ⟨t, e1, e2⟩ := a.2 i x y e
  exact ⟨t, e1, h _ _ e2⟩⟩
theorem tup_upd {H : Hp} {D : Addr} {o u : HO} (hD : H D = some o) (n : ∀ zs, o ≠ .tup zs) : ∀ t zs, H t = some (.tup zs) → upd H D u t = some (.tup zs) := fun t zs e => by
  by_cases q : t = D
  · subst q
    rw [hD] at e
    exact absurd (Option.some.inj e) (n zs)
  · rw [upd_ne q]
    exact e
theorem rch_lnk {ws : List LQ} {n i l : Nat} : Rch ws n (i + 1) l ↔ ∃ k, Rch ws n i k ∧ Lnk ws i k l := by
  constructor
  · rintro ⟨k, w, w', x, h, r⟩
    exact ⟨k, h, w, w', x, r⟩
  · rintro ⟨k, h, w, w', x, r⟩
    exact ⟨k, w, w', x, h, r⟩
theorem rgV_rng (c d : Nat) : rgV (c : Int) ((d : Int) + 1) = (rngI c d).map V.int := by
  unfold rgV rngI
  rw [List.map_map]
  rw [show ((d : Int) + 1 - (c : Int)).toNat = d + 1 - c by omega]
  exact List.map_congr_left fun j _ => congrArg V.int (by show (c : Int) + (j : Int) = ((c + j : Nat) : Int); omega)
theorem ends_gen2 {tb : TS} {D : Ends} {σ : L2.St} {H : Hp} {I : L2.St → Hp → Prop} {R : VK} (e : D.nx = I) (e2 : D.rt = R) (h : ∀ D' : Ends, D'.nx = I → D'.rt = R → tb D' σ H) : tb D σ H := h D e e2
abbrev LD.q (d : LD) : LQ := ⟨zR d.ms, d.r, oR d.lo, oR d.hi⟩
abbrev wayL (ds : List LD) : List LQ := (ds ++ ds.take 1).map LD.q
theorem dr_abs (e n : Nat) : (if (e : Int) - (n : Int) < 0 then -((e : Int) - (n : Int)) else (e : Int) - (n : Int)) = drI e n := by
  show _ = (((e : Int) - (n : Int)).natAbs : Int)
  split <;> omega
theorem wayL_eq (ds : List LD) : wayL ds = ds.map LD.q ++ (ds.map LD.q).take 1 := by
  show (ds ++ ds.take 1).map LD.q = _
  rw [List.map_append, List.map_take]
theorem DriftAt.nl36 {CM : Addr} {H H' : Hp} {k : Nat} {ws : List LQ} {N : Nat} {v : V} (a : DriftAt CM H k ws N v) (s : Nl H H') : DriftAt CM H' k ws N v := by
  rcases a with h | ⟨T, x, z, e, hT, rE, b⟩
  · exact .inl h
  · exact .inr ⟨T, x, z, e, s _ _ hT rfl, rE.nl s (Nat.le_refl _), b⟩
theorem max_of : ∀ (x : Int) (t : List Int), ∃ m, m ∈ x :: t ∧ ∀ y ∈ x :: t, y ≤ m
  | x, [] => ⟨x, by simp, fun y hy => by simp at hy; omega⟩
  | x, a :: t => by
    obtain ⟨m, h1, h2⟩ := max_of a t
    by_cases c : x ≤ m
    · exact ⟨m, List.mem_cons_of_mem _ h1, fun y hy => by
        rcases List.mem_cons.mp hy with rfl | hy
        · exact c
        · exact h2 y hy⟩
    · exact ⟨x, by simp, fun y hy => by
        rcases List.mem_cons.mp hy with rfl | hy
        · exact Int.le_refl _
        · have := h2 y hy
          omega⟩
theorem dp_pair {K : PySem.W.Frag} {H : Hp} {T R : Addr} {ps : List V} {rs : List (Nat × Nat)} {s : Str} (hT : H T = some (.tup [.str s, .ref R])) (hR : H R = some (.tup ps)) (p : PrL H ps rs) : Dp K H (.ref T) (.tuple [.str s, runsD rs]) := .tup (SqT.of hT) (.cons (.str s) (.cons (PrL.dp hR p) .nil))
theorem sh_pair {s : Str} (hs : PyData.strOk s = true) (rs : List (Nat × Nat)) : SeqAt.shaped (.tuple [.str s, runsD rs]) = true := by
  have h := rows_depth prI rs
  have e1 : (PyData.tuple [.str s, runsD rs]).depth ≤ 64 := by
    have e2 : (runsD rs).depth ≤ 8 := by
      show PyData.depthAll (rs.map fun l => intsD (prI l)) + 1 ≤ 8
      omega
    have e3 : (PyData.str s).depth ≤ 8 := by simp [PyData.depth]
    show max (PyData.str s).depth (max (runsD rs).depth 0) + 1 ≤ 64
    omega
  have e2 : (runsD rs).canLay0 = true := rows_lay prI rs
  unfold SeqAt.shaped
  rw [decide_eq_true e1, show (PyData.tuple [.str s, runsD rs]).canLay0 = true from by simp [PyData.canLay0, PyData.canLayAll0, hs, e2]]
  rfl
theorem eqv_pairR (s : Str) (rs : List (Nat × Nat)) : PyData.eqv (.tuple [.str s, runsD rs]) (.tuple [.str s, runsD rs]) = true := by
  have h := eqv_runs rs
  simp only [PyData.eqv, PyData.eqvAll, h]
  simp

def sp_start36 (K : PySem.W.Frag) (CM CL : Addr) : Sp := fun vs H Q _ => ∃ (W O G : Addr) (os gs : List V) (k n : Nat) (ws : List LQ) (w0 : LQ), vs = [.ref W, .ref O, .ref G, .int n] ∧ WayAt K CM CL H W k ws ∧ ws[0]? = some w0 ∧ n < w0.zs.length ∧ 0 < k ∧ k ≤ 200 ∧ ws.length ≤ 20 ∧ (∀ w ∈ ws ++ ws.take 1, LadQ w.zs w.r w.lo w.hi ∧ w.zs.length ≤ 24) ∧ H O = some (.lst os) ∧ os.length = (ws ++ ws.take 1).length ∧ (∀ (i : Nat) (w : LQ), (ws ++ ws.take 1)[i]? = some w → ∃ p : Addr, os[i]? = some (.ref p) ∧ LadAt K CM CL H p (4 * k + 36) w.zs w.r w.lo w.hi) ∧
  H G = some (.lst gs) ∧ gs.length = ws.length ∧ (∀ i, i < ws.length → ∃ p : Addr, gs[i]? = some (.ref p) ∧ EdgeAt H p (Lnk (ws ++ ws.take 1) i)) ∧
  ∀ (D : Addr) (zs : List Int) (H' : Hp), H D = none → Same H H' → H' D = some (.lst (zs.map V.int)) → zs.length ≤ 24 → (∀ z, z ∈ zs ↔ ∃ l : Nat, z = drI l n ∧ Rch (ws ++ ws.take 1) n ws.length l) → Q (.ref D) H'

def sp_lright36 : Sp := fun vs H Q _ => ∃ (D : Addr) (ps : List V) (ds : List LD), vs = [.ref D] ∧ H D = some (.lst ps) ∧ ps.length = ds.length ∧ (∀ (i : Nat) (d : LD), ds[i]? = some d → ∃ p : Addr, ps[i]? = some (.ref p) ∧ LdAt H p d ∧ LdG d) ∧ 2 ≤ ds.length ∧ ds.length ≤ 4 ∧ ∀ H', Same H H' → Q (.bl true) H'
theorem lds_of36 {H : Hp} : ∀ {ys : List V}, (∀ v ∈ ys, LdV LdG H v) → ∃ ds : List LD, ys.length = ds.length ∧ ∀ (i : Nat) (d : LD), ds[i]? = some d → ∃ p : Addr, ys[i]? = some (.ref p) ∧ LdAt H p d ∧ LdG d
  | [], _ => ⟨[], rfl, fun i d e => by simp at e⟩
  | v :: t, h => by
    obtain ⟨ds, l, g⟩ := lds_of36 (ys := t) fun w hw => h w (List.mem_cons_of_mem _ hw)
    obtain ⟨p, d, rfl, e1, e2⟩ := h v (List.mem_cons_self ..)
    refine ⟨d :: ds, by rw [List.length_cons, List.length_cons, l], fun i x e => ?_⟩
    cases i with
    | zero => cases e; exact ⟨p, rfl, e1, e2⟩
    | succ i => exact g i x (by simpa using e)


theorem b_is_whole_1 {K : PySem.W.Frag} {mg : Str → Option Value} {φ : Fds} (T : Txt K mg φ) : ∃ ds, Vals ([] : List V) ds ∧ Binds K φ.is_whole p_is_whole ds :=
  ⟨[], .nil, T.f_is_whole.bindsN fun _ _ _ _ _ _ us hl => match us, hl with | [_], _ => rfl⟩
theorem b_common_part_2 {K : PySem.W.Frag} {mg : Str → Option Value} {φ : Fds} (T : Txt K mg φ) : ∃ ds, Vals ([] : List V) ds ∧ Binds K φ.common_part p_common_part ds :=
  ⟨[], .nil, T.f_common_part.bindsN fun _ _ _ _ _ _ us hl => match us, hl with | [_, _], _ => rfl⟩
theorem b_Measure_is_below_2 {K : PySem.W.Frag} {mg : Str → Option Value} {φ : Fds} (T : Txt K mg φ) : ∃ ds, Vals ([V.bl false] : List V) ds ∧ Binds K φ.Measure_is_below p_Measure_is_below ds :=
  T.f_Measure_is_below.binds1 2 0 (by simp) rfl fun _ _ _ _ _ _ _ us its h1 h2 => match us, its, h1, h2 with | [_, _], [_], _, _ => ⟨_, rfl, rfl⟩
theorem b_Measure_is_below_3 {K : PySem.W.Frag} {mg : Str → Option Value} {φ : Fds} (T : Txt K mg φ) : ∃ ds, Vals ([] : List V) ds ∧ Binds K φ.Measure_is_below p_Measure_is_below ds :=
  T.f_Measure_is_below.binds1 3 1 (by simp) rfl fun _ _ _ _ _ _ _ us its h1 h2 => match us, its, h1, h2 with | [_, _, _], [_], _, _ => ⟨_, rfl, rfl⟩
theorem b_are_marks_1 {K : PySem.W.Frag} {mg : Str → Option Value} {φ : Fds} (T : Txt K mg φ) : ∃ ds, Vals ([] : List V) ds ∧ Binds K φ.are_marks p_are_marks ds :=
  ⟨[], .nil, T.f_are_marks.bindsN fun _ _ _ _ _ _ us hl => match us, hl with | [_], _ => rfl⟩
theorem b_is_rule_1 {K : PySem.W.Frag} {mg : Str → Option Value} {φ : Fds} (T : Txt K mg φ) : ∃ ds, Vals ([] : List V) ds ∧ Binds K φ.is_rule p_is_rule ds :=
  ⟨[], .nil, T.f_is_rule.bindsN fun _ _ _ _ _ _ us hl => match us, hl with | [_], _ => rfl⟩
theorem b_is_measure_or_none_1 {K : PySem.W.Frag} {mg : Str → Option Value} {φ : Fds} (T : Txt K mg φ) : ∃ ds, Vals ([] : List V) ds ∧ Binds K φ.is_measure_or_none p_is_measure_or_none ds :=
  ⟨[], .nil, T.f_is_measure_or_none.bindsN fun _ _ _ _ _ _ us hl => match us, hl with | [_], _ => rfl⟩
theorem b_is_span_2 {K : PySem.W.Frag} {mg : Str → Option Value} {φ : Fds} (T : Txt K mg φ) : ∃ ds, Vals ([] : List V) ds ∧ Binds K φ.is_span p_is_span ds :=
  ⟨[], .nil, T.f_is_span.bindsN fun _ _ _ _ _ _ us hl => match us, hl with | [_, _], _ => rfl⟩
theorem b_slip_of_1 {K : PySem.W.Frag} {mg : Str → Option Value} {φ : Fds} (T : Txt K mg φ) : ∃ ds, Vals ([] : List V) ds ∧ Binds K φ.slip_of p_slip_of ds :=
  ⟨[], .nil, T.f_slip_of.bindsN fun _ _ _ _ _ _ us hl => match us, hl with | [_], _ => rfl⟩
theorem b_Measure_init_3 {K : PySem.W.Frag} {mg : Str → Option Value} {φ : Fds} (T : Txt K mg φ) : ∃ ds, Vals ([] : List V) ds ∧ Binds K φ.Measure_init p_Measure_init ds :=
  T.f_Measure_init.binds1 3 1 (by simp) rfl fun _ _ _ _ _ _ _ us its h1 h2 => match us, its, h1, h2 with | [_, _, _], [_], _, _ => ⟨_, rfl, rfl⟩
theorem b_Measure_parted_1 {K : PySem.W.Frag} {mg : Str → Option Value} {φ : Fds} (T : Txt K mg φ) : ∃ ds, Vals ([V.int 2] : List V) ds ∧ Binds K φ.Measure_parted p_Measure_parted ds :=
  T.f_Measure_parted.binds1 1 0 (by simp) rfl fun _ _ _ _ _ _ _ us its h1 h2 => match us, its, h1, h2 with | [_], [_], _, _ => ⟨_, rfl, rfl⟩
theorem b_Measure_plus_2 {K : PySem.W.Frag} {mg : Str → Option Value} {φ : Fds} (T : Txt K mg φ) : ∃ ds, Vals ([] : List V) ds ∧ Binds K φ.Measure_plus p_Measure_plus ds :=
  ⟨[], .nil, T.f_Measure_plus.bindsN fun _ _ _ _ _ _ us hl => match us, hl with | [_, _], _ => rfl⟩
theorem b_midsts_of_1 {K : PySem.W.Frag} {mg : Str → Option Value} {φ : Fds} (T : Txt K mg φ) : ∃ ds, Vals ([] : List V) ds ∧ Binds K φ.midsts_of p_midsts_of ds :=
  ⟨[], .nil, T.f_midsts_of.bindsN fun _ _ _ _ _ _ us hl => match us, hl with | [_], _ => rfl⟩
theorem b_size_by_rule_3 {K : PySem.W.Frag} {mg : Str → Option Value} {φ : Fds} (T : Txt K mg φ) : ∃ ds, Vals ([] : List V) ds ∧ Binds K φ.size_by_rule p_size_by_rule ds :=
  ⟨[], .nil, T.f_size_by_rule.bindsN fun _ _ _ _ _ _ us hl => match us, hl with | [_, _, _], _ => rfl⟩
theorem b_Measure_eq_2 {K : PySem.W.Frag} {mg : Str → Option Value} {φ : Fds} (T : Txt K mg φ) : ∃ ds, Vals ([] : List V) ds ∧ Binds K φ.Measure_eq p_Measure_eq ds :=
  ⟨[], .nil, T.f_Measure_eq.bindsN fun _ _ _ _ _ _ us hl => match us, hl with | [_, _], _ => rfl⟩
theorem b_is_empty_4 {K : PySem.W.Frag} {mg : Str → Option Value} {φ : Fds} (T : Txt K mg φ) : ∃ ds, Vals ([] : List V) ds ∧ Binds K φ.is_empty p_is_empty ds :=
  ⟨[], .nil, T.f_is_empty.bindsN fun _ _ _ _ _ _ us hl => match us, hl with | [_, _, _, _], _ => rfl⟩
theorem b_cut_low_2 {K : PySem.W.Frag} {mg : Str → Option Value} {φ : Fds} (T : Txt K mg φ) : ∃ ds, Vals ([] : List V) ds ∧ Binds K φ.cut_low p_cut_low ds :=
  ⟨[], .nil, T.f_cut_low.bindsN fun _ _ _ _ _ _ us hl => match us, hl with | [_, _], _ => rfl⟩
theorem b_cut_high_2 {K : PySem.W.Frag} {mg : Str → Option Value} {φ : Fds} (T : Txt K mg φ) : ∃ ds, Vals ([] : List V) ds ∧ Binds K φ.cut_high p_cut_high ds :=
  ⟨[], .nil, T.f_cut_high.bindsN fun _ _ _ _ _ _ us hl => match us, hl with | [_, _], _ => rfl⟩
theorem b_Stretch_init_5 {K : PySem.W.Frag} {mg : Str → Option Value} {φ : Fds} (T : Txt K mg φ) : ∃ ds, Vals ([] : List V) ds ∧ Binds K φ.Stretch_init p_Stretch_init ds :=
  T.f_Stretch_init.binds1 5 2 (by simp) rfl fun _ _ _ _ _ _ _ us its h1 h2 => match us, its, h1, h2 with | [_, _, _, _, _], [_, _], _, _ => ⟨_, rfl, rfl⟩
theorem b_Stretch_init_3 {K : PySem.W.Frag} {mg : Str → Option Value} {φ : Fds} (T : Txt K mg φ) : ∃ ds, Vals ([V.bl false, V.bl true] : List V) ds ∧ Binds K φ.Stretch_init p_Stretch_init ds :=
  T.f_Stretch_init.binds1 3 0 (by simp) rfl fun _ _ _ _ _ _ _ us its h1 h2 => match us, its, h1, h2 with | [_, _, _], [_, _], _, _ => ⟨_, rfl, rfl⟩
theorem b_end_at_2 {K : PySem.W.Frag} {mg : Str → Option Value} {φ : Fds} (T : Txt K mg φ) : ∃ ds, Vals ([] : List V) ds ∧ Binds K φ.end_at p_end_at ds :=
  ⟨[], .nil, T.f_end_at.bindsN fun _ _ _ _ _ _ us hl => match us, hl with | [_, _], _ => rfl⟩
theorem b_has_size_2 {K : PySem.W.Frag} {mg : Str → Option Value} {φ : Fds} (T : Txt K mg φ) : ∃ ds, Vals ([] : List V) ds ∧ Binds K φ.has_size p_has_size ds :=
  ⟨[], .nil, T.f_has_size.bindsN fun _ _ _ _ _ _ us hl => match us, hl with | [_, _], _ => rfl⟩
theorem b_Stretch_cut_2 {K : PySem.W.Frag} {mg : Str → Option Value} {φ : Fds} (T : Txt K mg φ) : ∃ ds, Vals ([] : List V) ds ∧ Binds K φ.Stretch_cut p_Stretch_cut ds :=
  ⟨[], .nil, T.f_Stretch_cut.bindsN fun _ _ _ _ _ _ us hl => match us, hl with | [_, _], _ => rfl⟩
theorem b_stretch_by_rule_3 {K : PySem.W.Frag} {mg : Str → Option Value} {φ : Fds} (T : Txt K mg φ) : ∃ ds, Vals ([] : List V) ds ∧ Binds K φ.stretch_by_rule p_stretch_by_rule ds :=
  ⟨[], .nil, T.f_stretch_by_rule.bindsN fun _ _ _ _ _ _ us hl => match us, hl with | [_, _, _], _ => rfl⟩
theorem b_Measure_init_2 {K : PySem.W.Frag} {mg : Str → Option Value} {φ : Fds} (T : Txt K mg φ) : ∃ ds, Vals ([V.int 1] : List V) ds ∧ Binds K φ.Measure_init p_Measure_init ds :=
  T.f_Measure_init.binds1 2 0 (by simp) rfl fun _ _ _ _ _ _ _ us its h1 h2 => match us, its, h1, h2 with | [_, _], [_], _, _ => ⟨_, rfl, rfl⟩
theorem b_Measure_minus_2 {K : PySem.W.Frag} {mg : Str → Option Value} {φ : Fds} (T : Txt K mg φ) : ∃ ds, Vals ([] : List V) ds ∧ Binds K φ.Measure_minus p_Measure_minus ds :=
  ⟨[], .nil, T.f_Measure_minus.bindsN fun _ _ _ _ _ _ us hl => match us, hl with | [_, _], _ => rfl⟩
theorem b_some_measure_1 {K : PySem.W.Frag} {mg : Str → Option Value} {φ : Fds} (T : Txt K mg φ) : ∃ ds, Vals ([] : List V) ds ∧ Binds K φ.some_measure p_some_measure ds :=
  ⟨[], .nil, T.f_some_measure.bindsN fun _ _ _ _ _ _ us hl => match us, hl with | [_], _ => rfl⟩
theorem b_Stretch_shared_2 {K : PySem.W.Frag} {mg : Str → Option Value} {φ : Fds} (T : Txt K mg φ) : ∃ ds, Vals ([] : List V) ds ∧ Binds K φ.Stretch_shared p_Stretch_shared ds :=
  ⟨[], .nil, T.f_Stretch_shared.bindsN fun _ _ _ _ _ _ us hl => match us, hl with | [_, _], _ => rfl⟩
theorem b_Ladder_stretch_2 {K : PySem.W.Frag} {mg : Str → Option Value} {φ : Fds} (T : Txt K mg φ) : ∃ ds, Vals ([] : List V) ds ∧ Binds K φ.Ladder_stretch p_Ladder_stretch ds :=
  ⟨[], .nil, T.f_Ladder_stretch.bindsN fun _ _ _ _ _ _ us hl => match us, hl with | [_, _], _ => rfl⟩
theorem b_Ladder_len_1 {K : PySem.W.Frag} {mg : Str → Option Value} {φ : Fds} (T : Txt K mg φ) : ∃ ds, Vals ([] : List V) ds ∧ Binds K φ.Ladder_len p_Ladder_len ds :=
  ⟨[], .nil, T.f_Ladder_len.bindsN fun _ _ _ _ _ _ us hl => match us, hl with | [_], _ => rfl⟩
theorem b_shared_by_2 {K : PySem.W.Frag} {mg : Str → Option Value} {φ : Fds} (T : Txt K mg φ) : ∃ ds, Vals ([] : List V) ds ∧ Binds K φ.shared_by p_shared_by ds :=
  ⟨[], .nil, T.f_shared_by.bindsN fun _ _ _ _ _ _ us hl => match us, hl with | [_, _], _ => rfl⟩
theorem b_common_measures_3 {K : PySem.W.Frag} {mg : Str → Option Value} {φ : Fds} (T : Txt K mg φ) : ∃ ds, Vals ([] : List V) ds ∧ Binds K φ.common_measures p_common_measures ds :=
  ⟨[], .nil, T.f_common_measures.bindsN fun _ _ _ _ _ _ us hl => match us, hl with | [_, _, _], _ => rfl⟩
theorem b_led_3 {K : PySem.W.Frag} {mg : Str → Option Value} {φ : Fds} (T : Txt K mg φ) : ∃ ds, Vals ([] : List V) ds ∧ Binds K φ.led p_led ds :=
  ⟨[], .nil, T.f_led.bindsN fun _ _ _ _ _ _ us hl => match us, hl with | [_, _, _], _ => rfl⟩
theorem b_run_behind_3 {K : PySem.W.Frag} {mg : Str → Option Value} {φ : Fds} (T : Txt K mg φ) : ∃ ds, Vals ([] : List V) ds ∧ Binds K φ.run_behind p_run_behind ds :=
  ⟨[], .nil, T.f_run_behind.bindsN fun _ _ _ _ _ _ us hl => match us, hl with | [_, _, _], _ => rfl⟩
theorem b_size_ahead_4 {K : PySem.W.Frag} {mg : Str → Option Value} {φ : Fds} (T : Txt K mg φ) : ∃ ds, Vals ([] : List V) ds ∧ Binds K φ.size_ahead p_size_ahead ds :=
  ⟨[], .nil, T.f_size_ahead.bindsN fun _ _ _ _ _ _ us hl => match us, hl with | [_, _, _, _], _ => rfl⟩
theorem b_sizes_to_3 {K : PySem.W.Frag} {mg : Str → Option Value} {φ : Fds} (T : Txt K mg φ) : ∃ ds, Vals ([] : List V) ds ∧ Binds K φ.sizes_to p_sizes_to ds :=
  ⟨[], .nil, T.f_sizes_to.bindsN fun _ _ _ _ _ _ us hl => match us, hl with | [_, _, _], _ => rfl⟩
theorem b_way_of_1 {K : PySem.W.Frag} {mg : Str → Option Value} {φ : Fds} (T : Txt K mg φ) : ∃ ds, Vals ([] : List V) ds ∧ Binds K φ.way_of p_way_of ds :=
  ⟨[], .nil, T.f_way_of.bindsN fun _ _ _ _ _ _ us hl => match us, hl with | [_], _ => rfl⟩
theorem b_runs_of_2 {K : PySem.W.Frag} {mg : Str → Option Value} {φ : Fds} (T : Txt K mg φ) : ∃ ds, Vals ([] : List V) ds ∧ Binds K φ.runs_of p_runs_of ds :=
  ⟨[], .nil, T.f_runs_of.bindsN fun _ _ _ _ _ _ us hl => match us, hl with | [_, _], _ => rfl⟩
theorem b_row_to_3 {K : PySem.W.Frag} {mg : Str → Option Value} {φ : Fds} (T : Txt K mg φ) : ∃ ds, Vals ([] : List V) ds ∧ Binds K φ.row_to p_row_to ds :=
  ⟨[], .nil, T.f_row_to.bindsN fun _ _ _ _ _ _ us hl => match us, hl with | [_, _, _], _ => rfl⟩
theorem b_Ladder_size_2 {K : PySem.W.Frag} {mg : Str → Option Value} {φ : Fds} (T : Txt K mg φ) : ∃ ds, Vals ([] : List V) ds ∧ Binds K φ.Ladder_size p_Ladder_size ds :=
  ⟨[], .nil, T.f_Ladder_size.bindsN fun _ _ _ _ _ _ us hl => match us, hl with | [_, _], _ => rfl⟩
theorem b_are_wholes_1 {K : PySem.W.Frag} {mg : Str → Option Value} {φ : Fds} (T : Txt K mg φ) : ∃ ds, Vals ([] : List V) ds ∧ Binds K φ.are_wholes p_are_wholes ds :=
  ⟨[], .nil, T.f_are_wholes.bindsN fun _ _ _ _ _ _ us hl => match us, hl with | [_], _ => rfl⟩
theorem b_is_tuple_of_2 {K : PySem.W.Frag} {mg : Str → Option Value} {φ : Fds} (T : Txt K mg φ) : ∃ ds, Vals ([] : List V) ds ∧ Binds K φ.is_tuple_of p_is_tuple_of ds :=
  ⟨[], .nil, T.f_is_tuple_of.bindsN fun _ _ _ _ _ _ us hl => match us, hl with | [_, _], _ => rfl⟩
theorem b_comes_to_3 {K : PySem.W.Frag} {mg : Str → Option Value} {φ : Fds} (T : Txt K mg φ) : ∃ ds, Vals ([] : List V) ds ∧ Binds K φ.comes_to p_comes_to ds :=
  ⟨[], .nil, T.f_comes_to.bindsN fun _ _ _ _ _ _ us hl => match us, hl with | [_, _, _], _ => rfl⟩
theorem b_are_steps_3 {K : PySem.W.Frag} {mg : Str → Option Value} {φ : Fds} (T : Txt K mg φ) : ∃ ds, Vals ([] : List V) ds ∧ Binds K φ.are_steps p_are_steps ds :=
  ⟨[], .nil, T.f_are_steps.bindsN fun _ _ _ _ _ _ us hl => match us, hl with | [_, _, _], _ => rfl⟩
theorem b_are_sizes_3 {K : PySem.W.Frag} {mg : Str → Option Value} {φ : Fds} (T : Txt K mg φ) : ∃ ds, Vals ([] : List V) ds ∧ Binds K φ.are_sizes p_are_sizes ds :=
  ⟨[], .nil, T.f_are_sizes.bindsN fun _ _ _ _ _ _ us hl => match us, hl with | [_, _, _], _ => rfl⟩
theorem b_are_runs_2 {K : PySem.W.Frag} {mg : Str → Option Value} {φ : Fds} (T : Txt K mg φ) : ∃ ds, Vals ([] : List V) ds ∧ Binds K φ.are_runs p_are_runs ds :=
  ⟨[], .nil, T.f_are_runs.bindsN fun _ _ _ _ _ _ us hl => match us, hl with | [_, _], _ => rfl⟩
theorem b_is_word_2 {K : PySem.W.Frag} {mg : Str → Option Value} {φ : Fds} (T : Txt K mg φ) : ∃ ds, Vals ([] : List V) ds ∧ Binds K φ.is_word p_is_word ds :=
  ⟨[], .nil, T.f_is_word.bindsN fun _ _ _ _ _ _ us hl => match us, hl with | [_, _], _ => rfl⟩
theorem b_is_row_4 {K : PySem.W.Frag} {mg : Str → Option Value} {φ : Fds} (T : Txt K mg φ) : ∃ ds, Vals ([] : List V) ds ∧ Binds K φ.is_row p_is_row ds :=
  ⟨[], .nil, T.f_is_row.bindsN fun _ _ _ _ _ _ us hl => match us, hl with | [_, _, _, _], _ => rfl⟩
theorem b_is_stop_2 {K : PySem.W.Frag} {mg : Str → Option Value} {φ : Fds} (T : Txt K mg φ) : ∃ ds, Vals ([] : List V) ds ∧ Binds K φ.is_stop p_is_stop ds :=
  ⟨[], .nil, T.f_is_stop.bindsN fun _ _ _ _ _ _ us hl => match us, hl with | [_, _], _ => rfl⟩
theorem b_is_return_3 {K : PySem.W.Frag} {mg : Str → Option Value} {φ : Fds} (T : Txt K mg φ) : ∃ ds, Vals ([] : List V) ds ∧ Binds K φ.is_return p_is_return ds :=
  ⟨[], .nil, T.f_is_return.bindsN fun _ _ _ _ _ _ us hl => match us, hl with | [_, _, _], _ => rfl⟩
theorem b_round_from_2 {K : PySem.W.Frag} {mg : Str → Option Value} {φ : Fds} (T : Txt K mg φ) : ∃ ds, Vals ([] : List V) ds ∧ Binds K φ.round_from p_round_from ds :=
  ⟨[], .nil, T.f_round_from.bindsN fun _ _ _ _ _ _ us hl => match us, hl with | [_, _], _ => rfl⟩
theorem b_end_rows_2 {K : PySem.W.Frag} {mg : Str → Option Value} {φ : Fds} (T : Txt K mg φ) : ∃ ds, Vals ([] : List V) ds ∧ Binds K φ.end_rows p_end_rows ds :=
  ⟨[], .nil, T.f_end_rows.bindsN fun _ _ _ _ _ _ us hl => match us, hl with | [_, _], _ => rfl⟩
theorem b_drift_of_1 {K : PySem.W.Frag} {mg : Str → Option Value} {φ : Fds} (T : Txt K mg φ) : ∃ ds, Vals ([] : List V) ds ∧ Binds K φ.drift_of p_drift_of ds :=
  ⟨[], .nil, T.f_drift_of.bindsN fun _ _ _ _ _ _ us hl => match us, hl with | [_], _ => rfl⟩
theorem b_l_pick_2 {K : PySem.W.Frag} {mg : Str → Option Value} {φ : Fds} (T : Txt K mg φ) : ∃ ds, Vals ([] : List V) ds ∧ Binds K φ.l_pick p_l_pick ds :=
  ⟨[], .nil, T.f_l_pick.bindsN fun _ _ _ _ _ _ us hl => match us, hl with | [_, _], _ => rfl⟩
theorem b_l_parts_2 {K : PySem.W.Frag} {mg : Str → Option Value} {φ : Fds} (T : Txt K mg φ) : ∃ ds, Vals ([] : List V) ds ∧ Binds K φ.l_parts p_l_parts ds :=
  ⟨[], .nil, T.f_l_parts.bindsN fun _ _ _ _ _ _ us hl => match us, hl with | [_, _], _ => rfl⟩
theorem b_l_plus_2 {K : PySem.W.Frag} {mg : Str → Option Value} {φ : Fds} (T : Txt K mg φ) : ∃ ds, Vals ([] : List V) ds ∧ Binds K φ.l_plus p_l_plus ds :=
  ⟨[], .nil, T.f_l_plus.bindsN fun _ _ _ _ _ _ us hl => match us, hl with | [_, _], _ => rfl⟩
theorem b_Ladder_init_5 {K : PySem.W.Frag} {mg : Str → Option Value} {φ : Fds} (T : Txt K mg φ) : ∃ ds, Vals ([] : List V) ds ∧ Binds K φ.Ladder_init p_Ladder_init ds :=
  T.f_Ladder_init.binds1 5 3 (by simp) rfl fun _ _ _ _ _ _ _ us its h1 h2 => match us, its, h1, h2 with | [_, _, _, _, _], [_, _, _], _, _ => ⟨_, rfl, rfl⟩
theorem b_l_of_2 {K : PySem.W.Frag} {mg : Str → Option Value} {φ : Fds} (T : Txt K mg φ) : ∃ ds, Vals ([] : List V) ds ∧ Binds K φ.l_of p_l_of ds :=
  ⟨[], .nil, T.f_l_of.bindsN fun _ _ _ _ _ _ us hl => match us, hl with | [_, _], _ => rfl⟩
theorem b_l_mid_2 {K : PySem.W.Frag} {mg : Str → Option Value} {φ : Fds} (T : Txt K mg φ) : ∃ ds, Vals ([] : List V) ds ∧ Binds K φ.l_mid p_l_mid ds :=
  ⟨[], .nil, T.f_l_mid.bindsN fun _ _ _ _ _ _ us hl => match us, hl with | [_, _], _ => rfl⟩
theorem b_l_less_2 {K : PySem.W.Frag} {mg : Str → Option Value} {φ : Fds} (T : Txt K mg φ) : ∃ ds, Vals ([] : List V) ds ∧ Binds K φ.l_less p_l_less ds :=
  ⟨[], .nil, T.f_l_less.bindsN fun _ _ _ _ _ _ us hl => match us, hl with | [_, _], _ => rfl⟩
theorem b_l_scaled_2 {K : PySem.W.Frag} {mg : Str → Option Value} {φ : Fds} (T : Txt K mg φ) : ∃ ds, Vals ([] : List V) ds ∧ Binds K φ.l_scaled p_l_scaled ds :=
  ⟨[], .nil, T.f_l_scaled.bindsN fun _ _ _ _ _ _ us hl => match us, hl with | [_, _], _ => rfl⟩
theorem b_l_drawn_2 {K : PySem.W.Frag} {mg : Str → Option Value} {φ : Fds} (T : Txt K mg φ) : ∃ ds, Vals ([] : List V) ds ∧ Binds K φ.l_drawn p_l_drawn ds :=
  ⟨[], .nil, T.f_l_drawn.bindsN fun _ _ _ _ _ _ us hl => match us, hl with | [_, _], _ => rfl⟩
theorem b_l_rising_1 {K : PySem.W.Frag} {mg : Str → Option Value} {φ : Fds} (T : Txt K mg φ) : ∃ ds, Vals ([] : List V) ds ∧ Binds K φ.l_rising p_l_rising ds :=
  ⟨[], .nil, T.f_l_rising.bindsN fun _ _ _ _ _ _ us hl => match us, hl with | [_], _ => rfl⟩
theorem b_shows_round_3 {K : PySem.W.Frag} {mg : Str → Option Value} {φ : Fds} (T : Txt K mg φ) : ∃ ds, Vals ([] : List V) ds ∧ Binds K φ.shows_round p_shows_round ds :=
  ⟨[], .nil, T.f_shows_round.bindsN fun _ _ _ _ _ _ us hl => match us, hl with | [_, _, _], _ => rfl⟩
theorem b_l_rows_right_2 {K : PySem.W.Frag} {mg : Str → Option Value} {φ : Fds} (T : Txt K mg φ) : ∃ ds, Vals ([] : List V) ds ∧ Binds K φ.l_rows_right p_l_rows_right ds :=
  ⟨[], .nil, T.f_l_rows_right.bindsN fun _ _ _ _ _ _ us hl => match us, hl with | [_, _], _ => rfl⟩
theorem b_l_made_1 {K : PySem.W.Frag} {mg : Str → Option Value} {φ : Fds} (T : Txt K mg φ) : ∃ ds, Vals ([] : List V) ds ∧ Binds K φ.l_made p_l_made ds :=
  ⟨[], .nil, T.f_l_made.bindsN fun _ _ _ _ _ _ us hl => match us, hl with | [_], _ => rfl⟩
theorem b_l_tried_1 {K : PySem.W.Frag} {mg : Str → Option Value} {φ : Fds} (T : Txt K mg φ) : ∃ ds, Vals ([] : List V) ds ∧ Binds K φ.l_tried p_l_tried ds :=
  ⟨[], .nil, T.f_l_tried.bindsN fun _ _ _ _ _ _ us hl => match us, hl with | [_], _ => rfl⟩
theorem b_l_leads_2 {K : PySem.W.Frag} {mg : Str → Option Value} {φ : Fds} (T : Txt K mg φ) : ∃ ds, Vals ([] : List V) ds ∧ Binds K φ.l_leads p_l_leads ds :=
  ⟨[], .nil, T.f_l_leads.bindsN fun _ _ _ _ _ _ us hl => match us, hl with | [_, _], _ => rfl⟩
theorem b_l_start_right_4 {K : PySem.W.Frag} {mg : Str → Option Value} {φ : Fds} (T : Txt K mg φ) : ∃ ds, Vals ([] : List V) ds ∧ Binds K φ.l_start_right p_l_start_right ds :=
  ⟨[], .nil, T.f_l_start_right.bindsN fun _ _ _ _ _ _ us hl => match us, hl with | [_, _, _, _], _ => rfl⟩
theorem b_most_drift_1 {K : PySem.W.Frag} {mg : Str → Option Value} {φ : Fds} (T : Txt K mg φ) : ∃ ds, Vals ([] : List V) ds ∧ Binds K φ.most_drift p_most_drift ds :=
  ⟨[], .nil, T.f_most_drift.bindsN fun _ _ _ _ _ _ us hl => match us, hl with | [_], _ => rfl⟩
theorem b_l_begin_1 {K : PySem.W.Frag} {mg : Str → Option Value} {φ : Fds} (T : Txt K mg φ) : ∃ ds, Vals ([] : List V) ds ∧ Binds K φ.l_begin p_l_begin ds :=
  ⟨[], .nil, T.f_l_begin.bindsN fun _ _ _ _ _ _ us hl => match us, hl with | [_], _ => rfl⟩
theorem b_l_right_1 {K : PySem.W.Frag} {mg : Str → Option Value} {φ : Fds} (T : Txt K mg φ) : ∃ ds, Vals ([] : List V) ds ∧ Binds K φ.l_right p_l_right ds :=
  ⟨[], .nil, T.f_l_right.bindsN fun _ _ _ _ _ _ us hl => match us, hl with | [_], _ => rfl⟩
theorem b_l_ladders_3 {K : PySem.W.Frag} {mg : Str → Option Value} {φ : Fds} (T : Txt K mg φ) : ∃ ds, Vals ([] : List V) ds ∧ Binds K φ.l_ladders p_l_ladders ds :=
  ⟨[], .nil, T.f_l_ladders.bindsN fun _ _ _ _ _ _ us hl => match us, hl with | [_, _, _], _ => rfl⟩
theorem ok_is_whole {P : Program} {w : World} {K : PySem.W.Frag} {mg : Str → Option Value} {base : Heap} {φ : Fds} (T : Txt K mg φ) : FnOk P w K mg base CX0 1 (He.fAd K ("is_whole", none)) φ.is_whole p_is_whole sp_whole := by
  refine T.f_is_whole.ok sc_is_whole (fun vs H Q E h => ?_) (fun cdv A outer s H vs Q E hr h => ?_)
  · obtain ⟨n, rfl, k⟩ := h; rfl
  · obtain ⟨n, rfl, k⟩ := h
    refine ⟨_, PSs.nox (pss_one (ps_ret (pe_and (pe_callB (id := "isinstance") (isi (K := K)) (by rfl) T.z_isinstance (by decide +kernel) (pa_cons (pv 0) (pa_cons (pe_bltn (v := .ty "int") rfl T.z_int (by decide +kernel) rfl) pa_nil))) (pe_one (pe_not (pe_callB (id := "isinstance") (isi (K := K)) (by rfl) T.z_isinstance (by decide +kernel) (pa_cons (pv 0) (pa_cons (pe_bltn (v := .ty "bool") rfl T.z_bool (by decide +kernel) rfl) pa_nil)))))))), ?_⟩
    refine ⟨_, rfl, _, _, _, _, _, rfl, .ty _, .base (.int _), kit_ty (r := true) (by decide +kernel), _, rfl, ?_⟩
    refine iteT ?_
    refine ⟨_, rfl, _, _, _, _, _, rfl, .ty _, .base (.int _), kit_ty (r := false) (by decide +kernel), _, rfl, ?_⟩
    exact k
theorem ok_common_part {P : Program} {w : World} {K : PySem.W.Frag} {mg : Str → Option Value} {base : Heap} {φ : Fds} (T : Txt K mg φ) : FnOk P w K mg base CX0 1 (He.fAd K ("common_part", none)) φ.common_part p_common_part sp_common := by
  refine T.f_common_part.ok sc_common_part (fun vs H Q E h => ?_) (fun cdv A outer s H vs Q E hr h => ?_)
  · obtain ⟨a, b, rfl, k⟩ := h; rfl
  · obtain ⟨a, b, rfl, k⟩ := h
    refine ⟨_, PSs.nox (pss_cons (ps_par (i := 2) (j := 3) rfl sc_common_part.nd rfl rfl (by decide) rfl rfl (pa_cons (pe_callB (id := "abs") call_abs (by rfl) T.z_abs (by decide +kernel) (pa_cons (pv 0) pa_nil)) (pa_cons (pe_callB (id := "abs") call_abs (by rfl) T.z_abs (by decide +kernel) (pa_cons (pv 1) pa_nil)) pa_nil)) (by rfl))
      (pss_cons (ps_while PassesOwn.never (pt_cmpR op_gt (pv 3) pe_int (nomark _))
      (pss_one (ps_par (i := 2) (j := 3) rfl sc_common_part.nd rfl rfl (by decide) rfl rfl (pa_cons (pv 3) (pa_cons (pe_op op_mod (pv 2) (pv 3)) pa_nil)) (by rfl))))
      (pss_one (ps_ret (pv 2))))), ?_⟩
    refine ⟨_, rfl, _, rfl, _, rfl, _, rfl, _, _, rfl, ?_⟩
    refine while_by (fun σ H' => H' = H ∧ ∃ g s : Int, σ = [some (.int a), some (.int b), some (.int g), some (.int s)] ∧ 0 ≤ g ∧ 0 ≤ s ∧ Int.gcd g s = Int.gcd a b)
      (fun σ _ => match σ with | [_, _, _, some (.int s)] => s.toNat | _ => 0) ⟨rfl, _, _, rfl, ?_, ?_, ?_⟩ ?_ (fun σ H Q Q' hQ ⟨v, e1, i, j, e2, e3, c, e4, q⟩ => ⟨v, e1, i, j, e2, e3, c, e4, hQ _ _ q⟩)
    · split <;> omega
    · split <;> omega
    · have e1 : (if a < 0 then -a else a) = (a.natAbs : Int) := by split <;> omega
      have e2 : (if b < 0 then -b else b) = (b.natAbs : Int) := by split <;> omega
      rw [e1, e2]
      rfl
    · rintro σ H' ⟨rfl, g, s, rfl, hg, hs, e⟩
      refine ⟨_, rfl, _, _, rfl, rfl, _, rfl, ?_⟩
      refine ite2 (fun c => ?_) (fun c => ?_)
      · have c0 : 0 < s := of_decide_eq_true c
        refine ⟨_, rfl, _, rfl, _, rfl, _, _, rfl, rfl, c0, _, _, rfl, ?_⟩
        refine ⟨⟨rfl, s, g % s, rfl, hs, Int.emod_nonneg _ (by omega), (gcd_step c0 hg).trans e⟩, ?_⟩
        show (g % s).toNat < s.toNat
        have h1 := Int.emod_nonneg g (show s ≠ 0 by omega)
        have h2 := Int.emod_lt_of_pos g c0
        omega
      · have c0 : ¬ 0 < s := fun z => c (decide_eq_true z)
        have s0 : s = 0 := by omega
        subst s0
        refine ⟨_, rfl, ?_⟩
        have eg : g = (Int.gcd a b : Int) := by
          rw [← e, Int.gcd_zero_right]
          omega
        rw [eg]
        exact k
theorem ok_Measure_init {P : Program} {w : World} {K : PySem.W.Frag} {mg : Str → Option Value} {base : Heap} {φ : Fds} (T : Txt K mg φ) : FnOk P w K mg base CX0 2 (He.fAd K ("Measure", some "__init__")) φ.Measure_init p_Measure_init (sp_minit (He.ga K "Measure")) := by
  obtain ⟨_, B0v, B0⟩ := b_is_whole_1 T
  obtain ⟨_, B1v, B1⟩ := b_common_part_2 T
  refine T.f_Measure_init.ok sc_Measure_init (fun vs H Q E h => ?_) (fun cdv A outer s H vs Q E hr h => ?_)
  · obtain ⟨p, dx, a, b, rfl, hp, hb, hl, k⟩ := h; rfl
  · obtain ⟨p, dx, a, b, rfl, hp, hb, hl, k⟩ := h
    refine ⟨_, PSs.nox (pss_cons (ps_if (PW.pt (pw_or (pt_not (pt_val (pe_call (ok_is_whole (K := K) T) (hr.mono (by decide)) rfl T.g_is_whole T.f_is_whole.kp B0 B0v pass0 (pa_cons (pv 1) pa_nil)))) (pw_or1 (pt_not (pt_val (pe_call (ok_is_whole (K := K) T) (hr.mono (by decide)) rfl T.g_is_whole T.f_is_whole.kp B0 B0v pass0 (pa_cons (pv 2) pa_nil)))))))
      (pss_one ps_never)
      pss_nil)
      (pss_cons (ps_if (pt_cmpR op_eq (pv 2) pe_int (nomark _))
      (pss_one ps_never)
      pss_nil)
      (pss_cons (ps_set (i := 3) sc_Measure_init.nd rfl (Or.inl rfl) (pe_call (ok_common_part (K := K) T) (hr.mono (by decide)) rfl T.g_common_part T.f_common_part.kp B1 B1v pass0 (pa_cons (pv 1) (pa_cons (pv 2) pa_nil))))
      (pss_cons (ps_cut (ps_if (pt_cmpR op_lt (pv 2) pe_int (nomark _))
      (pss_one (ps_set (i := 3) sc_Measure_init.nd rfl (Or.inl rfl) (pe_un un_neg (pv 3))))
      pss_nil))
      (pss_cons (ps_fld (pv 0) (pe_op op_fd (pv 1) (pv 3)) rfl)
      (pss_one (ps_fld (pv 0) (pe_op op_fd (pv 2) (pv 3)) rfl))))))), ?_⟩
    refine ⟨_, rfl, a, rfl, _, rfl, ?_⟩
    refine iteF ?_
    refine ⟨_, rfl, b, rfl, _, rfl, ?_⟩
    refine iteF ?_
    refine ⟨_, rfl, rfl, _, rfl, ?_⟩
    rw [dI]
    refine ite2 (fun e => absurd (of_decide_eq_true e) hb) (fun _ => ?_)
    refine ⟨_, rfl, _, rfl, a, b, rfl, ?_⟩
    refine ⟨fun σ' H' => H' = H ∧ ∃ c : Int, c = sgn b * (Int.gcd a b : Int) ∧ σ' = [some (.ref p), some (.int a), some (.int b), some (.int c)], ?_, ?_⟩
    · refine ⟨_, rfl, _, _, rfl, rfl, _, rfl, ?_⟩
      refine ite2 (fun e => ?_) (fun e => ?_)
      · have e0 : b < 0 := of_decide_eq_true e
        refine ⟨_, rfl, _, rfl, rfl, _, ?_, rfl⟩
        unfold sgn
        rw [if_neg (by omega), Int.neg_one_mul]
      · have e0 : ¬ b < 0 := fun z => e (decide_eq_true z)
        refine ⟨rfl, _, ?_, rfl⟩
        unfold sgn
        rw [if_pos (by omega), Int.one_mul]
    · rintro σ' H' ⟨rfl, c, hc, rfl⟩
      obtain ⟨c0, cl, fr⟩ := fr_mk hb hc
      have c9 : c.natAbs.log2 < 9000 := by
        refine Nat.lt_of_le_of_lt ?_ hl
        exact (Nat.le_log2 (by omega)).mpr (Nat.le_trans (Nat.log2_self_le (by omega)) cl)
      refine ⟨_, rfl, _, rfl, _, _, rfl, rfl, ⟨c0, c9⟩, _, rfl, p, _, dx, _, rfl, hp, T.cl_Measure, T.na_Measure_top, (by show 0 < 1000; decide), ?_⟩
      refine ⟨_, rfl, _, rfl, _, _, rfl, rfl, ⟨c0, c9⟩, _, rfl, p, _, dx, _, rfl, upd_same, T.cl_Measure, T.na_Measure_bottom, (by show 1 < 1000; decide), ?_⟩
      refine k _ _ _ fr ?_ fun q o e nq => ?_
      · rw [upd_same, mf_put]
      · rw [upd_ne nq, upd_ne nq]
        exact e
theorem ok_Measure_is_below {P : Program} {w : World} {K : PySem.W.Frag} {mg : Str → Option Value} {base : Heap} {φ : Fds} (T : Txt K mg φ) : FnOk P w K mg base CX0 1 (He.fAd K ("Measure", some "is_below")) φ.Measure_is_below p_Measure_is_below (sp_below (He.ga K "Measure")) := by
  refine T.f_Measure_is_below.ok sc_Measure_is_below (fun vs H Q E h => ?_) (fun cdv A outer s H vs Q E hr h => ?_)
  · obtain ⟨p, q, t, u, t', u', al, rfl, ⟨dp, hp⟩, ⟨dq, hq⟩, st, su, st', su', k⟩ := h; rfl
  · obtain ⟨p, q, t, u, t', u', al, rfl, ⟨dp, hp⟩, ⟨dq, hq⟩, st, su, st', su', k⟩ := h
    refine ⟨_, PSs.nox (pss_cons (ps_set (i := 3) sc_Measure_is_below.nd rfl (Or.inl rfl) (pe_op op_mulA (fldK (K := K) (pv 0) rfl) (fldK (K := K) (pv 1) rfl)))
      (pss_cons (ps_set (i := 4) sc_Measure_is_below.nd rfl (Or.inl rfl) (pe_op op_mulA (fldK (K := K) (pv 1) rfl) (fldK (K := K) (pv 0) rfl)))
      (pss_one (ps_ret (pe_or (pe_cmpR op_lt (pv 3) (pv 4) (nomark _)) (pe_one (pe_and (pv 2) (pe_one (pe_cmpR op_eq (pv 3) (pv 4) (nomark _)))))))))), ?_⟩
    refine ⟨_, rfl, _, _, _, _, _, rfl, hp, T.cl_Measure, T.na_Measure_top, mf_top _ _, _, rfl, _, _, _, _, _, rfl, hq, T.cl_Measure, T.na_Measure_bottom, mf_bottom _ _, _, _, rfl, rfl, st.cmul su' (by decide) (by decide) (by decide), ?_⟩
    refine ⟨_, rfl, _, _, _, _, _, rfl, hq, T.cl_Measure, T.na_Measure_top, mf_top _ _, _, rfl, _, _, _, _, _, rfl, hp, T.cl_Measure, T.na_Measure_bottom, mf_bottom _ _, _, _, rfl, rfl, st'.cmul su (by decide) (by decide) (by decide), ?_⟩
    refine ⟨_, rfl, _, rfl, _, _, rfl, rfl, _, rfl, ?_⟩
    have e : ∀ b : Bool, b = lessA t u t' u' al → Q (.bl b) H := fun b z => by rw [z]; exact k
    refine ite2 (fun c => e _ ?_) (fun c => ?_)
    · unfold lessA
      rw [c]
      rfl
    · have c0 : decide (t * u' < t' * u) = false := by simpa using c
      refine ⟨_, rfl, _, rfl, ?_⟩
      cases al with
      | false =>
        refine iteF (e _ ?_)
        unfold lessA
        rw [c0]
        rfl
      | true =>
        refine iteT ?_
        refine ⟨_, rfl, _, rfl, rfl, e _ ?_⟩
        unfold lessA
        rw [c0, dI]
        rfl
theorem ok_slip_of {P : Program} {w : World} {K : PySem.W.Frag} {mg : Str → Option Value} {base : Heap} {φ : Fds} (T : Txt K mg φ) : FnOk P w K mg base CX0 2 (He.fAd K ("slip_of", none)) φ.slip_of p_slip_of (sp_slip K (He.ga K "Measure")) := by
  obtain ⟨_, B0v, B0⟩ := b_Measure_is_below_2 T
  refine T.f_slip_of.ok sc_slip_of (fun vs H Q E h => ?_) (fun cdv A outer s H vs Q E hr h => ?_)
  · obtain ⟨T', k, ps, zs, rfl, hT, hm, hk, hl, kk⟩ := h; rfl
  · obtain ⟨T', k, ps, zs, rfl, hT, hm, hk, hl, kk⟩ := h
    refine ⟨_, PSs.nox (pss_cons (ps_for PassesOwn.never rfl (pi_range2 rfl T.z_range (pa_cons pe_int (pa_cons (pe_callB (id := "len") (lenS (K := K)) (by rfl) T.z_len PySem.boot_len (pa_cons (pv 0) pa_nil)) pa_nil))) (pg_name (i := 1) sc_slip_of.nd rfl (Or.inl rfl))
      (pss_one (ps_if (pt_not (pt_val (pe_meth (pe_ix (ixt (K := K)) (pv 0) (pe_op op_sub (pv 1) pe_int) (fun _ _ => rfl)) T.cl_Measure T.me_Measure_is_below (ok_Measure_is_below (K := K) T) (hr.mono (by decide)) B0 B0v pass0 (pa_cons (pe_ix (ixt (K := K)) (pv 0) (pv 1) (fun _ _ => rfl)) pa_nil))))
      (pss_one (ps_ret (pv 1)))
      pss_nil)))
      (pss_one (ps_ret pe_non))), ?_⟩
    have el : ((ps.length : Nat) : Int) = (zs.length : Int) := by rw [hm.len]
    walk_at "w"
    refine for_range (fun i σ H' => H' = H ∧ (∃ v, σ = [some (.ref T'), v]) ∧ ∀ j a b, j < i → zs[j]? = some a → zs[j + 1]? = some b → ltq a b = true) ⟨rfl, ⟨_, rfl⟩, fun j a b z => by omega⟩ ?_ ?_
    · rintro i σ H1 hi ⟨rfl, ⟨v, rfl⟩, hp⟩
      obtain ⟨a, ha⟩ := ge2 (zs := zs) (n := i) (by omega)
      obtain ⟨b, hb⟩ := ge2 (zs := zs) (n := i + 1) (by omega)
      obtain ⟨p, ep, qp⟩ := hm.at ha
      obtain ⟨q, eq, qq⟩ := hm.at hb
      walk_at "w"
      refine ⟨atI_of (n := i) (by omega) ep, ?_⟩
      walk_at "w"
      refine ⟨atI_of (n := i + 1) (by omega) eq, ?_⟩
      walk_at "w"
      cases e : ltq a b with
      | false =>
        refine iteT ⟨_, rfl, ?_⟩
        have z : (1 : Int) + i = ((i + 1 : Nat) : Int) := by omega
        rw [z]
        refine kk (some (i + 1)) ⟨by omega, by omega, fun a' b' h1 h2 => ?_, fun j a' b' hj h1 h2 => hp j a' b' (by omega) h1 h2⟩
        rw [Nat.add_sub_cancel, ha] at h1
        rw [hb] at h2
        cases h1; cases h2
        exact e
      | true =>
        refine iteF ⟨rfl, ⟨_, rfl⟩, fun j a' b' hj h1 h2 => ?_⟩
        by_cases hji : j < i
        · exact hp j a' b' hji h1 h2
        · have : j = i := by omega
          subst this
          rw [ha] at h1
          rw [hb] at h2
          cases h1; cases h2
          exact e
    · rintro σ H1 ⟨rfl, ⟨v, rfl⟩, hp⟩
      refine kk none fun j a b h1 h2 => hp j a b ?_ h1 h2
      have := (List.getElem?_eq_some_iff.mp h2).1
      omega
theorem ok_is_measure_or_none {P : Program} {w : World} {K : PySem.W.Frag} {mg : Str → Option Value} {base : Heap} {φ : Fds} (T : Txt K mg φ) : FnOk P w K mg base CX0 1 (He.fAd K ("is_measure_or_none", none)) φ.is_measure_or_none p_is_measure_or_none (sp_isend (He.ga K "Measure")) := by
  refine T.f_is_measure_or_none.ok sc_is_measure_or_none (fun vs H Q E h => ?_) (fun cdv A outer s H vs Q E hr h => ?_)
  · obtain ⟨v, m, rfl, hv, k⟩ := h; rfl
  · obtain ⟨v, m, rfl, hv, k⟩ := h
    refine ⟨_, PSs.nox (pss_one (ps_ret (pe_or (pe_cmpR op_isN (pv 0) pe_non (nomark _)) (pe_one (pe_callB (id := "isinstance") (isi (K := K)) (by rfl) T.z_isinstance (by decide +kernel) (pa_cons (pv 0) (pa_cons (pe_glob (v := .ref (He.ga K "Measure")) rfl T.g_Measure rfl) pa_nil))))))), ?_⟩
    refine ⟨_, rfl, rfl, _, rfl, ?_⟩
    cases m with
    | none => cases hv; exact iteT k
    | some a =>
      obtain ⟨p, rfl, dx, hp⟩ := hv
      refine iteF ?_
      exact ⟨_, rfl, _, _, _, _, true, rfl, .own _, tyM hp T.cl_Measure T.ii_Measure, T.k_Measure_Measure, k⟩
theorem ok_are_marks {P : Program} {w : World} {K : PySem.W.Frag} {mg : Str → Option Value} {base : Heap} {φ : Fds} (T : Txt K mg φ) : FnOk P w K mg base CX0 1 (He.fAd K ("are_marks", none)) φ.are_marks p_are_marks (sp_arem K (He.ga K "Measure")) := by
  refine T.f_are_marks.ok sc_are_marks (fun vs H Q E h => ?_) (fun cdv A outer s H vs Q E hr h => ?_)
  · obtain ⟨T', k, ps, zs, rfl, hT, hm, h0, h1, kk⟩ := h; rfl
  · obtain ⟨T', k, ps, zs, rfl, hT, hm, h0, h1, kk⟩ := h
    refine ⟨_, PSs.nox (pss_cons (ps_if (PW.pt (pw_or (pt_not (pt_val (pe_callB (id := "isinstance") (isi (K := K)) (by rfl) T.z_isinstance (by decide +kernel) (pa_cons (pv 0) (pa_cons (pe_bltn (v := .ty "tuple") rfl T.z_tuple (by decide +kernel) rfl) pa_nil))))) (pw_or1 (pt_not (pt_chain op_le op_le pe_int (pe_callB (id := "len") (lenS (K := K)) (by rfl) T.z_len PySem.boot_len (pa_cons (pv 0) pa_nil)) (C8.pe_gc (v := .int 24) rfl (T.v_MOST_MARKS.elim fun t e => ⟨_, e, ⟨t, rfl⟩⟩)))))))
      (pss_one (ps_ret pe_bl))
      pss_nil)
      (pss_one (ps_ret (pe_callB (id := "all") (allK (K := K)) (by rfl) T.z_all (by decide +kernel) (pa_cons (pe_lc (own := [("mark", 1)]) (g := gName 1) rfl sc_are_marks.nd (pi_tup (pv 0)) (blkOk_by (own := [("mark", 1)]) (N := N_are_marks) (sc := (defScope s_are_marks)) (by decide +kernel)) (fun _ _ _ _ _ => (pg_name (i := 1) sc_are_marks.nd rfl (Or.inl rfl))) (fun _ _ _ _ _ => pts_nil) (fun _ _ _ _ _ => (pe_callB (id := "isinstance") (isi (K := K)) (by rfl) T.z_isinstance (by decide +kernel) (pa_cons (pv 1) (pa_cons (pe_glob (v := .ref (He.ga K "Measure")) rfl T.g_Measure rfl) pa_nil))))) pa_nil))))), ?_⟩
    have el : ps.length = zs.length := hm.len
    refine ⟨_, rfl, _, _, _, _, _, rfl, .ty _, tyTup hT, kit_ty (r := true) (by decide +kernel), _, rfl, iteF ?_⟩
    walk_at "w"
    refine ⟨⟨_, hT⟩, fun D nD => ?_⟩
    refine lcz (n := ps.length) walk_tup (fun _ _ g s => s.sqt g) (List.replicate ps.length (some (V.bl true))) (by simp) (by rw [sizeLine_eq]; omega) hT nD (fun i x H1 H2 z N M hi hz s1 y hN hM => ?_) (fun H1 s1 hD => ?_)
    · obtain ⟨rfl, hx⟩ := y
      obtain ⟨p, z1, rfl, _, qz⟩ := (hm.same s1).of hx
      obtain ⟨⟨t, u, ⟨dx, hp⟩, _⟩, _⟩ := qz
      rw [List.getElem?_replicate, if_pos hi] at hz
      cases hz
      refine ⟨rfl, yesT ?_⟩
      exact ⟨_, rfl, _, _, _, _, _, rfl, .own _, tyM hp T.cl_Measure T.ii_Measure, T.k_Measure_Measure, hN _ _ rfl (Same.refl _)⟩
    have e : (List.replicate ps.length (some (V.bl true))).filterMap _root_.id = (List.replicate ps.length true).map V.bl := by
      generalize ps.length = n
      induction n with
      | zero => rfl
      | succ n ih => rw [List.replicate_succ, List.replicate_succ]; simpa using ih
    rw [e] at hD
    refine ⟨D, _, rfl, SqL.of hD, ?_⟩
    have e2 : (List.replicate ps.length true).all _root_.id = true := by
      generalize ps.length = n
      induction n with
      | zero => rfl
      | succ n ih => rw [List.replicate_succ]; simpa using ih
    rw [e2]
    exact kk _ s1
theorem ok_is_rule {P : Program} {w : World} {K : PySem.W.Frag} {mg : Str → Option Value} {base : Heap} {φ : Fds} (T : Txt K mg φ) : FnOk P w K mg base CX0 1 (He.fAd K ("is_rule", none)) φ.is_rule p_is_rule sp_isrule := by
  refine T.f_is_rule.ok sc_is_rule (fun vs H Q E h => ?_) (fun cdv A outer s H vs Q E hr h => ?_)
  · obtain ⟨r, rfl, hr', kk⟩ := h; rfl
  · obtain ⟨r, rfl, hr', kk⟩ := h
    refine ⟨_, PSs.nox (pss_one (ps_ret (pe_and (pe_callB (id := "isinstance") (isi (K := K)) (by rfl) T.z_isinstance (by decide +kernel) (pa_cons (pv 0) (pa_cons (pe_bltn (v := .ty "str") rfl T.z_str (by decide +kernel) rfl) pa_nil))) (pe_one (pe_cmpR (inK (K := K)) (pv 0) (pe_glob (v := .ref (He.ga K "RULES")) rfl T.g_RULES rfl) (by rfl)))))), ?_⟩
    refine ⟨_, rfl, _, _, _, _, _, rfl, .ty _, .base (.str _), kit_ty (r := true) (by decide +kernel), _, rfl, iteT ?_⟩
    refine ⟨_, rfl, _, _, rfl, .inr (T.tp_RULES H), rfl, rfl, ?_⟩
    have e : inV (.str r) (([Str.ofString "up", Str.ofString "down", Str.ofString "near"] : List Str).map V.str) = true := by
      rcases hr' with rfl | rfl | rfl <;> decide +kernel
    simp only [Bool.false_eq_true, if_false]
    rw [e]
    exact kk
theorem ok_is_span {P : Program} {w : World} {K : PySem.W.Frag} {mg : Str → Option Value} {base : Heap} {φ : Fds} (T : Txt K mg φ) : FnOk P w K mg base CX0 2 (He.fAd K ("is_span", none)) φ.is_span p_is_span (sp_span (He.ga K "Measure")) := by
  obtain ⟨_, B0v, B0⟩ := b_Measure_is_below_3 T
  refine T.f_is_span.ok sc_is_span (fun vs H Q E h => ?_) (fun cdv A outer s H vs Q E hr h => ?_)
  · obtain ⟨l, h, k, lo, hi, rfl, ql, qh, hk, kk⟩ := h; rfl
  · obtain ⟨l, h, k, lo, hi, rfl, ql, qh, hk, kk⟩ := h
    refine ⟨_, PSs.nox (pss_one (ps_ret (pe_or (pe_cmpR op_isN (pv 0) pe_non (nomark _)) (pe_or (pe_cmpR op_isN (pv 1) pe_non (nomark _)) (pe_one (pe_meth (pv 0) T.cl_Measure T.me_Measure_is_below (ok_Measure_is_below (K := K) T) (hr.mono (by decide)) B0 B0v pass0 (pa_cons (pv 1) (pa_cons pe_bl pa_nil)))))))), ?_⟩
    cases lo with
    | none =>
      cases ql
      walk_at "w"
      exact kk
    | some a =>
      obtain ⟨pl, rfl, qa⟩ := ql
      cases hi with
      | none =>
        cases qh
        walk_at "w"
        exact kk
      | some b =>
        obtain ⟨ph, rfl, qb⟩ := qh
        rw [span_leq] at kk
        walk_at "w"
        exact kk
theorem ok_Ladder_init {P : Program} {w : World} {K : PySem.W.Frag} {mg : Str → Option Value} {base : Heap} {φ : Fds} (T : Txt K mg φ) : FnOk P w K mg base CX0 3 (He.fAd K ("Ladder", some "__init__")) φ.Ladder_init p_Ladder_init (sp_linit K (He.ga K "Measure") (He.ga K "Ladder")) := by
  obtain ⟨_, B0v, B0⟩ := b_are_marks_1 T
  obtain ⟨_, B1v, B1⟩ := b_is_rule_1 T
  obtain ⟨_, B2v, B2⟩ := b_is_measure_or_none_1 T
  obtain ⟨_, B3v, B3⟩ := b_is_span_2 T
  obtain ⟨_, B4v, B4⟩ := b_slip_of_1 T
  refine T.f_Ladder_init.ok sc_Ladder_init (fun vs H Q E h => ?_) (fun cdv A outer s H vs Q E hr h => ?_)
  · obtain ⟨p, dx, T', k, ps, zs, r, l, h, lo, hi, rfl, hp, hT, hm, hk, h0, h1, hri, hru, ql, qh, hsp, kk⟩ := h; rfl
  · obtain ⟨p, dx, T', k, ps, zs, r, l, h, lo, hi, rfl, hp, hT, hm, hk, h0, h1, hri, hru, ql, qh, hsp, kk⟩ := h
    refine ⟨_, PSs.nox (pss_cons (ps_if (pt_not (pt_val (pe_call (ok_are_marks (K := K) T) (hr.mono (by decide)) rfl T.g_are_marks T.f_are_marks.kp B0 B0v pass0 (pa_cons (pv 1) pa_nil))))
      (pss_one ps_never)
      pss_nil)
      (pss_cons (ps_if (pt_not (pt_val (pe_call (ok_is_rule (K := K) T) (hr.mono (by decide)) rfl T.g_is_rule T.f_is_rule.kp B1 B1v pass0 (pa_cons (pv 2) pa_nil))))
      (pss_one ps_never)
      pss_nil)
      (pss_cons (ps_if (PW.pt (pw_or (pt_not (pt_val (pe_call (ok_is_measure_or_none (K := K) T) (hr.mono (by decide)) rfl T.g_is_measure_or_none T.f_is_measure_or_none.kp B2 B2v pass0 (pa_cons (pv 3) pa_nil)))) (pw_or1 (pt_not (pt_val (pe_call (ok_is_measure_or_none (K := K) T) (hr.mono (by decide)) rfl T.g_is_measure_or_none T.f_is_measure_or_none.kp B2 B2v pass0 (pa_cons (pv 4) pa_nil)))))))
      (pss_one ps_never)
      pss_nil)
      (pss_cons (ps_if (pt_not (pt_val (pe_call (ok_is_span (K := K) T) (hr.mono (by decide)) rfl T.g_is_span T.f_is_span.kp B3 B3v pass0 (pa_cons (pv 3) (pa_cons (pv 4) pa_nil)))))
      (pss_one ps_never)
      pss_nil)
      (pss_cons (ps_set (i := 5) sc_Ladder_init.nd rfl (Or.inl rfl) (pe_call (ok_slip_of (K := K) T) (hr.mono (by decide)) rfl T.g_slip_of T.f_slip_of.kp B4 B4v pass0 (pa_cons (pv 1) pa_nil)))
      (pss_cons (ps_if (pt_cmpR op_notN (pv 5) pe_non (nomark _))
      (pss_one ps_never)
      pss_nil)
      (pss_cons (ps_fld (pv 0) (pv 1) rfl)
      (pss_cons (ps_fld (pv 0) (pv 2) rfl)
      (pss_cons (ps_fld (pv 0) (pv 3) rfl)
      (pss_one (ps_fld (pv 0) (pv 4) rfl))))))))))), ?_⟩
    obtain ⟨mlo, mql, _, _⟩ := ql.low hk
    obtain ⟨mhi, mqh, _, _⟩ := qh.low hk
    have cl_Ladder := T.cl_Ladder
    have na_Ladder_marks := T.na_Ladder_marks
    have na_Ladder_rule := T.na_Ladder_rule
    have na_Ladder_least := T.na_Ladder_least
    have na_Ladder_most := T.na_Ladder_most
    
    walk_at "w"
    refine ⟨zs, rfl, hT, hm, h0, h1, fun H1 s1 => ?_⟩
    walk_at "w"
    refine ⟨mlo, rfl, mql.same s1, ?_⟩
    walk_at "w"
    refine ⟨mhi, rfl, mqh.same s1, ?_⟩
    have hT1 := s1.sqt hT
    have hm1 := hm.same s1
    replace ql := ql.same s1
    replace qh := qh.same s1
    have hp1 := s1 _ _ hp
    walk_at "w"
    refine ⟨lo, hi, rfl, ql, qh, by omega, ?_⟩
    rw [hsp]
    walk_at "w"
    refine ⟨zs, rfl, hT1, hm1, by omega, by omega, fun o ho => ?_⟩
    have eo : o = none := by
      cases o with
      | none => rfl
      | some n =>
        obtain ⟨n1, n2, n3, _⟩ := ho
        obtain ⟨a, ha⟩ := ge2 (zs := zs) (n := n - 1) (by omega)
        obtain ⟨b, hb⟩ := ge2 (zs := zs) (n := n) n2
        have z1 := n3 a b ha hb
        have z2 := hri (n - 1) a b ha (by rw [Nat.sub_add_cancel n1]; exact hb)
        rw [z1] at z2
        cases z2
    subst eo
    walk_at "w"
    refine ⟨by show 0 < 1000; decide, ?_⟩
    refine ⟨_, rfl, _, rfl, p, _, dx, _, rfl, upd_same, cl_Ladder, na_Ladder_rule, by show 1 < 1000; decide, ?_⟩
    refine ⟨_, rfl, _, rfl, p, _, dx, _, rfl, upd_same, cl_Ladder, na_Ladder_least, by show 2 < 1000; decide, ?_⟩
    refine ⟨_, rfl, _, rfl, p, _, dx, _, rfl, upd_same, cl_Ladder, na_Ladder_most, by show 3 < 1000; decide, ?_⟩
    refine kk _ ?_ fun c o ec nc => ?_
    · rw [upd_same, lf_put]
    · rw [upd_ne nc, upd_ne nc, upd_ne nc, upd_ne nc]
      exact s1 _ _ ec
theorem ok_Measure_plus {P : Program} {w : World} {K : PySem.W.Frag} {mg : Str → Option Value} {base : Heap} {φ : Fds} (T : Txt K mg φ) : FnOk P w K mg base CX0 4 (He.fAd K ("Measure", some "plus")) φ.Measure_plus p_Measure_plus (sp_bin2 (He.ga K "Measure") (fun t u t' u' => t * u' + t' * u) (fun t u t' u' => u * u')) := by
  obtain ⟨_, B0v, B0⟩ := b_Measure_init_3 T
  refine T.f_Measure_plus.ok sc_Measure_plus (fun vs H Q E h => ?_) (fun cdv A outer s H vs Q E hr h => ?_)
  · obtain ⟨p, q, t, u, t', u', rfl, ⟨dp, hp⟩, ⟨dq, hq⟩, hu, hu', st, su, st', su', sg, k⟩ := h; rfl
  · obtain ⟨p, q, t, u, t', u', rfl, ⟨dp, hp⟩, ⟨dq, hq⟩, hu, hu', st, su, st', su', sg, k⟩ := h
    refine ⟨_, PSs.nox (pss_one (ps_ret (pe_make T.mk_Measure (ok_Measure_init (K := K) T) (hr.mono (by decide)) rfl T.g_Measure B0 B0v pass0 (pa_cons (pe_op op_add (pe_op op_mulA (fldK (K := K) (pv 0) rfl) (fldK (K := K) (pv 1) rfl)) (pe_op op_mulA (fldK (K := K) (pv 1) rfl) (fldK (K := K) (pv 0) rfl))) (pa_cons (pe_op op_mulA (fldK (K := K) (pv 0) rfl) (fldK (K := K) (pv 1) rfl)) pa_nil))))), ?_⟩
    refine ⟨_, rfl, _, _, _, _, _, rfl, hp, T.cl_Measure, T.na_Measure_top, mf_top _ _, _, rfl, _, _, _, _, _, rfl, hq, T.cl_Measure, T.na_Measure_bottom, mf_bottom _ _, _, _, rfl, rfl, st.cmul su' (by decide) (by decide) (by decide), _, rfl, _, _, _, _, _, rfl, hq, T.cl_Measure, T.na_Measure_top, mf_top _ _, _, rfl, _, _, _, _, _, rfl, hp, T.cl_Measure, T.na_Measure_bottom, mf_bottom _ _, _, _, rfl, rfl, st'.cmul su (by decide) (by decide) (by decide), _, _, rfl, rfl, _, rfl, _, _, _, _, _, rfl, hp, T.cl_Measure, T.na_Measure_bottom, mf_bottom _ _, _, rfl, _, _, _, _, _, rfl, hq, T.cl_Measure, T.na_Measure_bottom, mf_bottom _ _, _, _, rfl, rfl, su.cmul su' (by decide) (by decide) (by decide), ?_⟩
    intro x dx nx nd ne
    refine ⟨x, dx, _, _, rfl, upd_same, Int.mul_ne_zero (by omega) (by omega), sg.log (by decide) (by decide), fun t2 u2 H' fr hx kp => ⟨rfl, ?_⟩⟩
    exact k x t2 u2 H' nx (made_same nx nd kp) ⟨_, hx⟩ fr
theorem ok_Measure_parted {P : Program} {w : World} {K : PySem.W.Frag} {mg : Str → Option Value} {base : Heap} {φ : Fds} (T : Txt K mg φ) : FnOk P w K mg base CX0 4 (He.fAd K ("Measure", some "parted")) φ.Measure_parted p_Measure_parted (sp_part2 (He.ga K "Measure")) := by
  obtain ⟨_, B0v, B0⟩ := b_Measure_init_3 T
  refine T.f_Measure_parted.ok sc_Measure_parted (fun vs H Q E h => ?_) (fun cdv A outer s H vs Q E hr h => ?_)
  · obtain ⟨p, t, u, m, rfl, ⟨dp, hp⟩, hu, hm, st, su, sm, sg, k⟩ := h; rfl
  · obtain ⟨p, t, u, m, rfl, ⟨dp, hp⟩, hu, hm, st, su, sm, sg, k⟩ := h
    refine ⟨_, PSs.nox (pss_one (ps_ret (pe_make T.mk_Measure (ok_Measure_init (K := K) T) (hr.mono (by decide)) rfl T.g_Measure B0 B0v pass0 (pa_cons (fldK (K := K) (pv 0) rfl) (pa_cons (pe_op op_mulA (fldK (K := K) (pv 0) rfl) (pv 1)) pa_nil))))), ?_⟩
    refine ⟨_, rfl, _, _, _, _, _, rfl, hp, T.cl_Measure, T.na_Measure_top, mf_top _ _, _, rfl, _, _, _, _, _, rfl, hp, T.cl_Measure, T.na_Measure_bottom, mf_bottom _ _, _, rfl, _, _, rfl, rfl, su.cmul sm (by decide) (by decide) (by decide), ?_⟩
    intro x dx nx nd ne
    refine ⟨x, dx, _, _, rfl, upd_same, Int.mul_ne_zero (by omega) hm, sg.log (by decide) (by decide), fun t2 u2 H' fr hx kp => ⟨rfl, ?_⟩⟩
    exact k x t2 u2 H' nx (made_same nx nd kp) ⟨_, hx⟩ fr
theorem ok_midsts_of {P : Program} {w : World} {K : PySem.W.Frag} {mg : Str → Option Value} {base : Heap} {φ : Fds} (T : Txt K mg φ) : FnOk P w K mg base CX0 5 (He.fAd K ("midsts_of", none)) φ.midsts_of p_midsts_of (sp_mids K (He.ga K "Measure")) := by
  obtain ⟨_, B0v, B0⟩ := b_Measure_parted_1 T
  obtain ⟨_, B1v, B1⟩ := b_Measure_plus_2 T
  refine T.f_midsts_of.ok sc_midsts_of (fun vs H Q E h => ?_) (fun cdv A outer s H vs Q E hr h => ?_)
  · obtain ⟨T', k, ps, zs, rfl, hT, hm, h0, h1, l0, l1, kk⟩ := h; rfl
  · obtain ⟨T', k, ps, zs, rfl, hT, hm, h0, h1, l0, l1, kk⟩ := h
    refine ⟨_, PSs.nox (pss_one (ps_ret (pe_lc (own := [("at", 1)]) (g := gName 1) rfl sc_midsts_of.nd (pi_range2 rfl T.z_range (pa_cons pe_int (pa_cons (pe_callB (id := "len") (lenS (K := K)) (by rfl) T.z_len PySem.boot_len (pa_cons (pv 0) pa_nil)) pa_nil))) (blkOk_by (own := [("at", 1)]) (N := N_midsts_of) (sc := (defScope s_midsts_of)) (by decide +kernel)) (fun _ _ _ _ _ => (pg_name (i := 1) sc_midsts_of.nd rfl (Or.inl rfl))) (fun _ _ _ _ _ => pts_nil) (fun _ _ _ _ _ => (pe_meth0 (pe_meth (pe_ix (ixt (K := K)) (pv 0) (pe_op op_sub (pv 1) pe_int) (fun _ _ => rfl)) T.cl_Measure T.me_Measure_plus (ok_Measure_plus (K := K) T) (hr.mono (by decide)) B1 B1v pass0 (pa_cons (pe_ix (ixt (K := K)) (pv 0) (pv 1) (fun _ _ => rfl)) pa_nil)) T.cl_Measure T.me_Measure_parted (ok_Measure_parted (K := K) T) (hr.mono (by decide)) B0 B0v pass0))))), ?_⟩
    have el : ps.length = zs.length := hm.len
    walk_at "w"
    intro D nD
    refine lcr walk_range (fun _ _ _ _ => trivial) (fun i H v => ∃ p z, v = .ref p ∧ (midq zs)[i]? = some z ∧ QAt (He.ga K "Measure") H p (k + k + 1 + 10 + 1) z) (fun i H H' y ⟨p, z, e1, e2, q⟩ n => ⟨p, z, e1, e2, q.nl n⟩) (by rw [sizeLine_eq]; omega) trivial nD (fun i x H1 H2 N M hi s1 y hN => ?_) (fun H1 ys s1 hD ly hy => ?_)
    · obtain ⟨rfl, rfl⟩ := y
      obtain ⟨a, ha⟩ := ge2 (zs := zs) (n := i) (by omega)
      obtain ⟨b, hb⟩ := ge2 (zs := zs) (n := i + 1) (by omega)
      obtain ⟨p, ep, qp⟩ := (hm.same s1).at ha
      obtain ⟨q, eq, qq⟩ := (hm.same s1).at hb
      have hT1 := s1.sqt hT
      refine ⟨rfl, yesT ?_⟩
      walk_at "w"
      refine ⟨atI_of (n := i) (by omega) ep, ?_⟩
      walk_at "w"
      refine ⟨atI_of (n := i + 1) (by omega) eq, q_addT qp qq (by omega) h0 h0 fun r H3 s3 R => ?_⟩
      refine meth_q R (by decide +kernel) (by decide +kernel) (q_prt2T R (by omega) (by omega) fun r2 H4 s4 R2 => ?_)
      exact hN _ _ (s3.trans s4) ⟨r2, qhalf a b, rfl, midq_get zs i a b ha hb, R2⟩
    refine kk D ys H1 s1 hD ⟨?_, fun i v z h1 h2 => ?_⟩
    · rw [midq_len, ly]; omega
    · obtain ⟨p, z', e1, e2, q⟩ := hy i v h1
      rw [h2] at e2
      cases e2
      exact ⟨p, e1, q⟩
theorem ok_size_by_rule {P : Program} {w : World} {K : PySem.W.Frag} {mg : Str → Option Value} {base : Heap} {φ : Fds} (T : Txt K mg φ) : FnOk P w K mg base CX0 6 (He.fAd K ("size_by_rule", none)) φ.size_by_rule p_size_by_rule (sp_sizeR K (He.ga K "Measure")) := by
  obtain ⟨_, B0v, B0⟩ := b_Measure_is_below_2 T
  obtain ⟨_, B1v, B1⟩ := b_Measure_is_below_3 T
  obtain ⟨_, B2v, B2⟩ := b_midsts_of_1 T
  refine T.f_size_by_rule.ok sc_size_by_rule (fun vs H Q E h => ?_) (fun cdv A outer s H vs Q E hr h => ?_)
  · obtain ⟨T', q, k, ps, zs, r, x, rfl, hT, hm, qx, h0, h1, l0, l1, kk⟩ := h; rfl
  · obtain ⟨T', q, k, ps, zs, r, x, rfl, hT, hm, qx, h0, h1, l0, l1, kk⟩ := h
    refine ⟨_, PSs.nox (pss_cons (ps_if (pt_cmpR op_eq (pv 1) pe_str (nomark _))
      (pss_one (ps_ret (pe_callB (id := "len") (lenS (K := K)) (by rfl) T.z_len PySem.boot_len (pa_cons (pe_lc (own := [("mark", 3)]) (g := gName 3) rfl sc_size_by_rule.nd (pi_tup (pv 0)) (blkOk_by (own := [("mark", 3)]) (N := N_size_by_rule) (sc := (defScope s_size_by_rule)) (by decide +kernel)) (fun _ _ _ _ _ => (pg_name (i := 3) sc_size_by_rule.nd rfl (Or.inl rfl))) (fun _ _ _ _ _ => (pts_one (pt_val (pe_meth (pv 3) T.cl_Measure T.me_Measure_is_below (ok_Measure_is_below (K := K) T) (hr.mono (by decide)) B0 B0v pass0 (pa_cons (pv 2) pa_nil))))) (fun _ _ _ _ _ => (pv 3))) pa_nil))))
      pss_nil)
      (pss_cons (ps_if (pt_cmpR op_eq (pv 1) pe_str (nomark _))
      (pss_one (ps_ret (pe_op op_sub (pe_callB (id := "len") (lenS (K := K)) (by rfl) T.z_len PySem.boot_len (pa_cons (pe_lc (own := [("mark", 3)]) (g := gName 3) rfl sc_size_by_rule.nd (pi_tup (pv 0)) (blkOk_by (own := [("mark", 3)]) (N := N_size_by_rule) (sc := (defScope s_size_by_rule)) (by decide +kernel)) (fun _ _ _ _ _ => (pg_name (i := 3) sc_size_by_rule.nd rfl (Or.inl rfl))) (fun _ _ _ _ _ => (pts_one (pt_val (pe_meth (pv 3) T.cl_Measure T.me_Measure_is_below (ok_Measure_is_below (K := K) T) (hr.mono (by decide)) B1 B1v pass0 (pa_cons (pv 2) (pa_cons pe_bl pa_nil)))))) (fun _ _ _ _ _ => (pv 3))) pa_nil)) pe_int)))
      pss_nil)
      (pss_one (ps_ret (pe_callB (id := "len") (lenS (K := K)) (by rfl) T.z_len PySem.boot_len (pa_cons (pe_lc (own := [("midst", 4)]) (g := gName 4) rfl sc_size_by_rule.nd (pi_list (pe_call (ok_midsts_of (K := K) T) (hr.mono (by decide)) rfl T.g_midsts_of T.f_midsts_of.kp B2 B2v pass0 (pa_cons (pv 0) pa_nil))) (blkOk_by (own := [("midst", 4)]) (N := N_size_by_rule) (sc := (defScope s_size_by_rule)) (by decide +kernel)) (fun _ _ _ _ _ => (pg_name (i := 4) sc_size_by_rule.nd rfl (Or.inl rfl))) (fun _ _ _ _ _ => (pts_one (pt_val (pe_meth (pv 4) T.cl_Measure T.me_Measure_is_below (ok_Measure_is_below (K := K) T) (hr.mono (by decide)) B1 B1v pass0 (pa_cons (pv 2) (pa_cons pe_bl pa_nil)))))) (fun _ _ _ _ _ => (pv 4))) pa_nil)))))), ?_⟩
    have el : ps.length = zs.length := hm.len
    have fin : ∀ z H', z = sizeR zs r x → Same H H' → Q (.int z) H' := fun z H' e s => by rw [e]; exact kk H' s
    refine ⟨_, rfl, rfl, _, rfl, ?_⟩
    refine ite2 (fun e => ?_) (fun e => ?_)
    · have er : r = "up" := V.str.inj (of_decide_eq_true e)
      walk_at "w"
      refine ⟨⟨_, hT⟩, fun D nD => ?_⟩
      refine lcz (n := ps.length) walk_tup (fun _ _ g s => s.sqt g) (List.zipWith (fun (p : V) (z : Q2) => if ltq z x then some p else none) ps zs) (by rw [List.length_zipWith]; omega) (by rw [sizeLine_eq]; omega) hT nD (fun i v H1 H2 z N M hi hz s1 y hN hM => ?_) (fun H1 s1 hD => ?_)
      · obtain ⟨rfl, hx⟩ := y
        obtain ⟨p, z1, rfl, hz1, qz⟩ := (hm.same s1).of hx
        have ez := zipF_get (f := fun z => ltq z x) hx hz1 hz
        have qx1 := qx.same s1
        refine ⟨rfl, ?_⟩
        walk_at "w"
        show if ltq z1 x = true then _ else _
        cases e : ltq z1 x with
        | true => exact iteT ⟨_, rfl, hN _ _ (by simp [ez, e]) (Same.refl _)⟩
        | false => exact iteF (hM _ (by simp [ez, e]) (Same.refl _))
      have el2 := zipF_len (f := fun z => ltq z x) hm.len
    
      walk_at "w"
      refine fin _ _ ?_ s1
      unfold sizeR
      rw [if_pos er, el2]
    have er : ¬ r = "up" := fun z => e (decide_eq_true (congrArg V.str z))
    refine ⟨_, rfl, rfl, _, rfl, ?_⟩
    refine ite2 (fun e => ?_) (fun e => ?_)
    · have er2 : r = "down" := V.str.inj (of_decide_eq_true e)
      walk_at "w"
      refine ⟨⟨_, hT⟩, fun D nD => ?_⟩
      refine lcz (n := ps.length) walk_tup (fun _ _ g s => s.sqt g) (List.zipWith (fun (p : V) (z : Q2) => if leq z x then some p else none) ps zs) (by rw [List.length_zipWith]; omega) (by rw [sizeLine_eq]; omega) hT nD (fun i v H1 H2 z N M hi hz s1 y hN hM => ?_) (fun H1 s1 hD => ?_)
      · obtain ⟨rfl, hx⟩ := y
        obtain ⟨p, z1, rfl, hz1, qz⟩ := (hm.same s1).of hx
        have ez := zipF_get (f := fun z => leq z x) hx hz1 hz
        have qx1 := qx.same s1
        refine ⟨rfl, ?_⟩
        walk_at "w"
        show if leq z1 x = true then _ else _
        cases e : leq z1 x with
        | true => exact iteT ⟨_, rfl, hN _ _ (by simp [ez, e]) (Same.refl _)⟩
        | false => exact iteF (hM _ (by simp [ez, e]) (Same.refl _))
      have el2 := zipF_len (f := fun z => leq z x) hm.len
    
      walk_at "w"
      refine fin _ _ ?_ s1
      unfold sizeR
      rw [if_neg er, if_pos er2, el2]
    have er2 : ¬ r = "down" := fun z => e (decide_eq_true (congrArg V.str z))
    refine ⟨_, rfl, T', k, ps, zs, rfl, hT, hm, h0, h1, l0, l1, fun D2 ys H0 s0 hD0 hm0 => ?_⟩
    have len0 : ys.length ≤ 24 := by rw [hm0.len, midq_len]; omega
    have qx0 := qx.same s0
    refine ⟨D2, rfl, ⟨_, SqL.of hD0⟩, fun D nD => ?_⟩
    refine lcz (n := ys.length) walk_list (fun _ _ g s => s.seq g) (List.zipWith (fun (p : V) (z : Q2) => if leq z x then some p else none) ys (midq zs)) (by rw [List.length_zipWith, hm0.len, Nat.min_self]) (by rw [sizeLine_eq]; omega) (SqL.of hD0) nD (fun i v H1 H2 z N M hi hz s1 y hN hM => ?_) (fun H1 s1 hD => ?_)
    · obtain ⟨rfl, hx⟩ := y
      obtain ⟨p, z1, rfl, hz1, qz⟩ := (hm0.same s1).of hx
      have ez := zipF_get (f := fun z => leq z x) hx hz1 hz
      have qx1 := qx0.same s1
      refine ⟨rfl, ?_⟩
      walk_at "w"
      show if leq z1 x = true then _ else _
      cases e : leq z1 x with
      | true => exact iteT ⟨_, rfl, hN _ _ (by simp [ez, e]) (Same.refl _)⟩
      | false => exact iteF (hM _ (by simp [ez, e]) (Same.refl _))
    have el2 := zipF_len (f := fun z => leq z x) hm0.len
    walk_at "w"
    refine fin _ _ ?_ (s0.trans s1)
    unfold sizeR
    rw [if_neg er, if_neg er2, el2]
theorem ok_Ladder_size {P : Program} {w : World} {K : PySem.W.Frag} {mg : Str → Option Value} {base : Heap} {φ : Fds} (T : Txt K mg φ) : FnOk P w K mg base CX0 7 (He.fAd K ("Ladder", some "size")) φ.Ladder_size p_Ladder_size (sp_size K (He.ga K "Measure") (He.ga K "Ladder")) := by
  obtain ⟨_, B0v, B0⟩ := b_Measure_is_below_2 T
  obtain ⟨_, B1v, B1⟩ := b_size_by_rule_3 T
  refine T.f_Ladder_size.ok sc_Ladder_size (fun vs H Q E h => ?_) (fun cdv A outer s H vs Q E hr h => ?_)
  · obtain ⟨p, q, k, zs, r, lo, hi, x, rfl, hL, qx, h0, h1, kk⟩ := h; rfl
  · obtain ⟨p, q, k, zs, r, lo, hi, x, rfl, hL, qx, h0, h1, kk⟩ := h
    refine ⟨_, PSs.nox (pss_cons (ps_cut (ps_if (PW.pt (pw_and (pt_cmpR op_notN (fldK (K := K) (pv 0) rfl) pe_non (nomark _)) (pw_and1 (pt_val (pe_meth (pv 1) T.cl_Measure T.me_Measure_is_below (ok_Measure_is_below (K := K) T) (hr.mono (by decide)) B0 B0v pass0 (pa_cons (fldK (K := K) (pv 0) rfl) pa_nil))))))
      (pss_one (ps_ret pe_non))
      pss_nil))
      (pss_cons (ps_cut (ps_if (PW.pt (pw_and (pt_cmpR op_notN (fldK (K := K) (pv 0) rfl) pe_non (nomark _)) (pw_and1 (pt_val (pe_meth (fldK (K := K) (pv 0) rfl) T.cl_Measure T.me_Measure_is_below (ok_Measure_is_below (K := K) T) (hr.mono (by decide)) B0 B0v pass0 (pa_cons (pv 1) pa_nil))))))
      (pss_one (ps_ret pe_non))
      pss_nil))
      (pss_cons (ps_set (i := 2) sc_Ladder_size.nd rfl (Or.inl rfl) (pe_call (ok_size_by_rule (K := K) T) (hr.mono (by decide)) rfl T.g_size_by_rule T.f_size_by_rule.kp B1 B1v pass0 (pa_cons (fldK (K := K) (pv 0) rfl) (pa_cons (fldK (K := K) (pv 0) rfl) (pa_cons (pv 1) pa_nil)))))
      (pss_cons (ps_if (pt_chain op_le op_lt pe_int (pv 2) (pe_callB (id := "len") (lenS (K := K)) (by rfl) T.z_len PySem.boot_len (pa_cons (fldK (K := K) (pv 0) rfl) pa_nil)))
      (pss_one (ps_ret (pv 2)))
      pss_nil)
      (pss_one (ps_ret pe_non)))))), ?_⟩
    have cl_Ladder := T.cl_Ladder
    have na_Ladder_marks := T.na_Ladder_marks
    have na_Ladder_rule := T.na_Ladder_rule
    have na_Ladder_least := T.na_Ladder_least
    have na_Ladder_most := T.na_Ladder_most
    
    obtain ⟨⟨dx, T', ps, l, h, hp, hT, hm, ql, qh⟩, l0, l1, hri, hru, hsp⟩ := hL
    have fin : ∀ o H', o = sizeQ zs r lo hi x → Same H H' → Q (optI o) H' := fun z H' e s => by rw [e]; exact kk H' s
    refine ⟨fun σ' H' => σ' = [some (.ref p), some (.ref q), none] ∧ H' = H ∧ loOk lo x = true, ?_, ?_⟩
    · cases lo with
      | none =>
        cases ql
        walk_at "w"
        walk_at "e"
      | some a =>
        obtain ⟨pl, rfl, qa⟩ := ql
        walk_at "w"
        refine ite2 (fun e => ?_) (fun e => ?_)
        · exact fin none _ (sizeQ_out (inO_lo e)) (Same.refl _)
        · exact ⟨rfl, rfl, by show (!ltq x a) = true; simpa using e⟩
    rintro σ' H' ⟨rfl, rfl, hlo⟩
    refine ⟨fun σ' H'' => σ' = [some (.ref p), some (.ref q), none] ∧ H'' = H' ∧ hiOk hi x = true, ?_, ?_⟩
    · cases hi with
      | none =>
        cases qh
        walk_at "w"
        walk_at "e"
      | some a =>
        obtain ⟨pl, rfl, qa⟩ := qh
        walk_at "w"
        refine ite2 (fun e => ?_) (fun e => ?_)
        · exact fin none _ (sizeQ_out (inO_hi e)) (Same.refl _)
        · exact ⟨rfl, rfl, by show (!ltq a x) = true; simpa using e⟩
    rintro σ' H'' ⟨rfl, rfl, hhi⟩
    have hin : inO lo hi x = true := by unfold inO; rw [hlo, hhi]; rfl
    walk_at "w"
    refine ⟨zs, _, x, rfl, hT, hm, qx, h0, h1, l0, l1, fun H1 s1 => ?_⟩
    have hp1 := s1 _ _ hp
    have hT1 := s1.sqt hT
    have el : ps.length = zs.length := hm.len
    have e0 : sizeQ zs r lo hi x = if 0 ≤ sizeR zs r x ∧ sizeR zs r x < zs.length then some (sizeR zs r x).toNat else none := by
      unfold sizeQ
      rw [if_pos hin]
    walk_at "w"
    by_cases c1 : 0 ≤ sizeR zs r x
    · walk_at "w"
      by_cases c2 : sizeR zs r x < zs.length
      · walk_at "w"
        have e1 : sizeQ zs r lo hi x = some (sizeR zs r x).toNat := by rw [e0, if_pos ⟨c1, c2⟩]
        have z : Q (.int ((sizeR zs r x).toNat : Int)) H1 := fin _ H1 e1.symm s1
        rw [Int.toNat_of_nonneg c1] at z
        exact z
      · walk_at "w"
        refine fin none _ ?_ s1
        rw [e0, if_neg (fun z => c2 z.2)]
    · walk_at "w"
      refine fin none _ ?_ s1
      rw [e0, if_neg (fun z => c1 z.1)]
theorem ok_Measure_eq {P : Program} {w : World} {K : PySem.W.Frag} {mg : Str → Option Value} {base : Heap} {φ : Fds} (T : Txt K mg φ) : FnOk P w K mg base CX0 1 (He.fAd K ("Measure", some "__eq__")) φ.Measure_eq p_Measure_eq (sp_meq (He.ga K "Measure")) := by
  refine T.f_Measure_eq.ok sc_Measure_eq (fun vs H Q E h => ?_) (fun cdv A outer s H vs Q E hr h => ?_)
  · obtain ⟨p, q, a, b, rfl, ⟨dp, hp⟩, ⟨dq, hq⟩, k⟩ := h; rfl
  · obtain ⟨p, q, a, b, rfl, ⟨dp, hp⟩, ⟨dq, hq⟩, k⟩ := h
    refine ⟨_, PSs.nox (pss_one (ps_ret (pe_and (pe_callB (id := "isinstance") (isi (K := K)) (by rfl) T.z_isinstance (by decide +kernel) (pa_cons (pv 1) (pa_cons (pe_glob (v := .ref (He.ga K "Measure")) rfl T.g_Measure rfl) pa_nil))) (pe_and (pe_cmpR op_eq (fldK (K := K) (pv 0) rfl) (fldK (K := K) (pv 1) rfl) (nomark _)) (pe_one (pe_cmpR op_eq (fldK (K := K) (pv 0) rfl) (fldK (K := K) (pv 1) rfl) (nomark _))))))), ?_⟩
    refine ⟨_, rfl, _, _, _, _, true, rfl, .own _, tyM hq T.cl_Measure T.ii_Measure, T.k_Measure_Measure, _, rfl, iteT ?_⟩
    refine ⟨_, rfl, _, _, _, _, _, rfl, hp, T.cl_Measure, T.na_Measure_top, mf_top _ _, _, rfl, _, _, _, _, _, rfl, hq, T.cl_Measure, T.na_Measure_top, mf_top _ _, rfl, _, rfl, ?_⟩
    rw [dI]
    refine ite2 (fun e => ?_) (fun e => ?_)
    · rw [e] at k
      refine ⟨_, rfl, _, _, _, _, _, rfl, hp, T.cl_Measure, T.na_Measure_bottom, mf_bottom _ _, _, rfl, _, _, _, _, _, rfl, hq, T.cl_Measure, T.na_Measure_bottom, mf_bottom _ _, rfl, ?_⟩
      rw [dI]
      exact k
    · rw [isTrueN e] at k
      exact k
theorem ok_is_empty {P : Program} {w : World} {K : PySem.W.Frag} {mg : Str → Option Value} {base : Heap} {φ : Fds} (T : Txt K mg φ) : FnOk P w K mg base CX0 2 (He.fAd K ("is_empty", none)) φ.is_empty p_is_empty (sp_empty (He.ga K "Measure")) := by
  obtain ⟨_, B0v, B0⟩ := b_Measure_eq_2 T
  obtain ⟨_, B1v, B1⟩ := b_Measure_is_below_2 T
  refine T.f_is_empty.ok sc_is_empty (fun vs H Q E h => ?_) (fun cdv A outer s H vs Q E hr h => ?_)
  · obtain ⟨l, h, lo, hi, li, hj, rfl, ml, mh, l1, l2, k⟩ := h; rfl
  · obtain ⟨l, h, lo, hi, li, hj, rfl, ml, mh, l1, l2, k⟩ := h
    refine ⟨_, PSs.nox (pss_cons (ps_if (PW.pt (pw_or (pt_cmpR op_isN (pv 0) pe_non (nomark _)) (pw_or1 (pt_cmpR op_isN (pv 1) pe_non (nomark _)))))
      (pss_one (ps_ret pe_bl))
      pss_nil)
      (pss_cons (ps_if (pt_cmpR (op_eqI (ok_Measure_eq T) (hr.mono (by decide)) T.me_Measure_eq B0 B0v pass0) (pv 0) (pv 1) (nomark _))
      (pss_one (ps_ret (pe_not (pe_cut (pe_and (pv 2) (pe_one (pv 3)))))))
      pss_nil)
      (pss_one (ps_ret (pe_meth (pv 1) T.cl_Measure T.me_Measure_is_below (ok_Measure_is_below (K := K) T) (hr.mono (by decide)) B1 B1v pass0 (pa_cons (pv 0) pa_nil)))))), ?_⟩
    refine ⟨_, rfl, rfl, _, rfl, ?_⟩
    cases lo with
    | none =>
      cases ml
      exact iteT (iteT k)
    | some a =>
      have ml0 := ml
      obtain ⟨p, rfl, dp, hp⟩ := ml
      refine iteF ?_
      refine ⟨_, rfl, rfl, _, rfl, ?_⟩
      cases hi with
      | none =>
        cases mh
        exact iteT k
      | some b =>
        obtain ⟨q, rfl, dq, hq⟩ := mh
        refine iteF ?_
        have k : Q (.bl (!(ltq a b || (eqq a b && li && hj)))) H := k
        refine ⟨_, rfl, _, rfl, p, q, _, _, _, _, rfl, rfl, hp, hq, p, q, a, b, rfl, ⟨_, hp⟩, ⟨_, hq⟩, _, rfl, ?_⟩
        rw [low_eqq l1 l2]
        refine ite2 (fun e => ?_) (fun e => ?_)
        · refine ⟨fun v H' => H = H' ∧ v = .bl (li && hj), ?_, ?_⟩
          · refine ⟨_, rfl, _, rfl, ?_⟩
            cases li with
            | true => exact iteT ⟨_, rfl, rfl, rfl⟩
            | false => exact iteF ⟨rfl, rfl⟩
          rintro v H' ⟨rfl, rfl⟩
          refine ⟨_, rfl, ?_⟩
          rcases lt_tri a b with ⟨h1, h2, h3⟩ | ⟨h1, h2, h3⟩ | ⟨h1, h2, h3⟩
          · rw [h2] at e; cases e
          · rw [h1, h2] at k
            exact k
          · rw [h2] at e; cases e
        · refine ⟨_, rfl, q, _, _, rfl, hq, mf_no _ _ (by decide +kernel) (by decide +kernel), _, rfl, q, p, b.1, b.2, a.1, a.2, false, rfl, ⟨_, hq⟩, ⟨_, hp⟩, l2.s1.mono (by decide), l2.s2.mono (by decide), l1.s1.mono (by decide), l1.s2.mono (by decide), ?_⟩
          have e3 : lessA b.1 b.2 a.1 a.2 false = ltq b a := by unfold lessA ltq; simp
          rw [e3]
          rcases lt_tri a b with ⟨h1, h2, h3⟩ | ⟨h1, h2, h3⟩ | ⟨h1, h2, h3⟩
          · rw [h3]; rw [h1] at k; exact k
          · exact absurd h2 e
          · rw [h3]; rw [h1, h2] at k; exact k
theorem ok_Stretch_init {P : Program} {w : World} {K : PySem.W.Frag} {mg : Str → Option Value} {base : Heap} {φ : Fds} (T : Txt K mg φ) : FnOk P w K mg base CX0 3 (He.fAd K ("Stretch", some "__init__")) φ.Stretch_init p_Stretch_init (sp_sinit (He.ga K "Measure") (He.ga K "Stretch")) := by
  obtain ⟨_, B0v, B0⟩ := b_is_measure_or_none_1 T
  obtain ⟨_, B1v, B1⟩ := b_is_empty_4 T
  refine T.f_Stretch_init.ok sc_Stretch_init (fun vs H Q E h => ?_) (fun cdv A outer s H vs Q E hr h => ?_)
  · obtain ⟨p, dx, l, h, lo, hi, li, hj, rfl, hp, ml, mh, l1, l2, so, k⟩ := h; rfl
  · obtain ⟨p, dx, l, h, lo, hi, li, hj, rfl, hp, ml, mh, l1, l2, so, k⟩ := h
    refine ⟨_, PSs.nox (pss_cons (ps_if (PW.pt (pw_or (pt_not (pt_val (pe_call (ok_is_measure_or_none (K := K) T) (hr.mono (by decide)) rfl T.g_is_measure_or_none T.f_is_measure_or_none.kp B0 B0v pass0 (pa_cons (pv 1) pa_nil)))) (pw_or1 (pt_not (pt_val (pe_call (ok_is_measure_or_none (K := K) T) (hr.mono (by decide)) rfl T.g_is_measure_or_none T.f_is_measure_or_none.kp B0 B0v pass0 (pa_cons (pv 2) pa_nil)))))))
      (pss_one ps_never)
      pss_nil)
      (pss_cons (ps_if (PW.pt (pw_or (pt_not (pt_val (pe_callB (id := "isinstance") (isi (K := K)) (by rfl) T.z_isinstance (by decide +kernel) (pa_cons (pv 3) (pa_cons (pe_bltn (v := .ty "bool") rfl T.z_bool (by decide +kernel) rfl) pa_nil))))) (pw_or1 (pt_not (pt_val (pe_callB (id := "isinstance") (isi (K := K)) (by rfl) T.z_isinstance (by decide +kernel) (pa_cons (pv 4) (pa_cons (pe_bltn (v := .ty "bool") rfl T.z_bool (by decide +kernel) rfl) pa_nil))))))))
      (pss_one ps_never)
      pss_nil)
      (pss_cons (ps_if (pt_val (pe_call (ok_is_empty (K := K) T) (hr.mono (by decide)) rfl T.g_is_empty T.f_is_empty.kp B1 B1v pass0 (pa_cons (pv 1) (pa_cons (pv 2) (pa_cons (pv 3) (pa_cons (pv 4) pa_nil))))))
      (pss_one ps_never)
      pss_nil)
      (pss_cons (ps_fld (pv 0) (pv 1) rfl)
      (pss_cons (ps_fld (pv 0) (pv 2) rfl)
      (pss_cons (ps_fld (pv 0) (pe_cut (pe_and (pv 3) (pe_one (pe_cmpR op_notN (pv 1) pe_non (nomark _))))) rfl)
      (pss_one (ps_fld (pv 0) (pe_cut (pe_and (pv 4) (pe_one (pe_cmpR op_notN (pv 2) pe_non (nomark _))))) rfl)))))))), ?_⟩
    refine ⟨_, rfl, l, lo, rfl, ml, _, rfl, iteF ?_⟩
    refine ⟨_, rfl, h, hi, rfl, mh, _, rfl, iteF ?_⟩
    refine ⟨_, rfl, _, _, _, _, true, rfl, .ty _, .base (.bl _), kit_ty (r := true) (by decide +kernel), _, rfl, iteF ?_⟩
    refine ⟨_, rfl, _, _, _, _, true, rfl, .ty _, .base (.bl _), kit_ty (r := true) (by decide +kernel), _, rfl, iteF ?_⟩
    refine ⟨_, rfl, _, rfl, _, rfl, _, rfl, l, h, lo, hi, li, hj, rfl, ml, mh, l1, l2, _, rfl, ?_⟩
    rw [so]
    refine iteF ?_
    refine ⟨_, rfl, _, rfl, p, _, dx, _, rfl, hp, T.cl_Stretch, T.na_Stretch_low, (by show 0 < 1000; decide), ?_⟩
    refine ⟨_, rfl, _, rfl, p, _, dx, _, rfl, upd_same, T.cl_Stretch, T.na_Stretch_high, (by show 1 < 1000; decide), ?_⟩
    have nl : decide (l = V.non) = !lo.isSome := by
      cases lo with
      | none => cases ml; rfl
      | some a => obtain ⟨q, rfl, _⟩ := ml; rfl
    have nh : decide (h = V.non) = !hi.isSome := by
      cases hi with
      | none => cases mh; rfl
      | some a => obtain ⟨q, rfl, _⟩ := mh; rfl
    generalize hJ : upd (upd H p _) p _ = HJ
    refine ⟨fun v H' => HJ = H' ∧ v = .bl (li && lo.isSome), ?_, ?_⟩
    · refine ⟨_, rfl, _, rfl, ?_⟩
      cases li with
      | true =>
        refine iteT ⟨_, rfl, rfl, rfl, ?_⟩
        rw [nl]; simp
      | false => exact iteF ⟨rfl, rfl⟩
    rintro v H' ⟨rfl, rfl⟩
    refine ⟨_, rfl, p, _, dx, _, rfl, (by rw [← hJ]; exact upd_same), T.cl_Stretch, T.na_Stretch_low_in, ?_, ?_⟩
    · exact Nat.lt_of_le_of_lt (length_putF _ _ _) (by show 1 + 1 < 1000; decide)
    generalize hG : upd HJ p _ = HG
    refine ⟨fun v H' => HG = H' ∧ v = .bl (hj && hi.isSome), ?_, ?_⟩
    · refine ⟨_, rfl, _, rfl, ?_⟩
      cases hj with
      | true =>
        refine iteT ⟨_, rfl, rfl, rfl, ?_⟩
        rw [nh]; simp
      | false => exact iteF ⟨rfl, rfl⟩
    rintro v H' ⟨rfl, rfl⟩
    refine ⟨_, rfl, p, _, dx, _, rfl, (by rw [← hG]; exact upd_same), T.cl_Stretch, T.na_Stretch_high_in, ?_, ?_⟩
    · exact Nat.lt_of_le_of_lt (length_putF _ _ _) (Nat.lt_of_le_of_lt (Nat.succ_le_succ (length_putF _ _ _)) (by show 1 + 1 + 1 < 1000; decide))
    refine k _ ?_ fun q o e nq => ?_
    · rw [upd_same, sf_put]
    · rw [upd_ne nq, ← hG, upd_ne nq, ← hJ, upd_ne nq, upd_ne nq]
      exact e
theorem ok_cut_low {P : Program} {w : World} {K : PySem.W.Frag} {mg : Str → Option Value} {base : Heap} {φ : Fds} (T : Txt K mg φ) : FnOk P w K mg base CX0 2 (He.fAd K ("cut_low", none)) φ.cut_low p_cut_low (sp_cutEnd (He.ga K "Measure") (He.ga K "Stretch") (fun m1 m2 i1 i2 n1 n2 j1 j2 => cutLo m1 i1 n1 j1)) := by
  obtain ⟨_, B0v, B0⟩ := b_Measure_is_below_2 T
  refine T.f_cut_low.ok sc_cut_low (fun vs H Q E h => ?_) (fun cdv A outer s H vs Q E hr h => ?_)
  · obtain ⟨p, q, m1, m2, n1, n2, i1, i2, j1, j2, rfl, ⟨⟨dp, pl, ph, hp, ml, mh⟩, a1, a2, _, _⟩, ⟨⟨dq, ql, qh, hq, nl, nh⟩, b1, b2, _, _⟩, k⟩ := h; rfl
  · obtain ⟨p, q, m1, m2, n1, n2, i1, i2, j1, j2, rfl, ⟨⟨dp, pl, ph, hp, ml, mh⟩, a1, a2, _, _⟩, ⟨⟨dq, ql, qh, hq, nl, nh⟩, b1, b2, _, _⟩, k⟩ := h
    refine ⟨_, PSs.nox (pss_cons (ps_if (pt_cmpR op_isN (fldK (K := K) (pv 0) rfl) pe_non (nomark _))
      (pss_one (ps_ret (pe_tup (pa_cons (fldK (K := K) (pv 1) rfl) (pa_cons (fldK (K := K) (pv 1) rfl) pa_nil)))))
      pss_nil)
      (pss_cons (ps_if (PW.pt (pw_or (pt_cmpR op_isN (fldK (K := K) (pv 1) rfl) pe_non (nomark _)) (pw_or1 (pt_val (pe_meth (fldK (K := K) (pv 1) rfl) T.cl_Measure T.me_Measure_is_below (ok_Measure_is_below (K := K) T) (hr.mono (by decide)) B0 B0v pass0 (pa_cons (fldK (K := K) (pv 0) rfl) pa_nil))))))
      (pss_one (ps_ret (pe_tup (pa_cons (fldK (K := K) (pv 0) rfl) (pa_cons (fldK (K := K) (pv 0) rfl) pa_nil)))))
      pss_nil)
      (pss_cons (ps_if (pt_val (pe_meth (fldK (K := K) (pv 0) rfl) T.cl_Measure T.me_Measure_is_below (ok_Measure_is_below (K := K) T) (hr.mono (by decide)) B0 B0v pass0 (pa_cons (fldK (K := K) (pv 1) rfl) pa_nil)))
      (pss_one (ps_ret (pe_tup (pa_cons (fldK (K := K) (pv 1) rfl) (pa_cons (fldK (K := K) (pv 1) rfl) pa_nil)))))
      pss_nil)
      (pss_one (ps_ret (pe_tup (pa_cons (fldK (K := K) (pv 0) rfl) (pa_cons (pe_cut (pe_and (fldK (K := K) (pv 0) rfl) (pe_one (fldK (K := K) (pv 1) rfl)))) pa_nil)))))))), ?_⟩
    refine ⟨_, rfl, _, _, _, _, _, rfl, hp, T.cl_Stretch, T.na_Stretch_low, sf_low _ _ _ _, rfl, _, rfl, ?_⟩
    have LA : ∀ x y : Q2, lessA x.1 x.2 y.1 y.2 false = ltq x y := fun x y => by unfold lessA ltq; simp
    cases m1 with
    | none =>
      cases ml
      refine iteT ?_
      exact ⟨_, rfl, _, _, _, _, _, rfl, hq, T.cl_Stretch, T.na_Stretch_low, sf_low _ _ _ _, _, rfl, _, _, _, _, _, rfl, hq, T.cl_Stretch, T.na_Stretch_low_in, sf_low_in _ _ _ _, by show 2 ≤ sizeLine; decide, fun r nr => k r _ _ (same1 nr) upd_same (nl.same (same1 nr))⟩
    | some a =>
      have ma0 := ml
      obtain ⟨pa, rfl, da, hpa⟩ := ml
      refine iteF ?_
      refine ⟨_, rfl, _, _, _, _, _, rfl, hq, T.cl_Stretch, T.na_Stretch_low, sf_low _ _ _ _, rfl, _, rfl, ?_⟩
      cases n1 with
      | none =>
        cases nl
        refine iteT ?_
        refine iteT ?_
        exact ⟨_, rfl, _, _, _, _, _, rfl, hp, T.cl_Stretch, T.na_Stretch_low, sf_low _ _ _ _, _, rfl, _, _, _, _, _, rfl, hp, T.cl_Stretch, T.na_Stretch_low_in, sf_low_in _ _ _ _, by show 2 ≤ sizeLine; decide, fun r nr => k r _ _ (same1 nr) upd_same (ma0.same (same1 nr))⟩
      | some b =>
        have mb0 := nl
        obtain ⟨pb, rfl, db, hpb⟩ := nl
        refine iteF ?_
        refine ⟨_, rfl, _, _, _, _, _, rfl, hq, T.cl_Stretch, T.na_Stretch_low, sf_low _ _ _ _, pb, _, _, rfl, hpb, mf_no _ _ (by decide +kernel) (by decide +kernel), _, rfl, _, _, _, _, _, rfl, hp, T.cl_Stretch, T.na_Stretch_low, sf_low _ _ _ _, pb, pa, b.1, b.2, a.1, a.2, false, rfl, ⟨_, hpb⟩, ⟨_, hpa⟩, b1.s1.mono (by decide), b1.s2.mono (by decide), a1.s1.mono (by decide), a1.s2.mono (by decide), _, rfl, ?_⟩
        have k : ∀ (r : Addr) (v : V) (H' : Hp), Same H H' → H' r = some (.tup [v, .bl (if ltq a b then (some b, j1) else if eqq a b then (some a, i1 && j1) else (some a, i1)).2]) → MsV (He.ga K "Measure") H' v (if ltq a b then (some b, j1) else if eqq a b then (some a, i1 && j1) else (some a, i1)).1 → Q (.ref r) H' := k
        rcases lt_tri a b with ⟨h1, h2, h3⟩ | ⟨h1, h2, h3⟩ | ⟨h1, h2, h3⟩
        · rw [h1] at k
          · rw [show lessA b.1 b.2 a.1 a.2 false = false from (LA _ _).trans h3]
            refine iteF ?_
            refine ⟨_, rfl, _, _, _, _, _, rfl, hp, T.cl_Stretch, T.na_Stretch_low, sf_low _ _ _ _, pa, _, _, rfl, hpa, mf_no _ _ (by decide +kernel) (by decide +kernel), _, rfl, _, _, _, _, _, rfl, hq, T.cl_Stretch, T.na_Stretch_low, sf_low _ _ _ _, pa, pb, a.1, a.2, b.1, b.2, false, rfl, ⟨_, hpa⟩, ⟨_, hpb⟩, a1.s1.mono (by decide), a1.s2.mono (by decide), b1.s1.mono (by decide), b1.s2.mono (by decide), _, rfl, ?_⟩
            rw [show lessA a.1 a.2 b.1 b.2 false = true from (LA _ _).trans h1]
            exact iteT ⟨_, rfl, _, _, _, _, _, rfl, hq, T.cl_Stretch, T.na_Stretch_low, sf_low _ _ _ _, _, rfl, _, _, _, _, _, rfl, hq, T.cl_Stretch, T.na_Stretch_low_in, sf_low_in _ _ _ _, by show 2 ≤ sizeLine; decide, fun r nr => k r _ _ (same1 nr) upd_same (mb0.same (same1 nr))⟩
        · rw [h1, h2] at k
          · rw [show lessA b.1 b.2 a.1 a.2 false = false from (LA _ _).trans h3]
            refine iteF ?_
            refine ⟨_, rfl, _, _, _, _, _, rfl, hp, T.cl_Stretch, T.na_Stretch_low, sf_low _ _ _ _, pa, _, _, rfl, hpa, mf_no _ _ (by decide +kernel) (by decide +kernel), _, rfl, _, _, _, _, _, rfl, hq, T.cl_Stretch, T.na_Stretch_low, sf_low _ _ _ _, pa, pb, a.1, a.2, b.1, b.2, false, rfl, ⟨_, hpa⟩, ⟨_, hpb⟩, a1.s1.mono (by decide), a1.s2.mono (by decide), b1.s1.mono (by decide), b1.s2.mono (by decide), _, rfl, ?_⟩
            rw [show lessA a.1 a.2 b.1 b.2 false = false from (LA _ _).trans h1]
            refine iteF ?_
            refine ⟨_, rfl, _, _, _, _, _, rfl, hp, T.cl_Stretch, T.na_Stretch_low, sf_low _ _ _ _, ?_⟩
            refine ⟨fun v H' => H = H' ∧ v = .bl (i1 && j1), ?_, ?_⟩
            · refine ⟨_, rfl, _, _, _, _, _, rfl, hp, T.cl_Stretch, T.na_Stretch_low_in, sf_low_in _ _ _ _, _, rfl, ?_⟩
              cases i1 with
              | true => exact iteT ⟨_, rfl, _, _, _, _, _, rfl, hq, T.cl_Stretch, T.na_Stretch_low_in, sf_low_in _ _ _ _, rfl, rfl⟩
              | false => exact iteF ⟨rfl, rfl⟩
            rintro v H' ⟨rfl, rfl⟩
            exact ⟨by show 2 ≤ sizeLine; decide, fun r nr => k r _ _ (same1 nr) upd_same (ma0.same (same1 nr))⟩
        · rw [h1, h2] at k
          · rw [show lessA b.1 b.2 a.1 a.2 false = true from (LA _ _).trans h3]
            exact iteT ⟨_, rfl, _, _, _, _, _, rfl, hp, T.cl_Stretch, T.na_Stretch_low, sf_low _ _ _ _, _, rfl, _, _, _, _, _, rfl, hp, T.cl_Stretch, T.na_Stretch_low_in, sf_low_in _ _ _ _, by show 2 ≤ sizeLine; decide, fun r nr => k r _ _ (same1 nr) upd_same (ma0.same (same1 nr))⟩
theorem ok_cut_high {P : Program} {w : World} {K : PySem.W.Frag} {mg : Str → Option Value} {base : Heap} {φ : Fds} (T : Txt K mg φ) : FnOk P w K mg base CX0 2 (He.fAd K ("cut_high", none)) φ.cut_high p_cut_high (sp_cutEnd (He.ga K "Measure") (He.ga K "Stretch") (fun m1 m2 i1 i2 n1 n2 j1 j2 => cutHi m2 i2 n2 j2)) := by
  obtain ⟨_, B0v, B0⟩ := b_Measure_is_below_2 T
  refine T.f_cut_high.ok sc_cut_high (fun vs H Q E h => ?_) (fun cdv A outer s H vs Q E hr h => ?_)
  · obtain ⟨p, q, m1, m2, n1, n2, i1, i2, j1, j2, rfl, ⟨⟨dp, pl, ph, hp, ml, mh⟩, a1, a2, _, _⟩, ⟨⟨dq, ql, qh, hq, nl, nh⟩, b1, b2, _, _⟩, k⟩ := h; rfl
  · obtain ⟨p, q, m1, m2, n1, n2, i1, i2, j1, j2, rfl, ⟨⟨dp, pl, ph, hp, ml, mh⟩, a1, a2, _, _⟩, ⟨⟨dq, ql, qh, hq, nl, nh⟩, b1, b2, _, _⟩, k⟩ := h
    refine ⟨_, PSs.nox (pss_cons (ps_if (pt_cmpR op_isN (fldK (K := K) (pv 0) rfl) pe_non (nomark _))
      (pss_one (ps_ret (pe_tup (pa_cons (fldK (K := K) (pv 1) rfl) (pa_cons (fldK (K := K) (pv 1) rfl) pa_nil)))))
      pss_nil)
      (pss_cons (ps_if (PW.pt (pw_or (pt_cmpR op_isN (fldK (K := K) (pv 1) rfl) pe_non (nomark _)) (pw_or1 (pt_val (pe_meth (fldK (K := K) (pv 0) rfl) T.cl_Measure T.me_Measure_is_below (ok_Measure_is_below (K := K) T) (hr.mono (by decide)) B0 B0v pass0 (pa_cons (fldK (K := K) (pv 1) rfl) pa_nil))))))
      (pss_one (ps_ret (pe_tup (pa_cons (fldK (K := K) (pv 0) rfl) (pa_cons (fldK (K := K) (pv 0) rfl) pa_nil)))))
      pss_nil)
      (pss_cons (ps_if (pt_val (pe_meth (fldK (K := K) (pv 1) rfl) T.cl_Measure T.me_Measure_is_below (ok_Measure_is_below (K := K) T) (hr.mono (by decide)) B0 B0v pass0 (pa_cons (fldK (K := K) (pv 0) rfl) pa_nil)))
      (pss_one (ps_ret (pe_tup (pa_cons (fldK (K := K) (pv 1) rfl) (pa_cons (fldK (K := K) (pv 1) rfl) pa_nil)))))
      pss_nil)
      (pss_one (ps_ret (pe_tup (pa_cons (fldK (K := K) (pv 0) rfl) (pa_cons (pe_cut (pe_and (fldK (K := K) (pv 0) rfl) (pe_one (fldK (K := K) (pv 1) rfl)))) pa_nil)))))))), ?_⟩
    refine ⟨_, rfl, _, _, _, _, _, rfl, hp, T.cl_Stretch, T.na_Stretch_high, sf_high _ _ _ _, rfl, _, rfl, ?_⟩
    have LA : ∀ x y : Q2, lessA x.1 x.2 y.1 y.2 false = ltq x y := fun x y => by unfold lessA ltq; simp
    cases m2 with
    | none =>
      cases mh
      refine iteT ?_
      exact ⟨_, rfl, _, _, _, _, _, rfl, hq, T.cl_Stretch, T.na_Stretch_high, sf_high _ _ _ _, _, rfl, _, _, _, _, _, rfl, hq, T.cl_Stretch, T.na_Stretch_high_in, sf_high_in _ _ _ _, by show 2 ≤ sizeLine; decide, fun r nr => k r _ _ (same1 nr) upd_same (nh.same (same1 nr))⟩
    | some a =>
      have ma0 := mh
      obtain ⟨pa, rfl, da, hpa⟩ := mh
      refine iteF ?_
      refine ⟨_, rfl, _, _, _, _, _, rfl, hq, T.cl_Stretch, T.na_Stretch_high, sf_high _ _ _ _, rfl, _, rfl, ?_⟩
      cases n2 with
      | none =>
        cases nh
        refine iteT ?_
        refine iteT ?_
        exact ⟨_, rfl, _, _, _, _, _, rfl, hp, T.cl_Stretch, T.na_Stretch_high, sf_high _ _ _ _, _, rfl, _, _, _, _, _, rfl, hp, T.cl_Stretch, T.na_Stretch_high_in, sf_high_in _ _ _ _, by show 2 ≤ sizeLine; decide, fun r nr => k r _ _ (same1 nr) upd_same (ma0.same (same1 nr))⟩
      | some b =>
        have mb0 := nh
        obtain ⟨pb, rfl, db, hpb⟩ := nh
        refine iteF ?_
        refine ⟨_, rfl, _, _, _, _, _, rfl, hp, T.cl_Stretch, T.na_Stretch_high, sf_high _ _ _ _, pa, _, _, rfl, hpa, mf_no _ _ (by decide +kernel) (by decide +kernel), _, rfl, _, _, _, _, _, rfl, hq, T.cl_Stretch, T.na_Stretch_high, sf_high _ _ _ _, pa, pb, a.1, a.2, b.1, b.2, false, rfl, ⟨_, hpa⟩, ⟨_, hpb⟩, a2.s1.mono (by decide), a2.s2.mono (by decide), b2.s1.mono (by decide), b2.s2.mono (by decide), _, rfl, ?_⟩
        have k : ∀ (r : Addr) (v : V) (H' : Hp), Same H H' → H' r = some (.tup [v, .bl (if ltq b a then (some b, j2) else if eqq a b then (some a, i2 && j2) else (some a, i2)).2]) → MsV (He.ga K "Measure") H' v (if ltq b a then (some b, j2) else if eqq a b then (some a, i2 && j2) else (some a, i2)).1 → Q (.ref r) H' := k
        rcases lt_tri a b with ⟨h1, h2, h3⟩ | ⟨h1, h2, h3⟩ | ⟨h1, h2, h3⟩
        · rw [h3, h2] at k
          · rw [show lessA a.1 a.2 b.1 b.2 false = true from (LA _ _).trans h1]
            exact iteT ⟨_, rfl, _, _, _, _, _, rfl, hp, T.cl_Stretch, T.na_Stretch_high, sf_high _ _ _ _, _, rfl, _, _, _, _, _, rfl, hp, T.cl_Stretch, T.na_Stretch_high_in, sf_high_in _ _ _ _, by show 2 ≤ sizeLine; decide, fun r nr => k r _ _ (same1 nr) upd_same (ma0.same (same1 nr))⟩
        · rw [h3, h2] at k
          · rw [show lessA a.1 a.2 b.1 b.2 false = false from (LA _ _).trans h1]
            refine iteF ?_
            refine ⟨_, rfl, _, _, _, _, _, rfl, hq, T.cl_Stretch, T.na_Stretch_high, sf_high _ _ _ _, pb, _, _, rfl, hpb, mf_no _ _ (by decide +kernel) (by decide +kernel), _, rfl, _, _, _, _, _, rfl, hp, T.cl_Stretch, T.na_Stretch_high, sf_high _ _ _ _, pb, pa, b.1, b.2, a.1, a.2, false, rfl, ⟨_, hpb⟩, ⟨_, hpa⟩, b2.s1.mono (by decide), b2.s2.mono (by decide), a2.s1.mono (by decide), a2.s2.mono (by decide), _, rfl, ?_⟩
            rw [show lessA b.1 b.2 a.1 a.2 false = false from (LA _ _).trans h3]
            refine iteF ?_
            refine ⟨_, rfl, _, _, _, _, _, rfl, hp, T.cl_Stretch, T.na_Stretch_high, sf_high _ _ _ _, ?_⟩
            refine ⟨fun v H' => H = H' ∧ v = .bl (i2 && j2), ?_, ?_⟩
            · refine ⟨_, rfl, _, _, _, _, _, rfl, hp, T.cl_Stretch, T.na_Stretch_high_in, sf_high_in _ _ _ _, _, rfl, ?_⟩
              cases i2 with
              | true => exact iteT ⟨_, rfl, _, _, _, _, _, rfl, hq, T.cl_Stretch, T.na_Stretch_high_in, sf_high_in _ _ _ _, rfl, rfl⟩
              | false => exact iteF ⟨rfl, rfl⟩
            rintro v H' ⟨rfl, rfl⟩
            exact ⟨by show 2 ≤ sizeLine; decide, fun r nr => k r _ _ (same1 nr) upd_same (ma0.same (same1 nr))⟩
        · rw [h3] at k
          · rw [show lessA a.1 a.2 b.1 b.2 false = false from (LA _ _).trans h1]
            refine iteF ?_
            refine ⟨_, rfl, _, _, _, _, _, rfl, hq, T.cl_Stretch, T.na_Stretch_high, sf_high _ _ _ _, pb, _, _, rfl, hpb, mf_no _ _ (by decide +kernel) (by decide +kernel), _, rfl, _, _, _, _, _, rfl, hp, T.cl_Stretch, T.na_Stretch_high, sf_high _ _ _ _, pb, pa, b.1, b.2, a.1, a.2, false, rfl, ⟨_, hpb⟩, ⟨_, hpa⟩, b2.s1.mono (by decide), b2.s2.mono (by decide), a2.s1.mono (by decide), a2.s2.mono (by decide), _, rfl, ?_⟩
            rw [show lessA b.1 b.2 a.1 a.2 false = true from (LA _ _).trans h3]
            exact iteT ⟨_, rfl, _, _, _, _, _, rfl, hq, T.cl_Stretch, T.na_Stretch_high, sf_high _ _ _ _, _, rfl, _, _, _, _, _, rfl, hq, T.cl_Stretch, T.na_Stretch_high_in, sf_high_in _ _ _ _, by show 2 ≤ sizeLine; decide, fun r nr => k r _ _ (same1 nr) upd_same (mb0.same (same1 nr))⟩
theorem ok_Stretch_cut {P : Program} {w : World} {K : PySem.W.Frag} {mg : Str → Option Value} {base : Heap} {φ : Fds} (T : Txt K mg φ) : FnOk P w K mg base CX0 5 (He.fAd K ("Stretch", some "cut")) φ.Stretch_cut p_Stretch_cut (sp_cutS (He.ga K "Measure") (He.ga K "Stretch")) := by
  obtain ⟨_, B0v, B0⟩ := b_cut_low_2 T
  obtain ⟨_, B1v, B1⟩ := b_cut_high_2 T
  obtain ⟨_, B2v, B2⟩ := b_is_empty_4 T
  obtain ⟨_, B3v, B3⟩ := b_Stretch_init_5 T
  refine T.f_Stretch_cut.ok sc_Stretch_cut (fun vs H Q E h => ?_) (fun cdv A outer s H vs Q E hr h => ?_)
  · obtain ⟨p, q, m1, m2, n1, n2, i1, i2, j1, j2, rfl, sp, sq, k⟩ := h; rfl
  · obtain ⟨p, q, m1, m2, n1, n2, i1, i2, j1, j2, rfl, sp, sq, k⟩ := h
    refine ⟨_, PSs.nox (pss_cons (ps_asg (pe_call (ok_cut_low (K := K) T) (hr.mono (by decide)) rfl T.g_cut_low T.f_cut_low.kp B0 B0v pass0 (pa_cons (pv 0) (pa_cons (pv 1) pa_nil))) (pg_tup rfl (pgs_cons (pg_name (i := 2) sc_Stretch_cut.nd rfl (Or.inl rfl)) (pgs_cons (pg_name (i := 3) sc_Stretch_cut.nd rfl (Or.inl rfl)) pgs_nil))))
      (pss_cons (ps_asg (pe_call (ok_cut_high (K := K) T) (hr.mono (by decide)) rfl T.g_cut_high T.f_cut_high.kp B1 B1v pass0 (pa_cons (pv 0) (pa_cons (pv 1) pa_nil))) (pg_tup rfl (pgs_cons (pg_name (i := 4) sc_Stretch_cut.nd rfl (Or.inl rfl)) (pgs_cons (pg_name (i := 5) sc_Stretch_cut.nd rfl (Or.inl rfl)) pgs_nil))))
      (pss_cons (ps_if (pt_val (pe_call (ok_is_empty (K := K) T) (hr.mono (by decide)) rfl T.g_is_empty T.f_is_empty.kp B2 B2v pass0 (pa_cons (pv 2) (pa_cons (pv 4) (pa_cons (pv 3) (pa_cons (pv 5) pa_nil))))))
      (pss_one (ps_ret pe_non))
      pss_nil)
      (pss_one (ps_ret (pe_make T.mk_Stretch (ok_Stretch_init (K := K) T) (hr.mono (by decide)) rfl T.g_Stretch B3 B3v pass0 (pa_cons (pv 2) (pa_cons (pv 4) (pa_cons (pv 3) (pa_cons (pv 5) pa_nil)))))))))), ?_⟩
    refine ⟨_, rfl, _, rfl, p, q, m1, m2, n1, n2, i1, i2, j1, j2, rfl, sp, sq, fun r v H1 s1 hr1 mv => ?_⟩
    refine ⟨r, _, rfl, SqT.of hr1, rfl, _, _, rfl, _, _, rfl, rfl, ?_⟩
    refine ⟨_, rfl, _, rfl, p, q, m1, m2, n1, n2, i1, i2, j1, j2, rfl, sp.same s1, sq.same s1, fun r2 w H2 s2 hr2 mw => ?_⟩
    refine ⟨r2, _, rfl, SqT.of hr2, rfl, _, _, rfl, _, _, rfl, rfl, ?_⟩
    have mv2 := mv.same s2
    have lv : LowO (cutLo m1 i1 n1 j1).1 := cutLo_low sp.l1 sq.l1
    have lw : LowO (cutHi m2 i2 n2 j2).1 := cutHi_low sp.l2 sq.l2
    refine ⟨_, rfl, _, rfl, _, rfl, _, rfl, v, w, _, _, _, _, rfl, mv2, mw, lv, lw, _, rfl, ?_⟩
    cases e : someB (cutLo m1 i1 n1 j1).1 (cutHi m2 i2 n2 j2).1 (cutLo m1 i1 n1 j1).2 (cutHi m2 i2 n2 j2).2 with
    | false =>
      refine iteT ?_
      exact k _ H2 (s1.trans s2) (.inr ⟨e, rfl⟩)
    | true =>
      refine iteF ?_
      refine ⟨_, rfl, _, rfl, _, rfl, _, rfl, ?_⟩
      intro x dx nx nd ne
      have sx : Same H2 (upd (upd H2 dx (.own x)) x (.ins (He.ga K "Stretch") dx [])) := fun c o e => by
        rw [upd_ne (ne_of_none e nx)]; exact up1 nd e
      refine ⟨x, dx, v, w, _, _, _, _, rfl, upd_same, mv2.same sx, mw.same sx, lv, lw, e, fun H' hx kp => ⟨rfl, ?_⟩⟩
      have s' : Same H2 H' := made_same nx nd kp
      exact k _ H' ((s1.trans s2).trans s') (.inl ⟨e, x, rfl, StAt.mk' hx s' mv2 mw lv lw⟩)
theorem ok_end_at {P : Program} {w : World} {K : PySem.W.Frag} {mg : Str → Option Value} {base : Heap} {φ : Fds} (T : Txt K mg φ) : FnOk P w K mg base CX0 1 (He.fAd K ("end_at", none)) φ.end_at p_end_at (sp_endat K (He.ga K "Measure")) := by
  refine T.f_end_at.ok sc_end_at (fun vs H Q E h => ?_) (fun cdv A outer s H vs Q E hr h => ?_)
  · obtain ⟨T', k, ps, zs, i, rfl, hq, hm, kk⟩ := h; rfl
  · obtain ⟨T', k, ps, zs, i, rfl, hq, hm, kk⟩ := h
    refine ⟨_, PSs.nox (pss_cons (ps_if (pt_chain op_le op_lt pe_int (pv 1) (pe_callB (id := "len") (lenS (K := K)) (by rfl) T.z_len PySem.boot_len (pa_cons (pv 0) pa_nil)))
      (pss_one (ps_ret (pe_ix (ixs (K := K)) (pv 0) (pv 1) (fun _ _ => rfl))))
      pss_nil)
      (pss_one (ps_ret pe_non))), ?_⟩
    have el : ps.length = zs.length := hm.len
    walk_at "w"
    by_cases c1 : 0 ≤ i
    · obtain ⟨n, rfl⟩ := Int.eq_ofNat_of_zero_le c1
      walk_at "w"
      rw [endQ_in rfl] at kk
      by_cases c2 : n < zs.length
      · obtain ⟨a, ha⟩ := ge2 c2
        obtain ⟨p, ep, qp⟩ := hm.at ha
        rw [ha] at kk
        walk_at "w"
        exact kk _ ⟨p, rfl, qp⟩
      · walk_at "w"
        refine kk _ ?_
        rw [List.getElem?_eq_none (by omega)]
        rfl
    · walk_at "w"
      refine kk _ ?_
      rw [endQ_none (by omega)]
      rfl
theorem ok_has_size {P : Program} {w : World} {K : PySem.W.Frag} {mg : Str → Option Value} {base : Heap} {φ : Fds} (T : Txt K mg φ) : FnOk P w K mg base CX0 2 (He.fAd K ("has_size", none)) φ.has_size p_has_size (sp_hassz K (He.ga K "Measure") (He.ga K "Ladder")) := by
  obtain ⟨_, B0v, B0⟩ := b_is_whole_1 T
  refine T.f_has_size.ok sc_has_size (fun vs H Q E h => ?_) (fun cdv A outer s H vs Q E hr h => ?_)
  · obtain ⟨p, k, zs, r, lo, hi, n, rfl, hL, hn, kk⟩ := h; rfl
  · obtain ⟨p, k, zs, r, lo, hi, n, rfl, hL, hn, kk⟩ := h
    refine ⟨_, PSs.nox (pss_one (ps_ret (pe_and (pe_call (ok_is_whole (K := K) T) (hr.mono (by decide)) rfl T.g_is_whole T.f_is_whole.kp B0 B0v pass0 (pa_cons (pv 1) pa_nil)) (pe_one (pe_chain op_le op_lt pe_int (pv 1) (pe_callB (id := "len") (lenS (K := K)) (by rfl) T.z_len PySem.boot_len (pa_cons (fldK (K := K) (pv 0) rfl) pa_nil))))))), ?_⟩
    have cl_Ladder := T.cl_Ladder
    have na_Ladder_marks := T.na_Ladder_marks
    have na_Ladder_rule := T.na_Ladder_rule
    have na_Ladder_least := T.na_Ladder_least
    have na_Ladder_most := T.na_Ladder_most
    
    obtain ⟨⟨dx, T', ps, l, h, hp, hT, hm, ql, qh⟩, l0, l1, hri, hru, hsp⟩ := hL
    have el : ps.length = zs.length := hm.len
    walk_at "w"
    show Q (.bl (decide ((n : Int) < (ps.length : Int)))) H
    rw [decide_eq_true (by omega)]
    exact kk
theorem ok_Ladder_len {P : Program} {w : World} {K : PySem.W.Frag} {mg : Str → Option Value} {base : Heap} {φ : Fds} (T : Txt K mg φ) : FnOk P w K mg base CX0 1 (He.fAd K ("Ladder", some "__len__")) φ.Ladder_len p_Ladder_len (sp_llen K (He.ga K "Measure") (He.ga K "Ladder")) := by
  refine T.f_Ladder_len.ok sc_Ladder_len (fun vs H Q E h => ?_) (fun cdv A outer s H vs Q E hr h => ?_)
  · obtain ⟨p, k, zs, r, lo, hi, rfl, hL, kk⟩ := h; rfl
  · obtain ⟨p, k, zs, r, lo, hi, rfl, hL, kk⟩ := h
    refine ⟨_, PSs.nox (pss_one (ps_ret (pe_callB (id := "len") (lenS (K := K)) (by rfl) T.z_len PySem.boot_len (pa_cons (fldK (K := K) (pv 0) rfl) pa_nil)))), ?_⟩
    have cl_Ladder := T.cl_Ladder
    have na_Ladder_marks := T.na_Ladder_marks
    have na_Ladder_rule := T.na_Ladder_rule
    have na_Ladder_least := T.na_Ladder_least
    have na_Ladder_most := T.na_Ladder_most
    
    obtain ⟨⟨dx, T', ps, l, h, hp, hT, hm, ql, qh⟩, l0, l1, hri, hru, hsp⟩ := hL
    have el : ps.length = zs.length := hm.len
    walk_at "w"
    rw [el]
    exact kk
theorem ok_stretch_by_rule {P : Program} {w : World} {K : PySem.W.Frag} {mg : Str → Option Value} {base : Heap} {φ : Fds} (T : Txt K mg φ) : FnOk P w K mg base CX0 6 (He.fAd K ("stretch_by_rule", none)) φ.stretch_by_rule p_stretch_by_rule (sp_strR K (He.ga K "Measure") (He.ga K "Stretch")) := by
  obtain ⟨_, B0v, B0⟩ := b_Stretch_init_3 T
  obtain ⟨_, B1v, B1⟩ := b_end_at_2 T
  obtain ⟨_, B2v, B2⟩ := b_Stretch_init_5 T
  obtain ⟨_, B3v, B3⟩ := b_midsts_of_1 T
  refine T.f_stretch_by_rule.ok sc_stretch_by_rule (fun vs H Q E h => ?_) (fun cdv A outer s H vs Q E hr h => ?_)
  · obtain ⟨T', k, ps, zs, r, n, rfl, hT, hm, k0, k1, l1, hn, hr', kk⟩ := h; rfl
  · obtain ⟨T', k, ps, zs, r, n, rfl, hT, hm, k0, k1, l1, hn, hr', kk⟩ := h
    refine ⟨_, PSs.nox (pss_cons (ps_if (pt_cmpR op_eq (pv 1) pe_str (nomark _))
      (pss_one (ps_ret (pe_make T.mk_Stretch (ok_Stretch_init (K := K) T) (hr.mono (by decide)) rfl T.g_Stretch B0 B0v pass0 (pa_cons (pe_call (ok_end_at (K := K) T) (hr.mono (by decide)) rfl T.g_end_at T.f_end_at.kp B1 B1v pass0 (pa_cons (pv 0) (pa_cons (pe_op op_sub (pv 2) pe_int) pa_nil))) (pa_cons (pe_ix (ixt (K := K)) (pv 0) (pv 2) (fun _ _ => rfl)) pa_nil)))))
      pss_nil)
      (pss_cons (ps_if (pt_cmpR op_eq (pv 1) pe_str (nomark _))
      (pss_one (ps_ret (pe_make T.mk_Stretch (ok_Stretch_init (K := K) T) (hr.mono (by decide)) rfl T.g_Stretch B2 B2v pass0 (pa_cons (pe_ix (ixt (K := K)) (pv 0) (pv 2) (fun _ _ => rfl)) (pa_cons (pe_call (ok_end_at (K := K) T) (hr.mono (by decide)) rfl T.g_end_at T.f_end_at.kp B1 B1v pass0 (pa_cons (pv 0) (pa_cons (pe_op op_add (pv 2) pe_int) pa_nil))) (pa_cons pe_bl (pa_cons pe_bl pa_nil)))))))
      pss_nil)
      (pss_cons (ps_set (i := 3) sc_stretch_by_rule.nd rfl (Or.inl rfl) (pe_call (ok_midsts_of (K := K) T) (hr.mono (by decide)) rfl T.g_midsts_of T.f_midsts_of.kp B3 B3v pass0 (pa_cons (pv 0) pa_nil)))
      (pss_one (ps_ret (pe_make T.mk_Stretch (ok_Stretch_init (K := K) T) (hr.mono (by decide)) rfl T.g_Stretch B2 B2v pass0 (pa_cons (pe_call (ok_end_at (K := K) T) (hr.mono (by decide)) rfl T.g_end_at T.f_end_at.kp B1 B1v pass0 (pa_cons (pv 3) (pa_cons (pe_op op_sub (pv 2) pe_int) pa_nil))) (pa_cons (pe_call (ok_end_at (K := K) T) (hr.mono (by decide)) rfl T.g_end_at T.f_end_at.kp B1 B1v pass0 (pa_cons (pv 3) (pa_cons (pv 2) pa_nil))) (pa_cons pe_bl (pa_cons pe_bl pa_nil)))))))))), ?_⟩
    obtain ⟨a, ha⟩ := ge2 hn
    obtain ⟨pa, ea, qa⟩ := hm.at ha
    have l0 : 0 < zs.length := by omega
    refine ⟨_, rfl, rfl, _, rfl, ?_⟩
    refine ite2 (fun e => ?_) (fun e => ?_)
    · have er : r = "up" := V.str.inj (of_decide_eq_true e)
      have ee : rulE zs r n = ((endQ zs ((n : Int) - 1), false), (zs[n]?, true)) := by unfold rulE; rw [if_pos er]
      rw [ee, ha] at kk
      walk_at "w"
      refine ⟨zs, _, rfl, .inr hT, hm, fun v1 q1 => ?_⟩
      walk_at "w"
      have so := some_up (n := n) hr' (i := false) (j := true)
      rw [ha] at so
      exact stq_made (a := endQ zs ((n : Int) - 1)) (b := some a) (ia := false) (ib := true) q1 ⟨pa, rfl, qa⟩ (by omega) (by omega) so fun p H' s S => kk p H' s S
    have er : ¬ r = "up" := fun z => e (decide_eq_true (congrArg V.str z))
    refine ⟨_, rfl, rfl, _, rfl, ?_⟩
    refine ite2 (fun e => ?_) (fun e => ?_)
    · have er2 : r = "down" := V.str.inj (of_decide_eq_true e)
      have ee : rulE zs r n = ((zs[n]?, true), (endQ zs ((n : Int) + 1), false)) := by unfold rulE; rw [if_neg er, if_pos er2]
      rw [ee, ha] at kk
      walk_at "w"
      refine ⟨zs, _, rfl, .inr hT, hm, fun v1 q1 => ?_⟩
      walk_at "w"
      have so := some_dn (n := n) hr' (i := true) (j := false)
      rw [ha] at so
      exact stq_made (b := endQ zs ((n : Int) + 1)) (a := some a) (ia := true) (ib := false) ⟨pa, rfl, qa⟩ q1 (by omega) (by omega) so fun p H' s S => kk p H' s S
    have er2 : ¬ r = "down" := fun z => e (decide_eq_true (congrArg V.str z))
    have ee : rulE zs r n = ((endQ (midq zs) ((n : Int) - 1), true), (endQ (midq zs) n, false)) := by unfold rulE; rw [if_neg er, if_neg er2]
    rw [ee] at kk
    refine ⟨_, rfl, T', k, ps, zs, rfl, hT, hm, k0, k1, l0, l1, fun D ys H1 s1 hD hm1 => ?_⟩
    walk_at "w"
    refine ⟨midq zs, _, rfl, .inl (SqL.of hD), hm1, fun v1 q1 => ?_⟩
    walk_at "w"
    refine ⟨midq zs, _, rfl, .inl (SqL.of hD), hm1, fun v2 q2 => ?_⟩
    exact stq_made (a := endQ (midq zs) ((n : Int) - 1)) (b := endQ (midq zs) n) (ia := true) (ib := false) q1 q2 (by omega) (by omega) (some_nr (midq_rise hr' hm.posL)) fun p H' s S => kk p H' (s1.trans s) S
theorem ok_Ladder_stretch {P : Program} {w : World} {K : PySem.W.Frag} {mg : Str → Option Value} {base : Heap} {φ : Fds} (T : Txt K mg φ) : FnOk P w K mg base CX0 7 (He.fAd K ("Ladder", some "stretch")) φ.Ladder_stretch p_Ladder_stretch (sp_stretch K (He.ga K "Measure") (He.ga K "Ladder") (He.ga K "Stretch")) := by
  obtain ⟨_, B0v, B0⟩ := b_has_size_2 T
  obtain ⟨_, B1v, B1⟩ := b_Stretch_init_5 T
  obtain ⟨_, B2v, B2⟩ := b_Stretch_cut_2 T
  obtain ⟨_, B3v, B3⟩ := b_stretch_by_rule_3 T
  refine T.f_Ladder_stretch.ok sc_Ladder_stretch (fun vs H Q E h => ?_) (fun cdv A outer s H vs Q E hr h => ?_)
  · obtain ⟨p, k, zs, r, lo, hi, n, rfl, hL, k0, k1, hn, kk⟩ := h; rfl
  · obtain ⟨p, k, zs, r, lo, hi, n, rfl, hL, k0, k1, hn, kk⟩ := h
    refine ⟨_, PSs.nox (pss_cons (ps_if (pt_not (pt_val (pe_call (ok_has_size (K := K) T) (hr.mono (by decide)) rfl T.g_has_size T.f_has_size.kp B0 B0v pass0 (pa_cons (pv 0) (pa_cons (pv 1) pa_nil)))))
      (pss_one ps_never)
      pss_nil)
      (pss_cons (ps_set (i := 2) sc_Ladder_stretch.nd rfl (Or.inl rfl) (pe_make T.mk_Stretch (ok_Stretch_init (K := K) T) (hr.mono (by decide)) rfl T.g_Stretch B1 B1v pass0 (pa_cons (fldK (K := K) (pv 0) rfl) (pa_cons (fldK (K := K) (pv 0) rfl) (pa_cons pe_bl (pa_cons pe_bl pa_nil))))))
      (pss_one (ps_ret (pe_meth (pe_call (ok_stretch_by_rule (K := K) T) (hr.mono (by decide)) rfl T.g_stretch_by_rule T.f_stretch_by_rule.kp B3 B3v pass0 (pa_cons (fldK (K := K) (pv 0) rfl) (pa_cons (fldK (K := K) (pv 0) rfl) (pa_cons (pv 1) pa_nil)))) T.cl_Stretch T.me_Stretch_cut (ok_Stretch_cut (K := K) T) (hr.mono (by decide)) B2 B2v pass0 (pa_cons (pv 2) pa_nil)))))), ?_⟩
    have cl_Ladder := T.cl_Ladder
    have na_Ladder_marks := T.na_Ladder_marks
    have na_Ladder_rule := T.na_Ladder_rule
    have na_Ladder_least := T.na_Ladder_least
    have na_Ladder_most := T.na_Ladder_most
    
    have hL0 := hL
    obtain ⟨⟨dx, T', ps, l, h, hp, hT, hm, ql, qh⟩, l0, l1, hri, hru, hsp⟩ := hL
    have el : ps.length = zs.length := hm.len
    walk_at "w"
    refine ⟨zs, _, lo, hi, n, rfl, hL0, hn, _, rfl, iteF ?_⟩
    walk_at "w"
    change ∀ (x dx : Addr), _
    refine stq_made (a := lo) (b := hi) (ia := true) (ib := true) ql qh (by omega) (by omega) (some_tt hsp) (fun B H1 s1 SB => ?_)
    have hp1 := s1 _ _ hp
    have hT1 := s1.sqt hT
    have hm1 := hm.same s1
    walk_at "w"
    refine ⟨zs, _, n, rfl, hT1, hm1, k0, k1, l1, hn, hri, fun S H2 s2 SS => ?_⟩
    obtain ⟨a1, b1, St1, ra, rb⟩ := SS
    obtain ⟨a2, b2, St2, rc, rd⟩ := SB.same s2
    refine meth_s St1 (by decide +kernel) (by decide +kernel) (by decide +kernel) (by decide +kernel) ?_
    refine ⟨_, rfl, S, B, _, _, _, _, _, _, _, _, rfl, St1, St2, fun v H3 s3 C => ?_⟩
    have A1 : Alike (a1, (rulE zs r n).1.2 && (rulE zs r n).1.1.isSome) (rulE zs r n).1 := Alike.norm (i := (rulE zs r n).1.2) ra
    have A2 : Alike (a2, true && lo.isSome) (lo, true) := Alike.norm rc
    have B1 : Alike (b1, (rulE zs r n).2.2 && (rulE zs r n).2.1.isSome) (rulE zs r n).2 := Alike.norm (i := (rulE zs r n).2.2) rb
    have B2 : Alike (b2, true && hi.isSome) (hi, true) := Alike.norm rd
    exact kk v H3 ((s1.trans s2).trans s3) ⟨_, _, C, cutLo_alike A1 A2, cutHi_alike B1 B2⟩
theorem ok_Measure_minus {P : Program} {w : World} {K : PySem.W.Frag} {mg : Str → Option Value} {base : Heap} {φ : Fds} (T : Txt K mg φ) : FnOk P w K mg base CX0 4 (He.fAd K ("Measure", some "minus")) φ.Measure_minus p_Measure_minus (sp_bin2 (He.ga K "Measure") (fun t u t' u' => t * u' - t' * u) (fun t u t' u' => u * u')) := by
  obtain ⟨_, B0v, B0⟩ := b_Measure_init_3 T
  refine T.f_Measure_minus.ok sc_Measure_minus (fun vs H Q E h => ?_) (fun cdv A outer s H vs Q E hr h => ?_)
  · obtain ⟨p, q, t, u, t', u', rfl, ⟨dp, hp⟩, ⟨dq, hq⟩, hu, hu', st, su, st', su', sg, k⟩ := h; rfl
  · obtain ⟨p, q, t, u, t', u', rfl, ⟨dp, hp⟩, ⟨dq, hq⟩, hu, hu', st, su, st', su', sg, k⟩ := h
    refine ⟨_, PSs.nox (pss_one (ps_ret (pe_make T.mk_Measure (ok_Measure_init (K := K) T) (hr.mono (by decide)) rfl T.g_Measure B0 B0v pass0 (pa_cons (pe_op op_sub (pe_op op_mulA (fldK (K := K) (pv 0) rfl) (fldK (K := K) (pv 1) rfl)) (pe_op op_mulA (fldK (K := K) (pv 1) rfl) (fldK (K := K) (pv 0) rfl))) (pa_cons (pe_op op_mulA (fldK (K := K) (pv 0) rfl) (fldK (K := K) (pv 1) rfl)) pa_nil))))), ?_⟩
    refine ⟨_, rfl, _, _, _, _, _, rfl, hp, T.cl_Measure, T.na_Measure_top, mf_top _ _, _, rfl, _, _, _, _, _, rfl, hq, T.cl_Measure, T.na_Measure_bottom, mf_bottom _ _, _, _, rfl, rfl, st.cmul su' (by decide) (by decide) (by decide), _, rfl, _, _, _, _, _, rfl, hq, T.cl_Measure, T.na_Measure_top, mf_top _ _, _, rfl, _, _, _, _, _, rfl, hp, T.cl_Measure, T.na_Measure_bottom, mf_bottom _ _, _, _, rfl, rfl, st'.cmul su (by decide) (by decide) (by decide), _, _, rfl, rfl, _, rfl, _, _, _, _, _, rfl, hp, T.cl_Measure, T.na_Measure_bottom, mf_bottom _ _, _, rfl, _, _, _, _, _, rfl, hq, T.cl_Measure, T.na_Measure_bottom, mf_bottom _ _, _, _, rfl, rfl, su.cmul su' (by decide) (by decide) (by decide), ?_⟩
    intro x dx nx nd ne
    refine ⟨x, dx, _, _, rfl, upd_same, Int.mul_ne_zero (by omega) (by omega), sg.log (by decide) (by decide), fun t2 u2 H' fr hx kp => ⟨rfl, ?_⟩⟩
    exact k x t2 u2 H' nx (made_same nx nd kp) ⟨_, hx⟩ fr
theorem ok_some_measure {P : Program} {w : World} {K : PySem.W.Frag} {mg : Str → Option Value} {base : Heap} {φ : Fds} (T : Txt K mg φ) : FnOk P w K mg base CX0 5 (He.fAd K ("some_measure", none)) φ.some_measure p_some_measure (sp_some27 (He.ga K "Measure") (He.ga K "Stretch")) := by
  obtain ⟨_, B0v, B0⟩ := b_Measure_init_2 T
  obtain ⟨_, B1v, B1⟩ := b_Measure_minus_2 T
  obtain ⟨_, B2v, B2⟩ := b_Measure_plus_2 T
  obtain ⟨_, B3v, B3⟩ := b_Measure_parted_1 T
  refine T.f_some_measure.ok sc_some_measure (fun vs H Q E h => ?_) (fun cdv A outer s H vs Q E hr h => ?_)
  · obtain ⟨p, k, lo, hi, li, hj, rfl, S, sl, sh, so, k0, k1, kk⟩ := h; rfl
  · obtain ⟨p, k, lo, hi, li, hj, rfl, S, sl, sh, so, k0, k1, kk⟩ := h
    refine ⟨_, PSs.nox (pss_cons (ps_if (pt_val (fldK (K := K) (pv 0) rfl))
      (pss_one (ps_ret (fldK (K := K) (pv 0) rfl)))
      pss_nil)
      (pss_cons (ps_if (pt_val (fldK (K := K) (pv 0) rfl))
      (pss_one (ps_ret (fldK (K := K) (pv 0) rfl)))
      pss_nil)
      (pss_cons (ps_if (PW.pt (pw_and (pt_cmpR op_isN (fldK (K := K) (pv 0) rfl) pe_non (nomark _)) (pw_and1 (pt_cmpR op_isN (fldK (K := K) (pv 0) rfl) pe_non (nomark _)))))
      (pss_one (ps_ret (pe_make T.mk_Measure (ok_Measure_init (K := K) T) (hr.mono (by decide)) rfl T.g_Measure B0 B0v pass0 (pa_cons pe_int pa_nil))))
      pss_nil)
      (pss_cons (ps_if (pt_cmpR op_isN (fldK (K := K) (pv 0) rfl) pe_non (nomark _))
      (pss_one (ps_ret (pe_meth (fldK (K := K) (pv 0) rfl) T.cl_Measure T.me_Measure_minus (ok_Measure_minus (K := K) T) (hr.mono (by decide)) B1 B1v pass0 (pa_cons (pe_make T.mk_Measure (ok_Measure_init (K := K) T) (hr.mono (by decide)) rfl T.g_Measure B0 B0v pass0 (pa_cons pe_int pa_nil)) pa_nil))))
      pss_nil)
      (pss_cons (ps_if (pt_cmpR op_isN (fldK (K := K) (pv 0) rfl) pe_non (nomark _))
      (pss_one (ps_ret (pe_meth (fldK (K := K) (pv 0) rfl) T.cl_Measure T.me_Measure_plus (ok_Measure_plus (K := K) T) (hr.mono (by decide)) B2 B2v pass0 (pa_cons (pe_make T.mk_Measure (ok_Measure_init (K := K) T) (hr.mono (by decide)) rfl T.g_Measure B0 B0v pass0 (pa_cons pe_int pa_nil)) pa_nil))))
      pss_nil)
      (pss_one (ps_ret (pe_meth0 (pe_meth (fldK (K := K) (pv 0) rfl) T.cl_Measure T.me_Measure_plus (ok_Measure_plus (K := K) T) (hr.mono (by decide)) B2 B2v pass0 (pa_cons (fldK (K := K) (pv 0) rfl) pa_nil)) T.cl_Measure T.me_Measure_parted (ok_Measure_parted (K := K) T) (hr.mono (by decide)) B3 B3v pass0)))))))), ?_⟩
    have cl_Stretch := T.cl_Stretch
    have na_Stretch_low := T.na_Stretch_low
    have na_Stretch_high := T.na_Stretch_high
    have na_Stretch_low_in := T.na_Stretch_low_in
    have na_Stretch_high_in := T.na_Stretch_high_in
    have cl_Measure := T.cl_Measure
    have na_Measure_top := T.na_Measure_top
    have na_Measure_bottom := T.na_Measure_bottom
    
    obtain ⟨⟨dp, l, h, hp, ml, mh⟩, l1, l2, n1, n2⟩ := S
    have ql : QO (He.ga K "Measure") H k l lo := qo_of ml l1 (reO_self l1.posO) sl
    have qh : QO (He.ga K "Measure") H k h hi := qo_of mh l2 (reO_self l2.posO) sh
    cases li with
    | true =>
      cases lo with
      | none => cases n1 rfl
      | some a =>
        obtain ⟨pa, rfl, qa⟩ := ql
        walk_at "w"
        refine kk pa a H (Same.refl _) (qa.mono (by omega)) ?_ ?_
        · show (ltq a a || (true && eqq a a)) = true
          rw [eqq_self]; simp
        · cases hi with
          | none => rfl
          | some b =>
            show (ltq a b || (hj && eqq a b)) = true
            have so : (ltq a b || (eqq a b && true && hj)) = true := so
            revert so
            cases ltq a b <;> cases eqq a b <;> cases hj <;> simp
    | false =>
      cases hj with
      | true =>
        cases hi with
        | none => cases n2 rfl
        | some b =>
          obtain ⟨pb, rfl, qb⟩ := qh
          walk_at "w"
          refine kk pb b H (Same.refl _) (qb.mono (by omega)) ?_ ?_
          · cases lo with
            | none => rfl
            | some a =>
              show (ltq a b || (false && eqq a b)) = true
              have so : (ltq a b || (eqq a b && false && true)) = true := so
              revert so
              cases ltq a b <;> cases eqq a b <;> simp
          · show (ltq b b || (true && eqq b b)) = true
            rw [eqq_self]; simp
      | false =>
        refine ⟨_, rfl, p, _, dp, _, _, rfl, hp, cl_Stretch, na_Stretch_low_in, sf_low_in _ _ _ _, _, rfl, iteF ?_⟩
        refine ⟨_, rfl, p, _, dp, _, _, rfl, hp, cl_Stretch, na_Stretch_high_in, sf_high_in _ _ _ _, _, rfl, iteF ?_⟩
        cases lo with
        | none =>
          cases ql
          refine ⟨_, rfl, p, _, dp, _, _, rfl, hp, cl_Stretch, na_Stretch_low, sf_low _ _ _ _, rfl, _, rfl, iteDT rfl ?_⟩
          cases hi with
          | none =>
            cases qh
            refine ⟨_, rfl, p, _, dp, _, _, rfl, hp, cl_Stretch, na_Stretch_high, sf_high _ _ _ _, rfl, _, rfl, iteDT rfl ?_⟩
            refine q_made (k := 1) (by decide) (by decide) (by decide) (by decide) (by decide) fun q H1 s1 R => kk q (0, 1) H1 s1 (R.mono (by omega)) rfl rfl
          | some b =>
            obtain ⟨pb, rfl, qb⟩ := qh
            refine ⟨_, rfl, p, _, dp, _, _, rfl, hp, cl_Stretch, na_Stretch_high, sf_high _ _ _ _, rfl, _, rfl, iteDF (fun e => by cases e) ?_⟩
            refine ⟨_, rfl, p, _, dp, _, _, rfl, hp, cl_Stretch, na_Stretch_low, sf_low _ _ _ _, rfl, _, rfl, iteDT rfl ?_⟩
            refine ⟨_, rfl, p, _, dp, _, _, rfl, hp, cl_Stretch, na_Stretch_high, sf_high _ _ _ _, meth_q qb (by decide +kernel) (by decide +kernel) ?_⟩
            refine q_made (k := 1) (by decide) (by decide) (by decide) (by decide) (by decide) fun q H1 s1 R => ?_
            refine q_subT (qb.same s1) R (by omega) k0 (by decide) fun r H2 s2 R2 => ?_
            refine kk r (qsub b (1, 1)) H2 (s1.trans s2) (R2.mono (by omega)) rfl ?_
            show (ltq (qsub b (1, 1)) b || (false && eqq (qsub b (1, 1)) b)) = true
            have e := sub_R qb.pos (show 0 < ((1, 1) : Q2).2 by decide)
            have e1 : toR (1, 1) = 1 := by unfold toR; grind
            rw [(ltq_R R2.pos qb.pos).mpr (by rw [e, e1]; grind)]
            rfl
        | some a =>
          obtain ⟨pa, rfl, qa⟩ := ql
          refine ⟨_, rfl, p, _, dp, _, _, rfl, hp, cl_Stretch, na_Stretch_low, sf_low _ _ _ _, rfl, _, rfl, iteDF (fun e => by cases e) (iteF ?_)⟩
          refine ⟨_, rfl, p, _, dp, _, _, rfl, hp, cl_Stretch, na_Stretch_low, sf_low _ _ _ _, rfl, _, rfl, iteDF (fun e => by cases e) ?_⟩
          cases hi with
          | none =>
            cases qh
            refine ⟨_, rfl, p, _, dp, _, _, rfl, hp, cl_Stretch, na_Stretch_high, sf_high _ _ _ _, rfl, _, rfl, iteDT rfl ?_⟩
            refine ⟨_, rfl, p, _, dp, _, _, rfl, hp, cl_Stretch, na_Stretch_low, sf_low _ _ _ _, meth_q qa (by decide +kernel) (by decide +kernel) ?_⟩
            refine q_made (k := 1) (by decide) (by decide) (by decide) (by decide) (by decide) fun q H1 s1 R => ?_
            refine q_addT (qa.same s1) R (by omega) k0 (by decide) fun r H2 s2 R2 => ?_
            refine kk r (qadd a (1, 1)) H2 (s1.trans s2) (R2.mono (by omega)) ?_ rfl
            show (ltq a (qadd a (1, 1)) || (false && eqq a (qadd a (1, 1)))) = true
            have e := add_R qa.pos (show 0 < ((1, 1) : Q2).2 by decide)
            have e1 : toR (1, 1) = 1 := by unfold toR; grind
            rw [(ltq_R qa.pos R2.pos).mpr (by rw [e, e1]; grind)]
            rfl
          | some b =>
            obtain ⟨pb, rfl, qb⟩ := qh
            have so : (ltq a b || (eqq a b && false && false)) = true := so
            have lt : ltq a b = true := by
              revert so
              cases ltq a b <;> cases eqq a b <;> simp
            have ltR := (ltq_R qa.pos qb.pos).mp lt
            refine ⟨_, rfl, p, _, dp, _, _, rfl, hp, cl_Stretch, na_Stretch_high, sf_high _ _ _ _, rfl, _, rfl, iteDF (fun e => by cases e) ?_⟩
            refine ⟨_, rfl, p, _, dp, _, _, rfl, hp, cl_Stretch, na_Stretch_low, sf_low _ _ _ _, meth_q qa (by decide +kernel) (by decide +kernel) ?_⟩
            refine ⟨_, rfl, p, _, dp, _, _, rfl, hp, cl_Stretch, na_Stretch_high, sf_high _ _ _ _, ?_⟩
            refine q_addT qa qb (by omega) k0 k0 fun r H2 s2 R2 => ?_
            refine meth_q R2 (by decide +kernel) (by decide +kernel) ?_
            refine q_prt2T R2 (by omega) (by omega) fun r3 H3 s3 R3 => ?_
            have m := midR ltR
            have e : toR (qprt (qadd a b) 2) = (toR a + toR b) / 2 := half_R qa.pos qb.pos
            refine kk r3 _ H3 (s2.trans s3) (R3.mono (by omega)) ?_ ?_
            · show (ltq a (qprt (qadd a b) 2) || (false && eqq a (qprt (qadd a b) 2))) = true
              rw [(ltq_R qa.pos R3.pos).mpr (by rw [e]; exact m.1)]
              rfl
            · show (ltq (qprt (qadd a b) 2) b || (false && eqq (qprt (qadd a b) 2) b)) = true
              rw [(ltq_R R3.pos qb.pos).mpr (by rw [e]; exact m.2)]
              rfl
theorem ok_Stretch_shared {P : Program} {w : World} {K : PySem.W.Frag} {mg : Str → Option Value} {base : Heap} {φ : Fds} (T : Txt K mg φ) : FnOk P w K mg base CX0 6 (He.fAd K ("Stretch", some "shared")) φ.Stretch_shared p_Stretch_shared (sp_sh27 (He.ga K "Measure") (He.ga K "Stretch")) := by
  obtain ⟨_, B0v, B0⟩ := b_Stretch_cut_2 T
  obtain ⟨_, B1v, B1⟩ := b_some_measure_1 T
  refine T.f_Stretch_shared.ok sc_Stretch_shared (fun vs H Q E h => ?_) (fun cdv A outer s H vs Q E hr h => ?_)
  · obtain ⟨p, q, k, m1, m2, n1, n2, i1, i2, j1, j2, rfl, sp, sq, z1, z2, z3, z4, k0, k1, kk⟩ := h; rfl
  · obtain ⟨p, q, k, m1, m2, n1, n2, i1, i2, j1, j2, rfl, sp, sq, z1, z2, z3, z4, k0, k1, kk⟩ := h
    refine ⟨_, PSs.nox (pss_cons (ps_set (i := 2) sc_Stretch_shared.nd rfl (Or.inl rfl) (pe_meth (pv 0) T.cl_Stretch T.me_Stretch_cut (ok_Stretch_cut (K := K) T) (hr.mono (by decide)) B0 B0v pass0 (pa_cons (pv 1) pa_nil)))
      (pss_cons (ps_if (pt_cmpR op_isN (pv 2) pe_non (nomark _))
      (pss_one (ps_ret pe_non))
      pss_nil)
      (pss_one (ps_ret (pe_call (ok_some_measure (K := K) T) (hr.mono (by decide)) rfl T.g_some_measure T.f_some_measure.kp B1 B1v pass0 (pa_cons (pv 2) pa_nil)))))), ?_⟩
    have cl_Stretch := T.cl_Stretch
    have na_Stretch_low := T.na_Stretch_low
    have na_Stretch_high := T.na_Stretch_high
    have na_Stretch_low_in := T.na_Stretch_low_in
    have na_Stretch_high_in := T.na_Stretch_high_in
    
    obtain ⟨dx, fs, hx, no⟩ := sp.raw (m := "cut") (by decide +kernel) (by decide +kernel) (by decide +kernel) (by decide +kernel)
    refine ⟨_, rfl, p, dx, fs, rfl, hx, no, _, rfl, p, q, m1, m2, n1, n2, i1, i2, j1, j2, rfl, sp, sq, fun v H1 s1 c => ?_⟩
    refine ⟨_, rfl, rfl, _, rfl, ?_⟩
    rcases c with ⟨e, r, rfl, S⟩ | ⟨e, rfl⟩
    · refine iteDF (fun e => by cases e) ?_
      have so : someB (cutLo m1 i1 n1 j1).1 (cutHi m2 i2 n2 j2).1 ((cutLo m1 i1 n1 j1).2 && (cutLo m1 i1 n1 j1).1.isSome) ((cutHi m2 i2 n2 j2).2 && (cutHi m2 i2 n2 j2).1.isSome) = true := by
        revert e
        generalize cutLo m1 i1 n1 j1 = c
        generalize cutHi m2 i2 n2 j2 = d
        obtain ⟨c, i⟩ := c
        obtain ⟨d, j⟩ := d
        cases c <;> cases d <;> simp [someB]
      refine ⟨_, rfl, r, k, _, _, _, _, rfl, S, cutLo_sze z1 z3, cutHi_sze z2 z4, so, k0, k1, fun t z H2 s2 qz g1 g2 => ?_⟩
      rw [loIn_flag (x := cutLo m1 i1 n1 j1), cutLo_in sp.l1.posO sq.l1.posO qz.pos, Bool.and_eq_true] at g1
      rw [hiIn_flag (x := cutHi m2 i2 n2 j2), cutHi_in sp.l2.posO sq.l2.posO qz.pos, Bool.and_eq_true] at g2
      exact kk _ H2 (s1.trans s2) (.inl ⟨t, z, rfl, qz, g1.1, g2.1, g1.2, g2.2⟩)
    · refine iteDT rfl ?_
      exact kk _ H1 s1 (.inr ⟨e, rfl⟩)
theorem ok_shared_by {P : Program} {w : World} {K : PySem.W.Frag} {mg : Str → Option Value} {base : Heap} {φ : Fds} (T : Txt K mg φ) : FnOk P w K mg base CX0 7 (He.fAd K ("shared_by", none)) φ.shared_by p_shared_by (sp_shby (He.ga K "Measure") (He.ga K "Stretch")) := by
  obtain ⟨_, B0v, B0⟩ := b_Stretch_shared_2 T
  refine T.f_shared_by.ok sc_shared_by (fun vs H Q E h => ?_) (fun cdv A outer s H vs Q E hr h => ?_)
  · obtain ⟨v, w', k, zs, zt, r, rt, lo, hi, lt, ht, a, b, rfl, rv, rw', L, M, ha, hb, z1, z2, z3, z4, k0, k1, kk⟩ := h; rfl
  · obtain ⟨v, w', k, zs, zt, r, rt, lo, hi, lt, ht, a, b, rfl, rv, rw', L, M, ha, hb, z1, z2, z3, z4, k0, k1, kk⟩ := h
    refine ⟨_, PSs.nox (pss_cons (ps_if (PW.pt (pw_or (pt_cmpR op_isN (pv 0) pe_non (nomark _)) (pw_or1 (pt_cmpR op_isN (pv 1) pe_non (nomark _)))))
      (pss_one (ps_ret pe_non))
      pss_nil)
      (pss_one (ps_ret (pe_meth (pv 0) T.cl_Stretch T.me_Stretch_shared (ok_Stretch_shared (K := K) T) (hr.mono (by decide)) B0 B0v pass0 (pa_cons (pv 1) pa_nil))))), ?_⟩
    have cl_Stretch := T.cl_Stretch
    have na_Stretch_low := T.na_Stretch_low
    have na_Stretch_high := T.na_Stretch_high
    have na_Stretch_low_in := T.na_Stretch_low_in
    have na_Stretch_high_in := T.na_Stretch_high_in
    
    rcases rv with ⟨s1, p, rfl, m1, m2, S, r1, r2⟩ | ⟨s1, rfl⟩
    · rcases rw' with ⟨s2, q, rfl, n1, n2, S2, q1, q2⟩ | ⟨s2, rfl⟩
      · obtain ⟨dx, fs, hx, no⟩ := S.raw (m := "shared") (by decide +kernel) (by decide +kernel) (by decide +kernel) (by decide +kernel)
        refine ⟨_, rfl, rfl, _, rfl, iteDF (fun e => by cases e) ?_⟩
        refine ⟨_, rfl, rfl, _, rfl, iteDF (fun e => by cases e) ?_⟩
        obtain ⟨d1, va, vb, h1, ma, mb⟩ := S.ob
        obtain ⟨d2, vc, vd, h2, mc, md⟩ := S2.ob
        refine ⟨_, rfl, p, dx, fs, rfl, hx, no, _, rfl, p, q, k, m1, m2, n1, n2, _, _, _, _, rfl, S, S2, raw_sze ma S.l1 r1 z1, raw_sze mb S.l2 r2 z2, raw_sze mc S2.l1 q1 z3, raw_sze md S2.l2 q2 z4, k0, k1, fun u H' s m => ?_⟩
        exact kk u H' s (met_of L M ha hb S.l1.posO S.l2.posO S2.l1.posO S2.l2.posO r1 r2 q1 q2 m)
      · refine ⟨_, rfl, rfl, _, rfl, iteDF (fun e => by cases e) ?_⟩
        refine ⟨_, rfl, rfl, _, rfl, iteDT rfl ?_⟩
        exact kk _ H (Same.refl _) (.inr ⟨rfl, fun x f g => none_met M hb s2 g⟩)
    · refine ⟨_, rfl, rfl, _, rfl, iteDT rfl (iteT ?_)⟩
      exact kk _ H (Same.refl _) (.inr ⟨rfl, fun x f g => none_met L ha s1 f⟩)
theorem ok_common_measures {P : Program} {w : World} {K : PySem.W.Frag} {mg : Str → Option Value} {base : Heap} {φ : Fds} (T : Txt K mg φ) : FnOk P w K mg base CX0 8 (He.fAd K ("common_measures", none)) φ.common_measures p_common_measures (sp_common27 K (He.ga K "Measure") (He.ga K "Ladder")) := by
  obtain ⟨_, B0v, B0⟩ := b_Ladder_stretch_2 T
  obtain ⟨_, B1v, B1⟩ := b_Ladder_len_1 T
  obtain ⟨_, B2v, B2⟩ := b_shared_by_2 T
  refine T.f_common_measures.ok sc_common_measures (fun vs H Q E h => ?_) (fun cdv A outer s H vs Q E hr h => ?_)
  · obtain ⟨p, q, k, zs, zt, r, rt, lo, hi, lt, ht, a, rfl, hp, hq, ha, k0, k1, kk⟩ := h; rfl
  · obtain ⟨p, q, k, zs, zt, r, rt, lo, hi, lt, ht, a, rfl, hp, hq, ha, k0, k1, kk⟩ := h
    refine ⟨_, PSs.nox (pss_cons (ps_set (i := 3) sc_common_measures.nd rfl (Or.inr rfl) (pe_meth (pv 0) T.cl_Ladder T.me_Ladder_stretch (ok_Ladder_stretch (K := K) T) (hr.mono (by decide)) B0 B0v pass0 (pa_cons (pv 1) pa_nil)))
      (pss_one (ps_ret (pe_lc (own := [("size", 4)]) (g := gName 4) rfl sc_common_measures.nd (pi_range1 rfl T.z_range (pa_cons (pe_callB (id := "len") (call_lenO (ok_Ladder_len (K := K) T) T.me_Ladder_len (bnil B1v B1) pass0 (hr.mono (by decide))) (by rfl) T.z_len PySem.boot_len (pa_cons (pv 2) pa_nil)) pa_nil)) (blkOk_by (own := [("size", 4)]) (N := N_common_measures) (sc := (defScope s_common_measures)) (by decide +kernel)) (fun _ _ _ _ _ => (pg_name (i := 4) sc_common_measures.nd rfl (Or.inl rfl))) (fun _ _ _ _ _ => pts_nil) (fun _ _ _ _ _ => (pe_call (ok_shared_by (K := K) T) (hr.mono (by decide)) rfl T.g_shared_by T.f_shared_by.kp B2 B2v pass0 (pa_cons (pv 3) (pa_cons (pe_meth (pv 2) T.cl_Ladder T.me_Ladder_stretch (ok_Ladder_stretch (K := K) T) (hr.mono (by decide)) B0 B0v pass0 (pa_cons (pv 4) pa_nil)) pa_nil)))))))), ?_⟩
    have cl_Ladder := T.cl_Ladder
    have na_Ladder_marks := T.na_Ladder_marks
    have na_Ladder_rule := T.na_Ladder_rule
    have na_Ladder_least := T.na_Ladder_least
    have na_Ladder_most := T.na_Ladder_most
    
    obtain ⟨⟨dx, T', ps, l, h, hpp, hT, hm, ql, qh⟩, _⟩ := id hp
    obtain ⟨⟨dx2, T2, ps2, l2, h2, hqp, hT2, hm2, ql2, qh2⟩, _⟩ := id hq
    have sz1 := fun n => sizE_sz (n := n) (r := r) (szL_of hm) (szE_of ql) (szE_of qh)
    have sz2 := fun n => sizE_sz (n := n) (r := rt) (szL_of hm2) (szE_of ql2) (szE_of qh2)
    have l24 := hq.len1
    refine ⟨_, rfl, meth_l hp (by decide +kernel) (by decide +kernel) (by decide +kernel) (by decide +kernel) ⟨_, rfl, p, k, zs, r, lo, hi, a, rfl, hp, k0, by omega, ha, fun v H1 s1 c => ?_⟩⟩
    have rv := run_of c
    have hq1 := hq.same s1
    refine ⟨_, rfl, _, q, dx2, _, rfl, rfl, s1 _ _ hqp, q, k, zt, rt, lt, ht, rfl, hq1, zt.length, rfl, by omega, ?_⟩
    walk_at "w"
    intro D nD
    refine lcr (n := zt.length) walk_range (fun _ _ _ _ => trivial) (fun i H v => MetV (He.ga K "Measure") H (4 * k + 36) v (sizF zs r lo hi) (sizF zt rt lt ht) a i) (fun i H H' v q n => q.nl n) (szs (by omega)) trivial nD (fun i x H2 H3 N M hi' s2 yy hN => ?_) (fun H2 us s2 hD ly hy => ?_)
    · obtain ⟨rfl, rfl⟩ := yy
      have hq2 := hq1.same s2
      refine ⟨rfl, yesT ?_⟩
      refine ⟨_, rfl, _, rfl, meth_l hq2 (by decide +kernel) (by decide +kernel) (by decide +kernel) (by decide +kernel) ⟨_, rfl, q, k, zt, rt, lt, ht, i, by show [V.ref q, V.int (0 + (i : Int))] = _; rw [Int.zero_add], hq2, k0, by omega, hi', fun w' H4 s4 c2 => ?_⟩⟩
      refine ⟨v, w', k + k + 12, zs, zt, r, rt, lo, hi, lt, ht, a, i, rfl, (rv.same s2).same s4, run_of c2, ladq_of hp, ladq_of hq, ha, hi', (sz1 a).1, (sz1 a).2, (sz2 i).1, (sz2 i).2, by omega, by omega, fun u H5 s5 m => ?_⟩
      exact hN _ _ (s4.trans s5) ((show k + k + 12 + (k + k + 12) + 12 = 4 * k + 36 by omega) ▸ m)
    exact kk D us H2 (s1.trans s2) hD ly (fun b u hu => hy b u hu)
theorem ok_led {P : Program} {w : World} {K : PySem.W.Frag} {mg : Str → Option Value} {base : Heap} {φ : Fds} (T : Txt K mg φ) : FnOk P w K mg base CX0 9 (He.fAd K ("led", none)) φ.led p_led (sp_led K (He.ga K "Measure") (He.ga K "Ladder")) := by
  obtain ⟨_, B0v, B0⟩ := b_common_measures_3 T
  refine T.f_led.ok sc_led (fun vs H Q E h => ?_) (fun cdv A outer s H vs Q E hr h => ?_)
  · obtain ⟨p, q, k, zs, zt, r, rt, lo, hi, lt, ht, a, rfl, hp, hq, ha, k0, k1, kk⟩ := h; rfl
  · obtain ⟨p, q, k, zs, zt, r, rt, lo, hi, lt, ht, a, rfl, hp, hq, ha, k0, k1, kk⟩ := h
    refine ⟨_, PSs.nox (pss_cons (ps_set (i := 3) sc_led.nd rfl (Or.inl rfl) (pe_call (ok_common_measures (K := K) T) (hr.mono (by decide)) rfl T.g_common_measures T.f_common_measures.kp B0 B0v pass0 (pa_cons (pv 0) (pa_cons (pv 1) (pa_cons (pv 2) pa_nil)))))
      (pss_cons (ps_setLc (i := 4) (own := [("size", 5), ("measure", 6)]) (g := gTup K 2 (gCons (gName 5) (gCons (gName 6) (gNil)))) rfl sc_led.nd rfl rfl (sw_true rfl rfl rfl (by decide +kernel)) (pi_enum (by rfl) T.z_enumerate (pa_cons (pv 3) pa_nil)) (blkOk_by (own := [("size", 5), ("measure", 6)]) (N := N_led) (sc := (defScope s_led)) (by decide +kernel)) (fun _ _ _ _ _ => (pg_tup rfl (pgs_cons (pg_name (i := 5) sc_led.nd rfl (Or.inl rfl)) (pgs_cons (pg_name (i := 6) sc_led.nd rfl (Or.inl rfl)) pgs_nil)))) (fun _ _ _ _ _ => (pts_one (pt_cmpR op_notN (pv 6) pe_non (nomark _)))) (fun _ _ _ _ _ => (pv 5)))
      (pss_cons (ps_if (pt_cmpR op_eq (pe_callB (id := "len") (lenS (K := K)) (by rfl) T.z_len PySem.boot_len (pa_cons (pv 4) pa_nil)) pe_int (nomark _))
      (pss_one (ps_ret pe_non))
      pss_nil)
      (pss_one (ps_ret (pe_tup (pa_cons (pe_ix (ixl (K := K)) (pv 4) pe_int (fun _ _ => rfl)) (pa_cons (pe_ix (ixl (K := K)) (pv 4) (pe_un un_neg pe_int) (fun _ _ => rfl)) pa_nil)))))))), ?_⟩
    have cl_Ladder := T.cl_Ladder
    have na_Ladder_marks := T.na_Ladder_marks
    have na_Ladder_rule := T.na_Ladder_rule
    have na_Ladder_least := T.na_Ladder_least
    have na_Ladder_most := T.na_Ladder_most
    
    have l24 := hq.len1
    have LQ := ladq_of hq
    refine ⟨_, rfl, _, rfl, _, rfl, p, q, k, zs, zt, r, rt, lo, hi, lt, ht, a, rfl, hp, hq, ha, k0, k1, fun D us H1 s1 hD ly hus => ?_⟩
    refine ⟨_, rfl, D, _, rfl, SqL.of hD, ?_⟩
    intro E nE
    refine lcz (n := us.length) walk_enum (fun _ _ g s => s.seq g) (oIdx us.length (metC us)) (oIdx_len _ _) (szs (by omega)) (SqL.of hD) nE (fun i x H2 H3 o N M hi' ho s2 y hN hM => ?_) (fun H2 s2 hE => ?_)
    · obtain ⟨t, a0, b0, rfl, nt, rfl, ha0, hb0⟩ := y
      cases ha0
      have eo := oIdx_get ho
      replace hb0 : us[i]? = some b0 := hb0
      rw [metC_at hb0] at eo
      refine ⟨t, _, rfl, SqT.of upd_same, rfl, _, _, rfl, _, _, rfl, rfl, rfl, ?_⟩
      refine ⟨_, rfl, rfl, _, rfl, ?_⟩
      show if (!decide (b0 = V.non)) = true then _ else _
      refine ite2 (fun e => ?_) (fun e => ?_)
      · exact ⟨_, rfl, hN _ _ (by rw [eo, if_pos e]) (same1 nt)⟩
      · exact hM _ (by rw [eo, if_neg e]) (same1 nt)
    rw [oIdx_fm] at hE
    have s02 := s1.trans s2
    have metx : ∀ b, metC us b = true ↔ b < zt.length ∧ ∃ x, sizF zs r lo hi x = some a ∧ sizF zt rt lt ht x = some b := fun b => by
      by_cases hb : b < us.length
      · have hu : us[b]? = some us[b] := List.getElem?_eq_getElem hb
        rw [metC_at hu, met_non (hus b _ hu)]
        exact ⟨fun h => ⟨by omega, h⟩, fun h => h.2⟩
      · constructor
        · intro h
          unfold metC at h
          rw [List.getElem?_eq_none (by omega)] at h
          cases h
        · intro h
          exact absurd h.1 (by omega)
    have below : ∀ b x, sizF zt rt lt ht x = some b → b < zt.length := fun b x h => sizeQ_lt h
    refine ⟨_, rfl, E, _, rfl, .inl (SqL.of hE), rfl, _, rfl, ?_⟩
    by_cases ne : idx us.length (metC us) = []
    · rw [ne]
      refine iteDT rfl ?_
      refine kk _ none H2 s02 rfl fun b hb x f g => ?_
      have hm := (metx b).mpr ⟨hb, x, f, g⟩
      have : ((b : Nat) : Int) ∈ idx us.length (metC us) := idx_mem.mpr ⟨b, by omega, hm, rfl⟩
      rw [ne] at this
      cases this
    · obtain ⟨c, hc0, lc, mc, hmin⟩ := idx_first ne
      obtain ⟨d, hd0, ld, md, hmax⟩ := idx_last ne
      have l0 := List.length_pos_iff.mpr ne
      refine iteDF (fun e => by have e := V.int.inj e; rw [List.length_map] at e; omega) ?_
      have hat0 : atI ((idx us.length (metC us)).map V.int) 0 = some (.int (c : Int)) := atI_nat (j := 0) (mapI hc0)
      have hat1 : atI ((idx us.length (metC us)).map V.int) (-1) = some (.int (d : Int)) := atI_end (n := (idx us.length (metC us)).length - 1) (by have h9 : ((idx us.length (metC us)).map V.int).length = (idx us.length (metC us)).length := List.length_map ..; omega) (mapI hd0)
      refine ⟨_, rfl, E, _, _, _, rfl, rfl, SqL.of hE, hat0, _, rfl, _, rfl, E, _, _, _, rfl, rfl, SqL.of hE, hat1, szl (Nat.le_of_ble_eq_true rfl), fun t nt => ?_⟩
      refine kk (.ref t) (some (c, d)) _ (s02.up nt) ⟨t, rfl, upd_same⟩ ⟨by omega, by omega, hmin d ld md, ((metx c).mp mc).2, ((metx d).mp md).2, fun b x f g => ?_⟩
      have hb := below b x g
      have hm := (metx b).mpr ⟨hb, x, f, g⟩
      exact ⟨hmin b (by omega) hm, hmax b (by omega) hm⟩
theorem ok_run_behind {P : Program} {w : World} {K : PySem.W.Frag} {mg : Str → Option Value} {base : Heap} {φ : Fds} (T : Txt K mg φ) : FnOk P w K mg base CX0 10 (He.fAd K ("run_behind", none)) φ.run_behind p_run_behind (sp_runbeh K (He.ga K "Measure") (He.ga K "Ladder")) := by
  obtain ⟨_, B0v, B0⟩ := b_led_3 T
  refine T.f_run_behind.ok sc_run_behind (fun vs H Q E h => ?_) (fun cdv A outer s H vs Q E hr h => ?_)
  · obtain ⟨p, q, R, k, zs, zt, r, rt, lo, hi, lt, ht, a, b, rfl, hp, hq, hR, ab, bl, k0, k1, kk⟩ := h; rfl
  · obtain ⟨p, q, R, k, zs, zt, r, rt, lo, hi, lt, ht, a, b, rfl, hp, hq, hR, ab, bl, k0, k1, kk⟩ := h
    refine ⟨_, PSs.nox (pss_cons (ps_asg (pv 1) (pg_tup rfl (pgs_cons (pg_name (i := 3) sc_run_behind.nd rfl (Or.inl rfl)) (pgs_cons (pg_name (i := 4) sc_run_behind.nd rfl (Or.inl rfl)) pgs_nil))))
      (pss_cons (ps_setLc (i := 5) (own := [("number", 7)]) (g := gName 7) rfl sc_run_behind.nd rfl rfl (sw_true rfl rfl rfl (by decide +kernel)) (pi_range2 rfl T.z_range (pa_cons (pv 3) (pa_cons (pe_op op_add (pv 4) pe_int) pa_nil))) (blkOk_by (own := [("number", 7)]) (N := N_run_behind) (sc := (defScope s_run_behind)) (by decide +kernel)) (fun _ _ _ _ _ => (pg_name (i := 7) sc_run_behind.nd rfl (Or.inl rfl))) (fun _ _ _ _ _ => pts_nil) (fun _ _ _ _ _ => (pe_call (ok_led (K := K) T) (hr.mono (by decide)) rfl T.g_led T.f_led.kp B0 B0v pass0 (pa_cons (pv 0) (pa_cons (pv 7) (pa_cons (pv 2) pa_nil))))))
      (pss_cons (ps_setLc (i := 6) (own := [("each", 8)]) (g := gName 8) rfl sc_run_behind.nd rfl rfl (sw_true rfl rfl rfl (by decide +kernel)) (pi_list (pv 5)) (blkOk_by (own := [("each", 8)]) (N := N_run_behind) (sc := (defScope s_run_behind)) (by decide +kernel)) (fun _ _ _ _ _ => (pg_name (i := 8) sc_run_behind.nd rfl (Or.inl rfl))) (fun _ _ _ _ _ => (pts_one (pt_cmpR op_notN (pv 8) pe_non (nomark _)))) (fun _ _ _ _ _ => (pv 8)))
      (pss_cons (ps_if (pt_cmpR op_eq (pe_callB (id := "len") (lenS (K := K)) (by rfl) T.z_len PySem.boot_len (pa_cons (pv 6) pa_nil)) pe_int (nomark _))
      (pss_one (ps_ret pe_non))
      pss_nil)
      (pss_one (ps_ret (pe_tup (pa_cons (pe_callB (id := "min") (minL (K := K)) (by rfl) T.z_min (by decide +kernel) (pa_cons (pe_lc (own := [("low", 9), ("high", 10)]) (g := gTup K 2 (gCons (gName 9) (gCons (gName 10) (gNil)))) rfl sc_run_behind.nd (pi_list (pv 6)) (blkOk_by (own := [("low", 9), ("high", 10)]) (N := N_run_behind) (sc := (defScope s_run_behind)) (by decide +kernel)) (fun _ _ _ _ _ => (pg_tup rfl (pgs_cons (pg_name (i := 9) sc_run_behind.nd rfl (Or.inl rfl)) (pgs_cons (pg_name (i := 10) sc_run_behind.nd rfl (Or.inl rfl)) pgs_nil)))) (fun _ _ _ _ _ => pts_nil) (fun _ _ _ _ _ => (pv 9))) pa_nil)) (pa_cons (pe_callB (id := "max") (maxL (K := K)) (by rfl) T.z_max (by decide +kernel) (pa_cons (pe_lc (own := [("low", 9), ("high", 10)]) (g := gTup K 2 (gCons (gName 9) (gCons (gName 10) (gNil)))) rfl sc_run_behind.nd (pi_list (pv 6)) (blkOk_by (own := [("low", 9), ("high", 10)]) (N := N_run_behind) (sc := (defScope s_run_behind)) (by decide +kernel)) (fun _ _ _ _ _ => (pg_tup rfl (pgs_cons (pg_name (i := 9) sc_run_behind.nd rfl (Or.inl rfl)) (pgs_cons (pg_name (i := 10) sc_run_behind.nd rfl (Or.inl rfl)) pgs_nil)))) (fun _ _ _ _ _ => pts_nil) (fun _ _ _ _ _ => (pv 10))) pa_nil)) pa_nil))))))))), ?_⟩
    have l24 := hp.len1
    have l25 := hq.len1
    walk_at "f"
    intro D nD
    refine lcr (n := ((b : Int) + 1 - a).toNat) walk_range (fun _ _ _ _ => trivial) (fun i H v => ∃ u, LedV H v u ∧ LedS (sizF zs r lo hi) (sizF zt rt lt ht) (a + i) zt.length u) (fun i H H' v ⟨u, e1, e2⟩ n => ⟨u, e1.nl30 n, e2⟩) (szs (by omega)) trivial nD (fun i x H1 H2 N M hI s1 yy hN => ?_) (fun H1 vs s1 hD lv hv => ?_)
    · obtain ⟨rfl, rfl⟩ := yy
      refine ⟨rfl, yesT ?_⟩
      exact ⟨_, rfl, _, rfl, _, rfl, p, q, k, zs, zt, r, rt, lo, hi, lt, ht, a + i, rfl, hp.same s1, hq.same s1, by omega, k0, k1, fun v u H3 s3 lv ls => hN _ _ s3 ⟨u, lv, ls⟩⟩
    have RB := runbeh_of (b := b) (F := sizF zs r lo hi) (G := sizF zt rt lt ht) (by omega) hv (fun x b h => sizeQ_lt h)
    walk_at "f"
    all_goals (try refine ⟨⟨_, SqL.of hD⟩, ?_⟩)
    intro E nE
    refine lcz (n := vs.length) walk_list (fun _ _ g s => s.seq g) (vs.map fun v => if (!decide (v = V.non)) = true then some v else none) (by rw [List.length_map]) (szs (by omega)) (SqL.of hD) nE (fun i x HA HB z N M hI hz sA yy hy hn => ?_) (fun H2 s2 hE => ?_)
    · obtain ⟨rfl, hx⟩ := yy
      rw [List.getElem?_map, hx] at hz
      have hz : (if (!decide (x = V.non)) = true then some x else none) = z := Option.some.inj hz
      refine ⟨rfl, _, rfl, rfl, _, rfl, ?_⟩
      show if (!decide (x = V.non)) = true then _ else _
      refine ite2 (fun e => ?_) (fun e => ?_)
      · exact ⟨_, rfl, hy _ _ (by rw [← hz, if_pos e]) (Same.refl _)⟩
      · exact hn _ (by rw [← hz, if_neg e]) (Same.refl _)
    rw [nn_fm] at hE
    have lf := List.length_filter_le (fun v => !decide (v = V.non)) vs
    have inv : ∀ v, v ∈ (vs.filter fun v => !decide (v = V.non)) ↔ v ∈ vs ∧ v ≠ V.non := fun v => by rw [List.mem_filter]; simp
    have mt : ∀ v ∈ (vs.filter fun v => !decide (v = V.non)), ∃ (T : Addr) (c d : Nat), v = .ref T ∧ H1 T = some (.tup [.int c, .int d]) := fun v h => by
      obtain ⟨m, no⟩ := (inv v).mp h
      obtain ⟨i, hI⟩ := List.mem_iff_getElem?.mp m
      obtain ⟨u, g1, _⟩ := hv i v hI
      cases u with
      | none => exact absurd g1 no
      | some cd =>
        obtain ⟨c, d⟩ := cd
        obtain ⟨T, e, h⟩ := g1
        exact ⟨T, c, d, e, h⟩
    walk_at "f"
    by_cases ne : (vs.filter fun v => !decide (v = V.non)) = []
    · rw [ne]
      refine iteDT rfl ?_
      refine kk _ none _ (s1.trans s2) rfl (RB.1 fun v hm => ?_)
      by_cases e : v = V.non
      · exact e
      · have := (inv v).mpr ⟨hm, e⟩
        rw [ne] at this
        cases this
    have l0 := List.length_pos_iff.mpr ne
    refine iteDF (fun e => by have e := V.int.inj e; omega) ?_
    walk_at "f"
    all_goals (try refine ⟨⟨_, SqL.of hE⟩, ?_⟩)
    intro D1 nL1
    refine lcr (n := (vs.filter fun v => !decide (v = V.non)).length) walk_list (fun _ _ g s => s.seq g) (fun i H v => ∃ z, v = V.int z ∧ ∃ (T : Addr) (c d : Nat), (vs.filter fun v => !decide (v = V.non))[i]? = some (.ref T) ∧ H1 T = some (.tup [.int c, .int d]) ∧ z = ((c : Nat) : Int)) (fun i H H' v e n => e) (szs (by omega)) (SqL.of hE) nL1 (fun i x HA HB N M hI sA yy hN => ?_) (fun HL1 ys1 sL1 hL1 ly1 hy1 => ?_)
    · obtain ⟨rfl, hx⟩ := yy
      obtain ⟨T, c, d, rfl, eT⟩ := mt x (List.mem_of_getElem? hx)
      have eTA := sA _ _ (s2 _ _ eT)
      refine ⟨T, _, rfl, SqT.of eTA, rfl, _, _, rfl, _, _, rfl, rfl, rfl, yesT ?_⟩
      exact ⟨_, rfl, hN _ _ (Same.refl _) ⟨_, rfl, T, c, d, hx, eT, rfl⟩⟩
    obtain ⟨ns1, rfl, hns1⟩ := ints_of hy1
    rw [List.length_map] at ly1
    
    refine ⟨D1, ns1, rfl, SqL.of hL1, by omega, fun m1 mm1 mn1 => ?_⟩
    have hE2 := sL1 _ _ hE
    refine ⟨_, rfl, E, rfl, ⟨_, SqL.of hE2⟩, fun D2 nL2 => ?_⟩
    refine lcr (n := (vs.filter fun v => !decide (v = V.non)).length) walk_list (fun _ _ g s => s.seq g) (fun i H v => ∃ z, v = V.int z ∧ ∃ (T : Addr) (c d : Nat), (vs.filter fun v => !decide (v = V.non))[i]? = some (.ref T) ∧ H1 T = some (.tup [.int c, .int d]) ∧ z = ((d : Nat) : Int)) (fun i H H' v e n => e) (szs (by omega)) (SqL.of hE2) nL2 (fun i x HA HB N M hI sA yy hN => ?_) (fun HL2 ys2 sL2 hL2 ly2 hy2 => ?_)
    · obtain ⟨rfl, hx⟩ := yy
      obtain ⟨T, c, d, rfl, eT⟩ := mt x (List.mem_of_getElem? hx)
      have eTA := sA _ _ ((s2.trans sL1) _ _ eT)
      refine ⟨T, _, rfl, SqT.of eTA, rfl, _, _, rfl, _, _, rfl, rfl, rfl, yesT ?_⟩
      exact ⟨_, rfl, hN _ _ (Same.refl _) ⟨_, rfl, T, c, d, hx, eT, rfl⟩⟩
    obtain ⟨ns2, rfl, hns2⟩ := ints_of hy2
    rw [List.length_map] at ly2
    
    refine ⟨D2, ns2, rfl, SqL.of hL2, by omega, fun m2 mm2 mn2 => ?_⟩
    refine ⟨szl (Nat.le_of_ble_eq_true rfl), fun TT nTT => ?_⟩
    obtain ⟨j1, hj1⟩ := List.mem_iff_getElem?.mp mm1
    obtain ⟨j2, hj2⟩ := List.mem_iff_getElem?.mp mm2
    obtain ⟨T1, c1, d1, g1, e1, rfl⟩ := hns1 j1 m1 hj1
    obtain ⟨T2, c2, d2, g2, e2, rfl⟩ := hns2 j2 m2 hj2
    have i1 := ((inv _).mp (List.mem_of_getElem? g1)).1
    have i2 := ((inv _).mp (List.mem_of_getElem? g2)).1
    refine kk _ (some (c1, d2)) _ ((((s1.trans s2).trans sL1).trans sL2).trans (same1 nTT)) ⟨TT, rfl, upd_same⟩ (RB.2 c1 d2 ⟨T1, d1, i1, e1⟩ ⟨T2, c2, i2, e2⟩ fun T c d m e => ?_)
    obtain ⟨i, hI⟩ := List.mem_iff_getElem?.mp ((inv (.ref T)).mpr ⟨m, by simp⟩)
    have li := (List.getElem?_eq_some_iff.mp hI).1
    have h1 : i < ns1.length := by omega
    have h2 : i < ns2.length := by omega
    obtain ⟨T3, c3, d3, g3, e3, q3⟩ := hns1 i _ (List.getElem?_eq_getElem h1)
    obtain ⟨T4, c4, d4, g4, e4, q4⟩ := hns2 i _ (List.getElem?_eq_getElem h2)
    rw [hI] at g3 g4
    cases g3
    cases g4
    rw [e] at e3 e4
    simp at e3 e4
    have w1 := mn1 _ (List.getElem_mem h1)
    have w2 := mn2 _ (List.getElem_mem h2)
    omega
theorem ok_way_of {P : Program} {w : World} {K : PySem.W.Frag} {mg : Str → Option Value} {base : Heap} {φ : Fds} (T : Txt K mg φ) : FnOk P w K mg base CX0 1 (He.fAd K ("way_of", none)) φ.way_of p_way_of (sp_way K (He.ga K "Measure") (He.ga K "Ladder")) := by
  refine T.f_way_of.ok sc_way_of (fun vs H Q E h => ?_) (fun cdv A outer s H vs Q E hr h => ?_)
  · obtain ⟨W, k, ws, rfl, hW, l30, kk⟩ := h; rfl
  · obtain ⟨W, k, ws, rfl, hW, l30, kk⟩ := h
    refine ⟨_, PSs.nox (pss_one (ps_ret (pe_op (catU (K := K)) (pv 0) (pe_slice (slU (K := K)) (pv 0) po_none (po_some pe_int))))), ?_⟩
    obtain ⟨pw, hT, lw, aw⟩ := id hW
    walk_at "f"
    intro p H1 s1 h1
    have ec : cutV pw none (some 1) = pw.take 1 := cutV_take pw (n := 1) rfl
    rw [ec] at h1
    refine ⟨W, p, pw, pw.take 1, rfl, rfl, s1.sqt hT, h1, szl (by rw [List.length_take]; omega), fun q H2 s2 h2 => kk q H2 (s1.trans s2) ⟨_, h2, by rw [List.length_append, List.length_append, List.length_take, List.length_take, lw], fun i w e => ?_⟩⟩
    by_cases hi : i < ws.length
    · rw [List.getElem?_append_left hi] at e
      obtain ⟨p', e1, e2⟩ := aw i w e
      exact ⟨p', by rw [List.getElem?_append_left (by omega)]; exact e1, e2.same (s1.trans s2)⟩
    · rw [List.getElem?_append_right (by omega)] at e
      have e' := e
      rw [List.getElem?_take] at e'
      split at e'
      · obtain ⟨p', e1, e2⟩ := aw _ w e'
        refine ⟨p', ?_, e2.same (s1.trans s2)⟩
        rw [List.getElem?_append_right (by omega), lw, List.getElem?_take, if_pos (by assumption)]
        exact e1
      · cases e'
theorem ok_runs_of {P : Program} {w : World} {K : PySem.W.Frag} {mg : Str → Option Value} {base : Heap} {φ : Fds} (T : Txt K mg φ) : FnOk P w K mg base CX0 11 (He.fAd K ("runs_of", none)) φ.runs_of p_runs_of (sp_runsof K (He.ga K "Measure") (He.ga K "Ladder")) := by
  obtain ⟨_, B0v, B0⟩ := b_has_size_2 T
  obtain ⟨_, B1v, B1⟩ := b_run_behind_3 T
  refine T.f_runs_of.ok sc_runs_of (fun vs H Q E h => ?_) (fun cdv A outer s H vs Q E hr h => ?_)
  · obtain ⟨W, k, ws, w0, n, rfl, hW, h0, n0, k0, k1, l31, kk⟩ := h; rfl
  · obtain ⟨W, k, ws, w0, n, rfl, hW, h0, n0, k0, k1, l31, kk⟩ := h
    refine ⟨_, PSs.nox (pss_cons (ps_set (i := 2) sc_runs_of.nd rfl (Or.inl rfl) (pe_lst (pa_cons (pe_tup (pa_cons (pv 1) (pa_cons (pv 1) pa_nil))) pa_nil)))
      (pss_cons (ps_if (pt_not (pt_val (pe_call (ok_has_size (K := K) T) (hr.mono (by decide)) rfl T.g_has_size T.f_has_size.kp B0 B0v pass0 (pa_cons (pe_ix (ixt (K := K)) (pv 0) pe_int (fun _ _ => rfl)) (pa_cons (pv 1) pa_nil)))))
      (pss_one (ps_ret (pe_callTy (T := "tuple") (tupleL (K := K)) (by rfl) T.z_tuple (by decide +kernel) (pa_cons (pv 2) pa_nil))))
      pss_nil)
      (pss_cons (ps_cut (ps_for PassesOwn.never rfl (pi_range2 rfl T.z_range (pa_cons pe_int (pa_cons (pe_callB (id := "len") (lenS (K := K)) (by rfl) T.z_len PySem.boot_len (pa_cons (pv 0) pa_nil)) pa_nil))) (pg_name (i := 3) sc_runs_of.nd rfl (Or.inl rfl))
      (pss_cons (ps_set (i := 4) sc_runs_of.nd rfl (Or.inl rfl) (pe_call (ok_run_behind (K := K) T) (hr.mono (by decide)) rfl T.g_run_behind T.f_run_behind.kp B1 B1v pass0 (pa_cons (pe_ix (ixt (K := K)) (pv 0) (pe_op op_sub (pv 3) pe_int) (fun _ _ => rfl)) (pa_cons (pe_ix (ixl (K := K)) (pv 2) (pe_un un_neg pe_int) (fun _ _ => rfl)) (pa_cons (pe_ix (ixt (K := K)) (pv 0) (pv 3) (fun _ _ => rfl)) pa_nil)))))
      (pss_cons (ps_if (pt_cmpR op_isN (pv 4) pe_non (nomark _))
      (pss_one ps_break)
      pss_nil)
      (pss_one (ps_expr (pe_bm PySem.F.plainAttrs_list PySem.F.slot_list_append PySem.F.type_list_append mt_append (pv 2) (pa_cons (pv 4) pa_nil))))))))
      (pss_one (ps_ret (pe_callTy (T := "tuple") (tupleL (K := K)) (by rfl) T.z_tuple (by decide +kernel) (pa_cons (pv 2) pa_nil))))))), ?_⟩
    have cl_Ladder := T.cl_Ladder
    have na_Ladder_marks := T.na_Ladder_marks
    have na_Ladder_rule := T.na_Ladder_rule
    have na_Ladder_least := T.na_Ladder_least
    have na_Ladder_most := T.na_Ladder_most
    
    obtain ⟨pw, hT, lw, aw⟩ := id hW
    obtain ⟨p0, e0, A0⟩ := aw 0 w0 h0
    walk_at "f"
    intro t nt
    have ht : (upd H t (.tup [V.int (n : Int), V.int (n : Int)])) t = some (.tup [V.int (n : Int), V.int (n : Int)]) := upd_same
    have st := same1 (u := .tup [V.int (n : Int), V.int (n : Int)]) nt
    generalize upd H t (.tup [V.int (n : Int), V.int (n : Int)]) = H1 at *
    walk_at "f"
    intro D nD
    have hD : (upd H1 D (.lst [V.ref t])) D = some (.lst [V.ref t]) := upd_same
    have ht2 := up1 (u := .lst [V.ref t]) nD ht
    have s2 := st.trans (same1 (u := .lst [V.ref t]) nD)
    have nDH : H D = none := by
      cases e : H D with
      | none => rfl
      | some o => rw [st _ _ e] at nD; cases nD
    generalize upd H1 D (.lst [V.ref t]) = H2 at *
    have hT2 := s2.sqt hT
    walk_at "f"
    all_goals (try refine ⟨w0.zs, w0.r, w0.lo, w0.hi, n, rfl, A0.same s2, n0, ?_⟩)
    walk_at "f"
    obtain ⟨J, eJ⟩ : ∃ J : L2.St → Hp → Prop, J = fun σ' H' => ∃ rs ps v3 v4, σ' = [some (.ref W), some (.int n), some (.ref D), v3, v4] ∧ Same H H' ∧ H' D = some (.lst ps) ∧ PrL H' ps rs ∧ RunsS ws n rs := ⟨_, rfl⟩
    refine ⟨J, ?_, ?_⟩
    · walk_at "f"
      refine for_range (fun i σ H' => ∃ rs ps v3 v4, σ = [some (.ref W), some (.int n), some (.ref D), v3, v4] ∧ Same H H' ∧ H' D = some (.lst ps) ∧ PrL H' ps rs ∧ rs.length = i + 1 ∧ RunsP ws n rs) ?_ ?_ ?_
      · refine ⟨[(n, n)], _, _, _, rfl, s2, hD, ⟨rfl, fun i x y e => ?_⟩, rfl, ⟨rfl, ?_, fun i a b c d w w' h1 h2 h3 h4 => by simp at h4⟩⟩
        · cases i with
          | zero => cases e; exact ⟨t, rfl, ht2⟩
          | succ i => simp at e
        · have := (List.getElem?_eq_some_iff.mp h0).1
          show 1 ≤ ws.length
          omega
      · rintro i σ H3 hI ⟨rs, ps, v3, v4, rfl, s3, hD3, pr, lr, R⟩
        have li : i + 1 < ws.length := by omega
        obtain ⟨w1, hw1⟩ : ∃ w, ws[i]? = some w := ⟨_, List.getElem?_eq_getElem (by omega)⟩
        obtain ⟨w2, hw2⟩ : ∃ w, ws[i + 1]? = some w := ⟨_, List.getElem?_eq_getElem li⟩
        obtain ⟨p1, e1, A1⟩ := aw i w1 hw1
        obtain ⟨p2, e2, A2⟩ := aw (i + 1) w2 hw2
        obtain ⟨⟨a, b⟩, hr⟩ : ∃ r1, rs[i]? = some r1 := ⟨_, List.getElem?_eq_getElem (by omega)⟩
        obtain ⟨tr, er, htr⟩ := pr.2 i a b hr
        have lp := pr.1
        have ab := R.at_ h0 n0 hr hw1
        have i1 : atI pw (1 + (i : Int) - 1) = some (V.ref p1) := by rw [show 1 + (i : Int) - 1 = (i : Int) by omega]; exact atI_nat e1
        have i2 : atI pw (1 + (i : Int)) = some (V.ref p2) := by rw [show 1 + (i : Int) = ((i + 1 : Nat) : Int) by omega]; exact atI_nat e2
        have i3 : atI ps (-1) = some (V.ref tr) := atI_end (n := i) (by omega) er
        have hT3 := s3.sqt hT
        walk_at "f"
        all_goals (try refine ⟨w1.zs, w2.zs, w1.r, w2.r, w1.lo, w1.hi, w2.lo, w2.hi, a, b, rfl, A1.same s3, A2.same s3, htr, ab.1, ab.2, k0, k1, fun v u H4 s4 lv ls => ?_⟩)
        have s34 := s3.trans s4
        have hD4 := s4 _ _ hD3
        have pr4 := pr.nl (Nl.of s4)
        cases u with
        | none =>
          cases lv
          walk_at "f"
          subst eJ
          refine ⟨rs, ps, _, _, rfl, s34, hD4, pr4, ⟨R, fun a' b' v v' g1 g2 g3 => ?_⟩⟩
          rw [lr, Nat.add_sub_cancel] at g1 g2
          rw [lr] at g3
          rw [hr] at g1
          rw [hw1] at g2
          rw [hw2] at g3
          cases g1
          cases g2
          cases g3
          exact ls
        | some cd =>
          obtain ⟨c, d⟩ := cd
          obtain ⟨T1, rfl, hT1⟩ := lv
          have ll : ps.length < 1000 := by omega
          walk_at "f"
          refine ⟨rs ++ [(c, d)], ps ++ [.ref T1], _, _, rfl, fun b o e => ?_, upd_same, (pr4.snoc hT1).nl (Nl.put hD4), by rw [List.length_append, lr]; rfl, R.snoc lr hr hw1 hw2 ls⟩
          rw [upd_ne (ne_of_none e nDH)]
          exact s34 _ _ e
      · rintro σ H3 ⟨rs, ps, v3, v4, rfl, s3, hD3, pr, lr, R⟩
        subst eJ
        refine ⟨rs, ps, v3, v4, rfl, s3, hD3, pr, R, fun a b w w' h1 h2 h3 => ?_⟩
        have := (List.getElem?_eq_some_iff.mp h3).1
        omega
    · subst eJ
      rintro σ H3 ⟨rs, ps, v3, v4, rfl, s3, hD3, pr, R⟩
      have ll : ps.length ≤ 1000 := by
        have := pr.1
        have := R.len
        omega
      walk_at "f"
      intro TT nTT
      exact kk TT ps rs _ (s3.trans (same1 nTT)) upd_same (pr.nl (Nl.of (same1 nTT))) R
theorem ok_size_ahead {P : Program} {w : World} {K : PySem.W.Frag} {mg : Str → Option Value} {base : Heap} {φ : Fds} (T : Txt K mg φ) : FnOk P w K mg base CX0 10 (He.fAd K ("size_ahead", none)) φ.size_ahead p_size_ahead (sp_sizeahead K (He.ga K "Measure") (He.ga K "Ladder")) := by
  obtain ⟨_, B0v, B0⟩ := b_led_3 T
  refine T.f_size_ahead.ok sc_size_ahead (fun vs H Q E h => ?_) (fun cdv A outer s H vs Q E hr h => ?_)
  · obtain ⟨p, R, q, k, zs, zt, r, rt, lo, hi, lt, ht, a, b, n, rfl, hp, hq, hR, k0, k1, ⟨x, fx, gx⟩, kk⟩ := h; rfl
  · obtain ⟨p, R, q, k, zs, zt, r, rt, lo, hi, lt, ht, a, b, n, rfl, hp, hq, hR, k0, k1, ⟨x, fx, gx⟩, kk⟩ := h
    refine ⟨_, PSs.nox (pss_cons (ps_set (i := 4) sc_size_ahead.nd rfl (Or.inl rfl) (pe_call (ok_led (K := K) T) (hr.mono (by decide)) rfl T.g_led T.f_led.kp B0 B0v pass0 (pa_cons (pv 2) (pa_cons (pv 3) (pa_cons (pv 0) pa_nil)))))
      (pss_one (ps_ret (pe_callB (id := "max") (call_max2 rfl) (by rfl) T.z_max (by decide +kernel) (pa_cons (pe_ix (ixt (K := K)) (pv 4) pe_int (fun _ _ => rfl)) (pa_cons (pe_ix (ixt (K := K)) (pv 1) pe_int (fun _ _ => rfl)) pa_nil)))))), ?_⟩
    have LP := ladq_of hp
    have LQ' := ladq_of hq
    have nl : n < zt.length := sizeQ_lt gx
    obtain ⟨k0', hk, ak, kb⟩ := rF_iff.mp fx
    refine ⟨_, rfl, _, rfl, _, rfl, q, p, k, zt, zs, rt, r, lt, ht, lo, hi, n, rfl, hq, hp, nl, k0, k1, fun v u H1 s1 lv ls => ?_⟩
    cases u with
    | none => exact (ls k0' (sizeQ_lt hk) x gx hk).elim
    | some cd =>
      obtain ⟨c, d⟩ := cd
      obtain ⟨T1, rfl, hT1⟩ := lv
      have hR1 := s1 _ _ hR
      have q1 := ls.2.2.2.2.2 k0' x gx hk
      obtain ⟨_, _, cd, ⟨y, gy, fy⟩, _, _⟩ := ls
      walk_at "f"
      by_cases g : (a : Int) > c
      · rw [if_pos g]
        obtain ⟨z, gz, fz⟩ := met_convS (S := fun z => sizF zt rt lt ht z = some n) (fun z h1 h2 => siz_conv LQ' h1 h2 gy gx) LP gy fy gx hk (show c ≤ a by omega) ak
        exact kk a H1 s1 (Nat.le_refl _) (by omega) ⟨z, fz, gz⟩
      · rw [if_neg g]
        exact kk c H1 s1 (by omega) (by omega) ⟨y, fy, gy⟩
theorem ok_sizes_to {P : Program} {w : World} {K : PySem.W.Frag} {mg : Str → Option Value} {base : Heap} {φ : Fds} (T : Txt K mg φ) : FnOk P w K mg base CX0 11 (He.fAd K ("sizes_to", none)) φ.sizes_to p_sizes_to (sp_sizesto K (He.ga K "Measure") (He.ga K "Ladder")) := by
  obtain ⟨_, B0v, B0⟩ := b_size_ahead_4 T
  refine T.f_sizes_to.ok sc_sizes_to (fun vs H Q E h => ?_) (fun cdv A outer s H vs Q E hr h => ?_)
  · obtain ⟨W, R, k, ws, w0, ps, rs, n, a, b, last, rfl, hW, h0, n0, hR, pr, RP, lr, hrl, al, lb, k0, k1, l0, l31, kk⟩ := h; rfl
  · obtain ⟨W, R, k, ws, w0, ps, rs, n, a, b, last, rfl, hW, h0, n0, hR, pr, RP, lr, hrl, al, lb, k0, k1, l0, l31, kk⟩ := h
    refine ⟨_, PSs.nox (pss_cons (ps_set (i := 3) sc_sizes_to.nd rfl (Or.inl rfl) (pe_lst (pa_cons (pv 2) pa_nil)))
      (pss_cons (ps_for PassesOwn.never rfl (pi_revR (by rfl) T.z_reversed (prg_2 (by rfl) T.z_range pe_int (pe_callB (id := "len") (lenS (K := K)) (by rfl) T.z_len PySem.boot_len (pa_cons (pv 0) pa_nil)))) (pg_name (i := 4) sc_sizes_to.nd rfl (Or.inl rfl))
      (pss_one (ps_expr (pe_bm PySem.F.plainAttrs_list PySem.F.slot_list_insert PySem.F.type_list_insert mt_insert (pv 3) (pa_cons pe_int (pa_cons (pe_call (ok_size_ahead (K := K) T) (hr.mono (by decide)) rfl T.g_size_ahead T.f_size_ahead.kp B0 B0v pass0 (pa_cons (pe_ix (ixt (K := K)) (pv 0) (pe_op op_sub (pv 4) pe_int) (fun _ _ => rfl)) (pa_cons (pe_ix (ixt (K := K)) (pv 1) (pe_op op_sub (pv 4) pe_int) (fun _ _ => rfl)) (pa_cons (pe_ix (ixt (K := K)) (pv 0) (pv 4) (fun _ _ => rfl)) (pa_cons (pe_ix (ixl (K := K)) (pv 3) pe_int (fun _ _ => rfl)) pa_nil))))) pa_nil))))))
      (pss_one (ps_ret (pe_callTy (T := "tuple") (tupleL (K := K)) (by rfl) T.z_tuple (by decide +kernel) (pa_cons (pv 3) pa_nil)))))), ?_⟩
    obtain ⟨pw, hT, lw, aw⟩ := id hW
    have lp := pr.1
    walk_at "f"
    intro D nD
    have hD : (upd H D (.lst [V.int (last : Int)])) D = some (.lst [V.int (last : Int)]) := upd_same
    have sD := same1 (u := .lst [V.int (last : Int)]) nD
    have ne : ∀ b o, H b = some o → b ≠ D := fun b o e => ne_of_none e nD
    generalize upd H D (.lst [V.int (last : Int)]) = H1 at *
    have hT1 := sD.sqt hT
    obtain ⟨N, hN⟩ : ∃ N, ws.length = N + 1 := ⟨ws.length - 1, by omega⟩
    walk_at "f"
    all_goals (try refine for_it walk_rangeC (fun i σ H' => ∃ (ks : List Nat) (v4 : Option V), σ = [some (.ref W), some (.ref R), some (.int last), some (.ref D), v4] ∧ Same H H' ∧ H' D = some (.lst (ks.map fun k : Nat => V.int k)) ∧ SzsS ws rs (N - i) last ks) ?_ (fun _ _ _ _ _ => trivial) ?_ ?_)
    · refine ⟨[last], _, rfl, sD, hD, ⟨by show N - 0 + 1 = _; omega, Nat.zero_lt_one, rfl, fun i k' a' b' e1 e2 => ?_, fun i k' l' v v' e1 e2 => by simp at e2⟩⟩
      cases i with
      | zero =>
        cases e1
        rw [show N - 0 + 0 = rs.length - 1 by omega, hrl] at e2
        cases e2
        exact ⟨al, lb⟩
      | succ i => simp at e1
    · rintro i x σ H2a H2 hI ⟨ks, v4, rfl, s2, hD2, Z⟩ ⟨y1, y2⟩
      subst y1
      have hi : i < N := by omega
      obtain ⟨m, hm⟩ : ∃ m, N - i = m + 1 := ⟨N - i - 1, by omega⟩
      have e3 : x = V.int ((m + 1 : Nat) : Int) := by
        rw [y2]
        show V.int (1 + (((pw.length : Int) - 1).toNat : Int) - 1 + (i : Int) * -1) = _
        rw [show (1 + (((pw.length : Int) - 1).toNat : Int) - 1 + (i : Int) * -1) = ((m + 1 : Nat) : Int) by omega]
      clear y2
      subst e3
      rw [hm] at Z
      obtain ⟨w1, hw1⟩ : ∃ w, ws[m]? = some w := ⟨_, List.getElem?_eq_getElem (by omega)⟩
      obtain ⟨w2, hw2⟩ : ∃ w, ws[m + 1]? = some w := ⟨_, List.getElem?_eq_getElem (by omega)⟩
      obtain ⟨p1, e1, A1⟩ := aw m w1 hw1
      obtain ⟨p2, e2, A2⟩ := aw (m + 1) w2 hw2
      obtain ⟨⟨a1, b1⟩, hr1⟩ : ∃ r1, rs[m]? = some r1 := ⟨_, List.getElem?_eq_getElem (by omega)⟩
      obtain ⟨⟨c1, d1⟩, hr2⟩ : ∃ r1, rs[m + 1]? = some r1 := ⟨_, List.getElem?_eq_getElem (by omega)⟩
      obtain ⟨l, hl⟩ : ∃ l, ks[0]? = some l := ⟨_, List.getElem?_eq_getElem Z.pos⟩
      obtain ⟨t1, et1, ht1⟩ := pr.2 m a1 b1 hr1
      have cl := Z.inr 0 l c1 d1 hl hr2
      have bt := run_between (ladq_of A1) (ladq_of A2) (RP.step m a1 b1 c1 d1 w1 w2 hr1 hw1 hw2 hr2) cl.1 cl.2
      have i1 : atI pw (((m + 1 : Nat) : Int) - 1) = some (V.ref p1) := by rw [show ((m + 1 : Nat) : Int) - 1 = (m : Int) by omega]; exact atI_nat e1
      have i2 : atI pw ((m + 1 : Nat) : Int) = some (V.ref p2) := atI_nat e2
      have i3 : atI ps (((m + 1 : Nat) : Int) - 1) = some (V.ref t1) := by rw [show ((m + 1 : Nat) : Int) - 1 = (m : Int) by omega]; exact atI_nat et1
      have i4 : atI (ks.map fun k : Nat => V.int k) 0 = some (V.int l) := atI_nat (j := 0) (by rw [List.getElem?_map, hl]; rfl)
      have hT2 := s2.sqt hT
      have hR2 := SqT.of (K := K) (s2 _ _ hR)
      have lks : (ks.map fun k : Nat => V.int k).length < 1000 := by
        have := Z.len
        rw [List.length_map]
        omega
      refine ⟨_, rfl, ?_⟩
      walk_at "f"
      all_goals (try refine ⟨w1.zs, w2.zs, w1.r, w2.r, w1.lo, w1.hi, w2.lo, w2.hi, a1, b1, l, rfl, A1.same s2, A2.same s2, s2 _ _ ht1, k0, k1, bt, fun k' H3 s3 ak kb mx => ?_⟩)
      have hD3 := s3 _ _ hD2
      walk_at "f"
      refine ⟨k' :: ks, _, rfl, fun b o e => ?_, upd_same, ?_⟩
      · rw [upd_ne (ne b o e)]
        exact s3 _ _ (s2 _ _ e)
      · rw [show N - (i + 1) = m by omega]
        exact Z.cons hr1 hw1 hw2 hl ak kb mx
    · rintro σ H2 ⟨ks, v4, rfl, s2, hD2, Z⟩
      have lks : (ks.map fun k : Nat => V.int k).length ≤ 1000 := by
        have := Z.len
        rw [List.length_map]
        omega
      rw [show N - ((pw.length : Int) - 1).toNat = 0 by omega] at Z
      walk_at "f"
      intro TT nTT
      exact kk TT ks _ (s2.trans (same1 nTT)) upd_same Z
theorem ok_row_to {P : Program} {w : World} {K : PySem.W.Frag} {mg : Str → Option Value} {base : Heap} {φ : Fds} (T : Txt K mg φ) : FnOk P w K mg base CX0 12 (He.fAd K ("row_to", none)) φ.row_to p_row_to (sp_rowto K (He.ga K "Measure") (He.ga K "Ladder")) := by
  obtain ⟨_, B0v, B0⟩ := b_sizes_to_3 T
  obtain ⟨_, B1v, B1⟩ := b_Ladder_stretch_2 T
  obtain ⟨_, B2v, B2⟩ := b_shared_by_2 T
  refine T.f_row_to.ok sc_row_to (fun vs H Q E h => ?_) (fun cdv A outer s H vs Q E hr h => ?_)
  · obtain ⟨W, R, k, ws, w0, ps, rs, n, a, b, last, rfl, hW, h0, n0, hR, pr, RP, lr, hrl, al, lb, k0, k1, l0, l31, kk⟩ := h; rfl
  · obtain ⟨W, R, k, ws, w0, ps, rs, n, a, b, last, rfl, hW, h0, n0, hR, pr, RP, lr, hrl, al, lb, k0, k1, l0, l31, kk⟩ := h
    refine ⟨_, PSs.nox (pss_cons (ps_set (i := 3) sc_row_to.nd rfl (Or.inl rfl) (pe_call (ok_sizes_to (K := K) T) (hr.mono (by decide)) rfl T.g_sizes_to T.f_sizes_to.kp B0 B0v pass0 (pa_cons (pv 0) (pa_cons (pv 1) (pa_cons (pv 2) pa_nil)))))
      (pss_cons (ps_set (i := 4) sc_row_to.nd rfl (Or.inr rfl) (pe_lc (own := [("ladder", 6), ("size", 7)]) (g := gTup K 2 (gCons (gName 6) (gCons (gName 7) (gNil)))) rfl sc_row_to.nd (RZ.pi_zipA (by rfl) T.z_zip (pa_cons (pv 0) (pa_cons (pv 3) pa_nil))) (blkOk_by (own := [("ladder", 6), ("size", 7)]) (N := N_row_to) (sc := (defScope s_row_to)) (by decide +kernel)) (fun _ _ _ _ _ => (pg_tup rfl (pgs_cons (pg_name (i := 6) sc_row_to.nd rfl (Or.inl rfl)) (pgs_cons (pg_name (i := 7) sc_row_to.nd rfl (Or.inl rfl)) pgs_nil)))) (fun _ _ _ _ _ => pts_nil) (fun _ _ _ _ _ => (pe_meth (pv 6) T.cl_Ladder T.me_Ladder_stretch (ok_Ladder_stretch (K := K) T) (hr.mono (by decide)) B1 B1v pass0 (pa_cons (pv 7) pa_nil)))))
      (pss_cons (ps_setLc (i := 5) (own := [("at", 8)]) (g := gName 8) rfl sc_row_to.nd rfl rfl (sw_true rfl rfl rfl (by decide +kernel)) (pi_range2 rfl T.z_range (pa_cons pe_int (pa_cons (pe_callB (id := "len") (lenS (K := K)) (by rfl) T.z_len PySem.boot_len (pa_cons (pv 4) pa_nil)) pa_nil))) (blkOk_by (own := [("at", 8)]) (N := N_row_to) (sc := (defScope s_row_to)) (by decide +kernel)) (fun _ _ _ _ _ => (pg_name (i := 8) sc_row_to.nd rfl (Or.inl rfl))) (fun _ _ _ _ _ => pts_nil) (fun _ _ _ _ _ => (pe_call (ok_shared_by (K := K) T) (hr.mono (by decide)) rfl T.g_shared_by T.f_shared_by.kp B2 B2v pass0 (pa_cons (pe_ix (ixl (K := K)) (pv 4) (pe_op op_sub (pv 8) pe_int) (fun _ _ => rfl)) (pa_cons (pe_ix (ixl (K := K)) (pv 4) (pv 8) (fun _ _ => rfl)) pa_nil)))))
      (pss_one (ps_ret (pe_tup (pa_cons (pv 3) (pa_cons (pe_callTy (T := "tuple") (tupleL (K := K)) (by rfl) T.z_tuple (by decide +kernel) (pa_cons (pv 5) pa_nil)) pa_nil)))))))), ?_⟩
    have cl_Ladder := T.cl_Ladder
    have na_Ladder_marks := T.na_Ladder_marks
    have na_Ladder_rule := T.na_Ladder_rule
    have na_Ladder_least := T.na_Ladder_least
    have na_Ladder_most := T.na_Ladder_most
    
    obtain ⟨pw, hT, lw, aw⟩ := id hW
    refine ⟨_, rfl, _, rfl, _, rfl, W, R, k, ws, w0, ps, rs, n, a, b, last, rfl, hW, h0, n0, hR, pr, RP, lr, hrl, al, lb, k0, k1, l0, l31, fun TK ks H1 s1 hK Z => ?_⟩
    have zl := Z.len
    have hT1 := s1.sqt hT
    have hK1 : SqT K H1 TK (ks.map fun k : Nat => V.int k) := SqT.of hK
    have lks : (ks.map fun k : Nat => V.int k).length = ks.length := List.length_map ..
    have szr : ∀ (i c : Nat) (w : LQ), ks[i]? = some c → ws[i]? = some w → c < w.zs.length := fun i c w e1 e2 => by
      have li := (List.getElem?_eq_some_iff.mp e1).1
      obtain ⟨⟨a1, b1⟩, hr1⟩ : ∃ r1, rs[i]? = some r1 := ⟨_, List.getElem?_eq_getElem (by omega)⟩
      have q := Z.inr i c a1 b1 e1 (by rw [Nat.zero_add]; exact hr1)
      have q2 := RP.at_ h0 n0 hr1 e2
      omega
    refine ⟨_, rfl, _, rfl, W, TK, _, _, rfl, .inr ⟨hT1, hK1, fun D nD => ?_⟩⟩
    refine lcr (n := ws.length) (walk_zipT (xs := pw) (ys := ks.map fun k : Nat => V.int k) (by omega)) (fun _ _ g s => ⟨s.sqt g.1, s.sqt g.2⟩) (fun i H v => ∃ (w : LQ) (c : Nat), ws[i]? = some w ∧ ks[i]? = some c ∧ RunV (He.ga K "Measure") (He.ga K "Stretch") H v w.zs w.r w.lo w.hi c) (fun i H H' v ⟨w, c, e1, e2, e3⟩ n => ⟨w, c, e1, e2, e3.nl n⟩) (szs (by omega)) ⟨hT1, hK1⟩ nD (fun i x H3 H4 N M hI s3 yy hN => ?_) (fun H3 ss s3 hD ly hy => ?_)
    · obtain ⟨t, x1, x2, rfl, nt, rfl, ha, hb⟩ := yy
      obtain ⟨w1, hw1⟩ : ∃ w, ws[i]? = some w := ⟨_, List.getElem?_eq_getElem hI⟩
      obtain ⟨c, hc⟩ : ∃ c, ks[i]? = some c := ⟨_, List.getElem?_eq_getElem (by omega)⟩
      obtain ⟨p, e1, A⟩ := aw i w1 hw1
      have ha : pw[i]? = some x1 := ha
      have hb : (ks.map fun k : Nat => V.int k)[i]? = some x2 := hb
      rw [e1] at ha
      rw [List.getElem?_map, hc] at hb
      cases ha
      cases hb
      have A' := ((A.same s1).same s3).same (same1 (u := .tup [V.ref p, V.int (c : Int)]) nt)
      refine ⟨t, _, rfl, SqT.of upd_same, rfl, _, _, rfl, _, _, rfl, rfl, rfl, yesT ?_⟩
      refine ⟨_, rfl, meth_l A' (by decide +kernel) (by decide +kernel) (by decide +kernel) (by decide +kernel) ⟨_, rfl, p, k, w1.zs, w1.r, w1.lo, w1.hi, c, rfl, A', k0, by omega, szr i c w1 hc hw1, fun v H5 s5 cc => ?_⟩⟩
      exact hN _ _ ((same1 nt : Same H3 _).trans s5) ⟨w1, c, hw1, hc, run_of cc⟩
    have ssl : ss.length = ws.length := ly
    walk_at "f"
    intro D2 nD2
    refine lcr (n := ((ss.length : Int) - 1).toNat) walk_range (fun _ _ _ _ => trivial) (fun i H v => ∃ (r : Addr) (z : Q2) (w w' : LQ) (a b : Nat), v = .ref r ∧ QAt (He.ga K "Measure") H r (4 * k + 36) z ∧ ws[i]? = some w ∧ ws[i + 1]? = some w' ∧ ks[i]? = some a ∧ ks[i + 1]? = some b ∧ w.F (toR z) = some a ∧ w'.F (toR z) = some b) (fun i H H' v ⟨r, z, w, w', a, b, e1, e2, e3⟩ n => ⟨r, z, w, w', a, b, e1, e2.nl n, e3⟩) (szs (by omega)) trivial nD2 (fun i x H4 H5 N M hI s4 yy hN => ?_) (fun H4 ms s4 hD4 lm hm => ?_)
    · obtain ⟨rfl, rfl⟩ := yy
      obtain ⟨v1, hv1⟩ : ∃ v, ss[i]? = some v := ⟨_, List.getElem?_eq_getElem (by omega)⟩
      obtain ⟨v2, hv2⟩ : ∃ v, ss[i + 1]? = some v := ⟨_, List.getElem?_eq_getElem (by omega)⟩
      obtain ⟨w1, c1, hw1, hc1, rv1⟩ := hy i v1 hv1
      obtain ⟨w2, c2, hw2, hc2, rv2⟩ := hy (i + 1) v2 hv2
      obtain ⟨p1, e1, A1⟩ := aw i w1 hw1
      obtain ⟨p2, e2, A2⟩ := aw (i + 1) w2 hw2
      obtain ⟨⟨_, _, _, _, _, _, _, hm1, ql1, qh1⟩, _⟩ := id A1
      obtain ⟨⟨_, _, _, _, _, _, _, hm2, ql2, qh2⟩, _⟩ := id A2
      have sz1 := sizE_sz (n := c1) (r := w1.r) (szL_of hm1) (szE_of ql1) (szE_of qh1)
      have sz2 := sizE_sz (n := c2) (r := w2.r) (szL_of hm2) (szE_of ql2) (szE_of qh2)
      have i1 : atI ss (1 + (i : Int) - 1) = some v1 := by rw [show 1 + (i : Int) - 1 = (i : Int) by omega]; exact atI_nat hv1
      have i2 : atI ss (1 + (i : Int)) = some v2 := by rw [show 1 + (i : Int) = ((i + 1 : Nat) : Int) by omega]; exact atI_nat hv2
      have hD5 := s4 _ _ hD
      have rv1' := rv1.same s4
      have rv2' := rv2.same s4
      clear hm1 ql1 qh1 hm2 ql2 qh2
      refine ⟨rfl, yesT ?_⟩
      walk_at "f"
      all_goals (try refine ⟨w1.zs, w2.zs, w1.r, w2.r, w1.lo, w1.hi, w2.lo, w2.hi, c1, c2, rfl, rv1', rv2', ladq_of A1, ladq_of A2, szr i c1 w1 hc1 hw1, szr (i + 1) c2 w2 hc2 hw2, sz1.1, sz1.2, sz2.1, sz2.2, by omega, by omega, fun u H6 s6 m => ?_⟩)
      rcases m with ⟨r, z, rfl, q, f, g⟩ | ⟨rfl, no⟩
      · exact hN _ _ s6 ⟨r, z, w1, w2, c1, c2, rfl, q.mono (by omega), hw1, hw2, hc1, hc2, f, g⟩
      · obtain ⟨x, f, g⟩ := Z.met i c1 c2 w1 w2 hc1 hc2 (by rw [Nat.zero_add]; exact hw1) (by rw [Nat.zero_add]; exact hw2)
        exact (no x f g).elim
    walk_at "f"
    intro M nM
    have hM : (upd H4 M (.tup ms)) M = some (.tup ms) := upd_same
    have sM := same1 (u := .tup ms) nM
    generalize upd H4 M (.tup ms) = H5 at *
    walk_at "f"
    intro TT nTT
    have sT := sM.trans (same1 (u := .tup [V.ref TK, V.ref M]) nTT)
    refine kk TT _ (((s1.trans s3).trans s4).trans sT) ⟨TK, M, ks, ms, upd_same, ((s3.trans s4).trans sT) _ _ hK, up1 nTT hM, Z, by omega, fun i y e => ?_⟩
    obtain ⟨r, z, w, w', a, b, g1, g2, g3⟩ := hm i y e
    exact ⟨r, z, w, w', a, b, g1, g2.same sT, g3⟩
theorem ok_round_from {P : Program} {w : World} {K : PySem.W.Frag} {mg : Str → Option Value} {base : Heap} {φ : Fds} (T : Txt K mg φ) : FnOk P w K mg base CX0 13 (He.fAd K ("round_from", none)) φ.round_from p_round_from (sp_round K (He.ga K "Measure") (He.ga K "Ladder")) := by
  obtain ⟨_, B0v, B0⟩ := b_way_of_1 T
  obtain ⟨_, B1v, B1⟩ := b_runs_of_2 T
  obtain ⟨_, B2v, B2⟩ := b_row_to_3 T
  refine T.f_round_from.ok sc_round_from (fun vs H Q E h => ?_) (fun cdv A outer s H vs Q E hr h => ?_)
  · obtain ⟨W, k, ws, w0, n, rfl, hW, h0, n0, k0, k1, l30, kk⟩ := h; rfl
  · obtain ⟨W, k, ws, w0, n, rfl, hW, h0, n0, k0, k1, l30, kk⟩ := h
    refine ⟨_, PSs.nox (pss_cons (ps_set (i := 2) sc_round_from.nd rfl (Or.inl rfl) (pe_call (ok_way_of (K := K) T) (hr.mono (by decide)) rfl T.g_way_of T.f_way_of.kp B0 B0v pass0 (pa_cons (pv 0) pa_nil)))
      (pss_cons (ps_set (i := 3) sc_round_from.nd rfl (Or.inl rfl) (pe_call (ok_runs_of (K := K) T) (hr.mono (by decide)) rfl T.g_runs_of T.f_runs_of.kp B1 B1v pass0 (pa_cons (pv 2) (pa_cons (pv 1) pa_nil))))
      (pss_cons (ps_if (pt_cmpR op_lt (pe_callB (id := "len") (lenS (K := K)) (by rfl) T.z_len PySem.boot_len (pa_cons (pv 3) pa_nil)) (pe_callB (id := "len") (lenS (K := K)) (by rfl) T.z_len PySem.boot_len (pa_cons (pv 2) pa_nil)) (nomark _))
      (pss_one (ps_ret (pe_tup (pa_cons pe_str (pa_cons (pv 3) pa_nil)))))
      pss_nil)
      (pss_cons (ps_asg (pe_ix (ixt (K := K)) (pv 3) (pe_un un_neg pe_int) (fun _ _ => rfl)) (pg_tup rfl (pgs_cons (pg_name (i := 4) sc_round_from.nd rfl (Or.inl rfl)) (pgs_cons (pg_name (i := 5) sc_round_from.nd rfl (Or.inl rfl)) pgs_nil))))
      (pss_one (ps_ret (pe_tup (pa_cons pe_str (pa_cons (pv 3) (pa_cons (pe_call (ok_row_to (K := K) T) (hr.mono (by decide)) rfl T.g_row_to T.f_row_to.kp B2 B2v pass0 (pa_cons (pv 2) (pa_cons (pv 3) (pa_cons (pv 4) pa_nil)))) (pa_cons (pe_call (ok_row_to (K := K) T) (hr.mono (by decide)) rfl T.g_row_to T.f_row_to.kp B2 B2v pass0 (pa_cons (pv 2) (pa_cons (pv 3) (pa_cons (pv 5) pa_nil)))) pa_nil))))))))))), ?_⟩
    have l0 := (List.getElem?_eq_some_iff.mp h0).1
    have lww : (ws ++ ws.take 1).length = ws.length + 1 := by rw [List.length_append, List.length_take]; omega
    refine ⟨_, rfl, W, k, ws, rfl, hW, l30, fun W' H1 s1 hW1 => ?_⟩
    have h0' : (ws ++ ws.take 1)[0]? = some w0 := by rw [List.getElem?_append_left l0]; exact h0
    refine ⟨_, rfl, _, rfl, W', k, ws ++ ws.take 1, w0, n, rfl, hW1, h0', n0, k0, k1, by omega, fun R ps rs H2 s2 hR pr RS => ?_⟩
    have hW2 := hW1.same s2
    obtain ⟨pw, hT, lw, aw⟩ := id hW2
    have lp := pr.1
    have hRT := SqT.of (K := K) hR
    have lrs := RS.len
    have fst := RS.first
    have lr0 := (List.getElem?_eq_some_iff.mp fst).1
    walk_at "f"
    show (if _ = true then _ else _)
    by_cases lt : rs.length < ws.length + 1
    · rw [if_pos (decide_eq_true (by omega))]
      walk_at "f"
      intro TT nTT
      have sT := same1 (u := .tup [V.str (Str.ofString "stops"), V.ref R]) nTT
      exact kk TT _ ((s1.trans s2).trans sT) ⟨R, ps, rs, RS, sT _ _ hR, pr.nl (Nl.of sT), .inl ⟨by omega, upd_same⟩⟩
    · have le : rs.length = (ws ++ ws.take 1).length := by omega
      rw [if_neg (fun z => by have := of_decide_eq_true z; omega)]
      obtain ⟨⟨a, b⟩, hrl⟩ : ∃ r1, rs[rs.length - 1]? = some r1 := ⟨_, List.getElem?_eq_getElem (by omega)⟩
      obtain ⟨t1, et1, ht1⟩ := pr.2 _ a b hrl
      have i1 : atI ps (-1) = some (V.ref t1) := atI_end (n := rs.length - 1) (by omega) et1
      obtain ⟨wl, hwl⟩ : ∃ w, (ws ++ ws.take 1)[rs.length - 1]? = some w := ⟨_, List.getElem?_eq_getElem (by omega)⟩
      have ab := (RS.at_ h0' n0 hrl hwl).1
      walk_at "f"
      all_goals (try refine ⟨ws ++ ws.take 1, w0, ps, rs, n, a, b, a, rfl, hW2, h0', n0, hR, pr, RS.toRunsP, le, hrl, Nat.le_refl _, ab, k0, k1, by omega, by omega, fun A H3 s3 rA => ?_⟩)
      have hW3 := hW2.same s3
      have hR3 := s3 _ _ hR
      have pr3 := pr.nl (Nl.of s3)
      refine ⟨_, rfl, _, rfl, _, rfl, W', R, k, ws ++ ws.take 1, w0, ps, rs, n, a, b, b, rfl, hW3, h0', n0, hR3, pr3, RS.toRunsP, le, hrl, ab, Nat.le_refl _, k0, k1, by omega, by omega, fun B H4 s4 rB => ?_⟩
      walk_at "f"
      intro TT nTT
      have sT := s4.trans (same1 (u := .tup [V.str (Str.ofString "comes"), V.ref R, V.ref A, V.ref B]) nTT)
      exact kk TT _ (((s1.trans s2).trans s3).trans sT) ⟨R, ps, rs, RS, sT _ _ hR3, pr3.nl (Nl.of sT), .inr ⟨le, A, B, a, b, upd_same, hrl, rA.same sT, rB.same (same1 nTT)⟩⟩
theorem ok_comes_to {P : Program} {w : World} {K : PySem.W.Frag} {mg : Str → Option Value} {base : Heap} {φ : Fds} (T : Txt K mg φ) : FnOk P w K mg base CX0 8 (He.fAd K ("comes_to", none)) φ.comes_to p_comes_to (sp_comes K (He.ga K "Measure") (He.ga K "Ladder")) := by
  obtain ⟨_, B0v, B0⟩ := b_Ladder_size_2 T
  refine T.f_comes_to.ok sc_comes_to (fun vs H Q E h => ?_) (fun cdv A outer s H vs Q E hr h => ?_)
  · obtain ⟨q, t, k, zs, r, lo, hi, z, n, rfl, hq, qz, k0, k1, f, kk⟩ := h; rfl
  · obtain ⟨q, t, k, zs, r, lo, hi, z, n, rfl, hq, qz, k0, k1, f, kk⟩ := h
    refine ⟨_, PSs.nox (pss_one (ps_ret (pe_and (pe_callB (id := "isinstance") (isi (K := K)) (by rfl) T.z_isinstance (by decide +kernel) (pa_cons (pv 1) (pa_cons (pe_glob (v := .ref (He.ga K "Measure")) rfl T.g_Measure rfl) pa_nil))) (pe_one (pe_cmpR op_eq (pe_meth (pv 0) T.cl_Ladder T.me_Ladder_size (ok_Ladder_size (K := K) T) (hr.mono (by decide)) B0 B0v pass0 (pa_cons (pv 1) pa_nil)) (pv 2) (nomark _)))))), ?_⟩
    have cl_Ladder := T.cl_Ladder
    have na_Ladder_marks := T.na_Ladder_marks
    have na_Ladder_rule := T.na_Ladder_rule
    have na_Ladder_least := T.na_Ladder_least
    have na_Ladder_most := T.na_Ladder_most
    have cl_Measure := T.cl_Measure
    have na_Measure_top := T.na_Measure_top
    have na_Measure_bottom := T.na_Measure_bottom
    
    obtain ⟨t1, u1, ⟨dx, hM⟩, _⟩ := id qz.ob
    refine ⟨_, rfl, _, _, _, _, true, rfl, .own _, tyM hM T.cl_Measure T.ii_Measure, T.k_Measure_Measure, _, rfl, iteT ?_⟩
    refine ⟨_, rfl, meth_l hq (by decide +kernel) (by decide +kernel) (by decide +kernel) (by decide +kernel) ⟨_, rfl, q, t, _, zs, r, lo, hi, z, rfl, hq, qz, by omega, by omega, fun H1 s1 => ?_⟩⟩
    rw [sizF_eq (ladq_of hq) qz.pos, f]
    refine ⟨_, rfl, rfl, ?_⟩
    rw [show decide (optI (some n) = V.int (n : Int)) = true from decide_eq_true rfl]
    exact kk H1 s1
theorem ok_is_tuple_of {P : Program} {w : World} {K : PySem.W.Frag} {mg : Str → Option Value} {base : Heap} {φ : Fds} (T : Txt K mg φ) : FnOk P w K mg base CX0 1 (He.fAd K ("is_tuple_of", none)) φ.is_tuple_of p_is_tuple_of (sp_istupU K) := by
  refine T.f_is_tuple_of.ok sc_is_tuple_of (fun vs H Q E h => ?_) (fun cdv A outer s H vs Q E hr h => ?_)
  · obtain ⟨a, xs, n, rfl, hT, kk⟩ := h; rfl
  · obtain ⟨a, xs, n, rfl, hT, kk⟩ := h
    refine ⟨_, PSs.nox (pss_one (ps_ret (pe_and (pe_callB (id := "isinstance") (isi (K := K)) (by rfl) T.z_isinstance (by decide +kernel) (pa_cons (pv 0) (pa_cons (pe_bltn (v := .ty "tuple") rfl T.z_tuple (by decide +kernel) rfl) pa_nil))) (pe_one (pe_cmpR op_eq (pe_callB (id := "len") (lenS (K := K)) (by rfl) T.z_len PySem.boot_len (pa_cons (pv 0) pa_nil)) (pv 1) (nomark _)))))), ?_⟩
    walk_at "w"
    refine ⟨_, _, _, rfl, .ty _, tyTup hT, kit_ty (r := true) (by decide +kernel), ?_⟩
    walk_at "w"
    have e : decide (V.int ((xs.length : Nat) : Int) = V.int n) = decide ((xs.length : Int) = n) := decide_eq_decide.mpr ⟨fun h => V.int.inj h, fun h => by rw [h]⟩
    rw [e]
    exact kk
theorem ok_are_wholes {P : Program} {w : World} {K : PySem.W.Frag} {mg : Str → Option Value} {base : Heap} {φ : Fds} (T : Txt K mg φ) : FnOk P w K mg base CX0 2 (He.fAd K ("are_wholes", none)) φ.are_wholes p_are_wholes (sp_arew K) := by
  obtain ⟨_, B0v, B0⟩ := b_is_whole_1 T
  refine T.f_are_wholes.ok sc_are_wholes (fun vs H Q E h => ?_) (fun cdv A outer s H vs Q E hr h => ?_)
  · obtain ⟨a, ns, rfl, hT, hn, kk⟩ := h; rfl
  · obtain ⟨a, ns, rfl, hT, hn, kk⟩ := h
    refine ⟨_, PSs.nox (pss_one (ps_ret (pe_and (pe_callB (id := "isinstance") (isi (K := K)) (by rfl) T.z_isinstance (by decide +kernel) (pa_cons (pv 0) (pa_cons (pe_bltn (v := .ty "tuple") rfl T.z_tuple (by decide +kernel) rfl) pa_nil))) (pe_one (pe_callB (id := "all") (allK (K := K)) (by rfl) T.z_all (by decide +kernel) (pa_cons (pe_lc (own := [("part", 1)]) (g := gName 1) rfl sc_are_wholes.nd (pi_tup (pv 0)) (blkOk_by (own := [("part", 1)]) (N := N_are_wholes) (sc := (defScope s_are_wholes)) (by decide +kernel)) (fun _ _ _ _ _ => (pg_name (i := 1) sc_are_wholes.nd rfl (Or.inl rfl))) (fun _ _ _ _ _ => pts_nil) (fun _ _ _ _ _ => (pe_call (ok_is_whole (K := K) T) (hr.mono (by decide)) rfl T.g_is_whole T.f_is_whole.kp B0 B0v pass0 (pa_cons (pv 1) pa_nil)))) pa_nil)))))), ?_⟩
    walk_at "w"
    refine ⟨_, _, _, rfl, .ty _, tyTup hT, kit_ty (r := true) (by decide +kernel), ?_⟩
    walk_at "w"
    refine ⟨⟨_, hT⟩, fun D nD => ?_⟩
    refine lcz (n := (ns.map V.int).length) walk_tup (fun _ _ g s => s.sqt g) (List.replicate (ns.map V.int).length (some (V.bl true))) List.length_replicate (szs (by rw [List.length_map]; omega)) hT nD (fun i x H1 H2 o N M hi ho s1 yy hN hM => ?_) (fun H1 s1 hD => ?_)
    · obtain ⟨rfl, hx⟩ := yy
      obtain ⟨z, _, rfl⟩ := List.mem_map.mp (List.mem_of_getElem? hx)
      rw [List.getElem?_replicate, if_pos hi] at ho
      cases ho
      refine ⟨rfl, yesT ?_⟩
      walk_at "w"
      exact hN _ _ rfl (Same.refl _)
    rw [filT] at hD
    refine ⟨D, _, rfl, SqL.of hD, ?_⟩
    rw [allT]
    exact kk _ s1
theorem ok_are_runs {P : Program} {w : World} {K : PySem.W.Frag} {mg : Str → Option Value} {base : Heap} {φ : Fds} (T : Txt K mg φ) : FnOk P w K mg base CX0 3 (He.fAd K ("are_runs", none)) φ.are_runs p_are_runs (sp_areruns K) := by
  obtain ⟨_, B0v, B0⟩ := b_are_wholes_1 T
  refine T.f_are_runs.ok sc_are_runs (fun vs H Q E h => ?_) (fun cdv A outer s H vs Q E hr h => ?_)
  · obtain ⟨A, R, qs, ps, rs, rfl, hA, hR, pa, pr, l40, kk⟩ := h; rfl
  · obtain ⟨A, R, qs, ps, rs, rfl, hA, hR, pa, pr, l40, kk⟩ := h
    refine ⟨_, PSs.nox (pss_one (ps_ret (pe_and (pe_callB (id := "isinstance") (isi (K := K)) (by rfl) T.z_isinstance (by decide +kernel) (pa_cons (pv 0) (pa_cons (pe_bltn (v := .ty "tuple") rfl T.z_tuple (by decide +kernel) rfl) pa_nil))) (pe_and (pe_callB (id := "all") (allK (K := K)) (by rfl) T.z_all (by decide +kernel) (pa_cons (pe_lc (own := [("run", 2)]) (g := gName 2) rfl sc_are_runs.nd (pi_tup (pv 0)) (blkOk_by (own := [("run", 2)]) (N := N_are_runs) (sc := (defScope s_are_runs)) (by decide +kernel)) (fun _ _ _ _ _ => (pg_name (i := 2) sc_are_runs.nd rfl (Or.inl rfl))) (fun _ _ _ _ _ => pts_nil) (fun _ _ _ _ _ => (pe_call (ok_are_wholes (K := K) T) (hr.mono (by decide)) rfl T.g_are_wholes T.f_are_wholes.kp B0 B0v pass0 (pa_cons (pv 2) pa_nil)))) pa_nil)) (pe_one (pe_cmpR (eqDK (K := K) hr.units) (pv 0) (pv 1) (nomark _))))))), ?_⟩
    have sA := SqT.of (K := K) hA
    have lq := pa.1
    refine ⟨_, rfl, _, _, _, _, true, rfl, .ty _, tyTup sA, kit_ty (r := true) (by decide +kernel), _, rfl, iteT ?_⟩
    walk_at "f"
    intro D nD
    refine lcz (n := qs.length) walk_tup (fun _ _ g s => s.sqt g) (List.replicate qs.length (some (V.bl true))) List.length_replicate (szs (by omega)) sA nD (fun i x HA HB o N M2 hi ho s1 yy hN hM => ?_) (fun H1 s1 hD => ?_)
    · obtain ⟨rfl, hx⟩ := yy
      rw [List.getElem?_replicate, if_pos hi] at ho
      cases ho
      obtain ⟨⟨a, b⟩, hr1⟩ : ∃ r, rs[i]? = some r := ⟨_, List.getElem?_eq_getElem (by omega)⟩
      obtain ⟨t, e1, e2⟩ := pa.2 i a b hr1
      rw [e1] at hx
      cases hx
      refine ⟨rfl, yesT ?_⟩
      exact ⟨_, rfl, t, prI (a, b), rfl, SqT.of (s1 _ _ e2), Nat.le_of_ble_eq_true rfl, fun H5 s5 => hN _ _ rfl s5⟩
    rw [rep_fm] at hD
    refine ⟨D, _, rfl, SqL.of hD, ?_⟩
    rw [rep_all]
    refine ⟨_, rfl, ?_⟩
    rw [if_pos rfl]
    refine ⟨_, rfl, _, rfl, runsD rs, runsD rs, PrL.dp (s1 _ _ hA) (pa.nl (Nl.of s1)), PrL.dp (s1 _ _ hR) (pr.nl (Nl.of s1)), sh_runs rs, sh_runs rs, ?_⟩
    rw [eqv_runs]
    exact kk _ s1
theorem ok_are_sizes {P : Program} {w : World} {K : PySem.W.Frag} {mg : Str → Option Value} {base : Heap} {φ : Fds} (T : Txt K mg φ) : FnOk P w K mg base CX0 3 (He.fAd K ("are_sizes", none)) φ.are_sizes p_are_sizes (sp_aresizes K) := by
  obtain ⟨_, B0v, B0⟩ := b_are_wholes_1 T
  refine T.f_are_sizes.ok sc_are_sizes (fun vs H Q E h => ?_) (fun cdv A outer s H vs Q E hr h => ?_)
  · obtain ⟨S, R, ps, rs, ks, last, rfl, hS, hR, pr, lk, l0, l40, hlast, inr, kk⟩ := h; rfl
  · obtain ⟨S, R, ps, rs, ks, last, rfl, hS, hR, pr, lk, l0, l40, hlast, inr, kk⟩ := h
    refine ⟨_, PSs.nox (pss_cons (ps_if (PW.pt (pw_or (pt_not (pt_val (pe_call (ok_are_wholes (K := K) T) (hr.mono (by decide)) rfl T.g_are_wholes T.f_are_wholes.kp B0 B0v pass0 (pa_cons (pv 0) pa_nil)))) (pw_or (pt_cmpR op_ne (pe_callB (id := "len") (lenS (K := K)) (by rfl) T.z_len PySem.boot_len (pa_cons (pv 0) pa_nil)) (pe_callB (id := "len") (lenS (K := K)) (by rfl) T.z_len PySem.boot_len (pa_cons (pv 1) pa_nil)) (nomark _)) (pw_or1 (pt_cmpR op_ne (pe_ix (ixt (K := K)) (pv 0) (pe_un un_neg pe_int) (fun _ _ => rfl)) (pv 2) (nomark _))))))
      (pss_one (ps_ret pe_bl))
      pss_nil)
      (pss_one (ps_ret (pe_callB (id := "all") (allK (K := K)) (by rfl) T.z_all (by decide +kernel) (pa_cons (pe_lc (own := [("at", 3), ("size", 4)]) (g := gTup K 2 (gCons (gName 3) (gCons (gName 4) (gNil)))) rfl sc_are_sizes.nd (pi_enumT (by rfl) T.z_enumerate (pa_cons (pv 0) pa_nil)) (blkOk_by (own := [("at", 3), ("size", 4)]) (N := N_are_sizes) (sc := (defScope s_are_sizes)) (by decide +kernel)) (fun _ _ _ _ _ => (pg_tup rfl (pgs_cons (pg_name (i := 3) sc_are_sizes.nd rfl (Or.inl rfl)) (pgs_cons (pg_name (i := 4) sc_are_sizes.nd rfl (Or.inl rfl)) pgs_nil)))) (fun _ _ _ _ _ => pts_nil) (fun _ _ _ _ _ => (pe_chain op_le op_le (pe_ix (ixt (K := K)) (pe_ix (ixt (K := K)) (pv 1) (pv 3) (fun _ _ => rfl)) pe_int (fun _ _ => rfl)) (pv 4) (pe_ix (ixt (K := K)) (pe_ix (ixt (K := K)) (pv 1) (pv 3) (fun _ _ => rfl)) pe_int (fun _ _ => rfl))))) pa_nil))))), ?_⟩
    have sS := SqT.of (K := K) hS
    have sR := SqT.of (K := K) hR
    have lm : (ks.map fun k : Nat => V.int k).length = ks.length := List.length_map ..
    have lp := pr.1
    refine ⟨_, rfl, S, ks.map (fun k : Nat => (k : Int)), rfl, by rw [List.map_map]; exact sS, by rw [List.length_map]; omega, fun H1 s1 => ?_⟩
    have sS1 := s1.sqt sS
    have sR1 := s1.sqt sR
    have i1 : atI (ks.map fun k : Nat => V.int k) (-1) = some (V.int (last : Int)) := atI_end (n := ks.length - 1) (by omega) (by rw [List.getElem?_map, hlast]; rfl)
    walk_at "f"
    show (if _ = true then _ else _)
    rw [if_neg (by rw [lm, lk, lp]; simp)]
    walk_at "f"
    show (if _ = true then _ else _)
    rw [if_neg (by simp)]
    walk_at "f"
    intro D nD
    refine lcz (n := (ks.map fun k : Nat => V.int k).length) walk_enumT (fun _ _ g s => s.sqt g) (List.replicate (ks.map fun k : Nat => V.int k).length (some (V.bl true))) List.length_replicate (szs (by omega)) sS1 nD (fun i x HA HB o N M2 hi ho s2 yy hN hM => ?_) (fun H2 s2 hD => ?_)
    · obtain ⟨t, a0, b0, rfl, nt, rfl, ha0, hb0⟩ := yy
      cases ha0
      rw [List.getElem?_replicate, if_pos hi] at ho
      cases ho
      obtain ⟨c, hc⟩ : ∃ c, ks[i]? = some c := ⟨_, List.getElem?_eq_getElem (by omega)⟩
      obtain ⟨⟨a, b⟩, hr1⟩ : ∃ r, rs[i]? = some r := ⟨_, List.getElem?_eq_getElem (by omega)⟩
      have hb0 : (ks.map fun k : Nat => V.int k)[i]? = some b0 := hb0
      rw [List.getElem?_map, hc] at hb0
      cases hb0
      obtain ⟨tr, e1, e2⟩ := pr.2 i a b hr1
      have q := inr i c a b hc hr1
      have iR : atI ps (i : Int) = some (.ref tr) := atI_nat e1
      have st := same1 (u := .tup [V.int (i : Int), V.int (c : Int)]) nt
      have e2' := (s2.trans st) _ _ (s1 _ _ e2)
      have sR2 := (s2.trans st).sqt sR1
      have ht : (upd HA t (.tup [V.int (i : Int), V.int (c : Int)])) t = some (.tup [V.int (i : Int), V.int (c : Int)]) := upd_same
      generalize upd HA t (.tup [V.int (i : Int), V.int (c : Int)]) = HB at *
      refine ⟨t, _, rfl, SqT.of ht, rfl, _, _, rfl, _, _, rfl, rfl, rfl, yesT ?_⟩
      walk_at "f"
      show N (.bl (decide ((c : Int) ≤ (b : Int)))) HB
      rw [decide_eq_true (by omega)]
      exact hN _ _ rfl st
    rw [rep_fm] at hD
    refine ⟨D, _, rfl, SqL.of hD, ?_⟩
    rw [rep_all]
    exact kk _ (s1.trans s2)
theorem ok_is_word {P : Program} {w : World} {K : PySem.W.Frag} {mg : Str → Option Value} {base : Heap} {φ : Fds} (T : Txt K mg φ) : FnOk P w K mg base CX0 1 (He.fAd K ("is_word", none)) φ.is_word p_is_word sp_isword30 := by
  refine T.f_is_word.ok sc_is_word (fun vs H Q E h => ?_) (fun cdv A outer s H vs Q E hr h => ?_)
  · obtain ⟨a, rfl, kk⟩ := h; rfl
  · obtain ⟨a, rfl, kk⟩ := h
    refine ⟨_, PSs.nox (pss_one (ps_ret (pe_and (pe_callB (id := "isinstance") (isi (K := K)) (by rfl) T.z_isinstance (by decide +kernel) (pa_cons (pv 0) (pa_cons (pe_bltn (v := .ty "str") rfl T.z_str (by decide +kernel) rfl) pa_nil))) (pe_one (pe_cmpR op_eq (pv 0) (pv 1) (nomark _)))))), ?_⟩
    refine ⟨_, rfl, _, _, _, _, true, rfl, .ty _, .base (.str _), kit_ty (r := true) (by decide +kernel), _, rfl, iteT ?_⟩
    walk_at "f"
    show Q (V.bl (decide (V.str a = V.str a))) H
    rw [decide_eq_true rfl]
    exact kk
theorem ok_are_steps {P : Program} {w : World} {K : PySem.W.Frag} {mg : Str → Option Value} {base : Heap} {φ : Fds} (T : Txt K mg φ) : FnOk P w K mg base CX0 9 (He.fAd K ("are_steps", none)) φ.are_steps p_are_steps (sp_aresteps K (He.ga K "Measure") (He.ga K "Ladder")) := by
  obtain ⟨_, B0v, B0⟩ := b_is_tuple_of_2 T
  obtain ⟨_, B1v, B1⟩ := b_comes_to_3 T
  refine T.f_are_steps.ok sc_are_steps (fun vs H Q E h => ?_) (fun cdv A outer s H vs Q E hr h => ?_)
  · obtain ⟨M, W, S, k, ms, ws, ks, rfl, hM, hW, hS, lm, lk, l40, k0, k1, al, kk⟩ := h; rfl
  · obtain ⟨M, W, S, k, ms, ws, ks, rfl, hM, hW, hS, lm, lk, l40, k0, k1, al, kk⟩ := h
    refine ⟨_, PSs.nox (pss_cons (ps_if (pt_not (pt_val (pe_call (ok_is_tuple_of (K := K) T) (hr.mono (by decide)) rfl T.g_is_tuple_of T.f_is_tuple_of.kp B0 B0v pass0 (pa_cons (pv 0) (pa_cons (pe_op op_sub (pe_callB (id := "len") (lenS (K := K)) (by rfl) T.z_len PySem.boot_len (pa_cons (pv 2) pa_nil)) pe_int) pa_nil)))))
      (pss_one (ps_ret pe_bl))
      pss_nil)
      (pss_one (ps_ret (pe_callB (id := "all") (allK (K := K)) (by rfl) T.z_all (by decide +kernel) (pa_cons (pe_lc (own := [("at", 3), ("measure", 4)]) (g := gTup K 2 (gCons (gName 3) (gCons (gName 4) (gNil)))) rfl sc_are_steps.nd (pi_enumT (by rfl) T.z_enumerate (pa_cons (pv 0) pa_nil)) (blkOk_by (own := [("at", 3), ("measure", 4)]) (N := N_are_steps) (sc := (defScope s_are_steps)) (by decide +kernel)) (fun _ _ _ _ _ => (pg_tup rfl (pgs_cons (pg_name (i := 3) sc_are_steps.nd rfl (Or.inl rfl)) (pgs_cons (pg_name (i := 4) sc_are_steps.nd rfl (Or.inl rfl)) pgs_nil)))) (fun _ _ _ _ _ => pts_nil) (fun _ _ _ _ _ => (pe_and (pe_call (ok_comes_to (K := K) T) (hr.mono (by decide)) rfl T.g_comes_to T.f_comes_to.kp B1 B1v pass0 (pa_cons (pe_ix (ixt (K := K)) (pv 1) (pv 3) (fun _ _ => rfl)) (pa_cons (pv 4) (pa_cons (pe_ix (ixt (K := K)) (pv 2) (pv 3) (fun _ _ => rfl)) pa_nil)))) (pe_one (pe_call (ok_comes_to (K := K) T) (hr.mono (by decide)) rfl T.g_comes_to T.f_comes_to.kp B1 B1v pass0 (pa_cons (pe_ix (ixt (K := K)) (pv 1) (pe_op op_add (pv 3) pe_int) (fun _ _ => rfl)) (pa_cons (pv 4) (pa_cons (pe_ix (ixt (K := K)) (pv 2) (pe_op op_add (pv 3) pe_int) (fun _ _ => rfl)) pa_nil)))))))) pa_nil))))), ?_⟩
    have sM := SqT.of (K := K) hM
    have sS := SqT.of (K := K) hS
    obtain ⟨pw, hT, lw, aw⟩ := id hW
    have lmm : (ks.map fun k : Nat => V.int k).length = ks.length := List.length_map ..
    walk_at "f"
    intro D nD
    refine lcz (n := ms.length) walk_enumT (fun _ _ g s => s.sqt g) (List.replicate ms.length (some (V.bl true))) List.length_replicate (szs (by omega)) sM nD (fun i x HA HB o N M2 hi ho s2 yy hN hM2 => ?_) (fun H2 s2 hD => ?_)
    · obtain ⟨t, a0, b0, rfl, nt, rfl, ha0, hb0⟩ := yy
      cases ha0
      rw [List.getElem?_replicate, if_pos hi] at ho
      cases ho
      obtain ⟨r, z, w1, w2, a, b, rfl, qz, hw1, hw2, hk1, hk2, f1, f2⟩ := al i b0 hb0
      obtain ⟨p1, e1, A1⟩ := aw i w1 hw1
      obtain ⟨p2, e2, A2⟩ := aw (i + 1) w2 hw2
      have i1 : atI pw (i : Int) = some (.ref p1) := atI_nat e1
      have i2 : atI pw ((i : Int) + 1) = some (.ref p2) := by rw [show (i : Int) + 1 = ((i + 1 : Nat) : Int) by omega]; exact atI_nat e2
      have j1 : atI (ks.map fun k : Nat => V.int k) (i : Int) = some (.int (a : Int)) := atI_nat (by rw [List.getElem?_map, hk1]; rfl)
      have j2 : atI (ks.map fun k : Nat => V.int k) ((i : Int) + 1) = some (.int (b : Int)) := by rw [show (i : Int) + 1 = ((i + 1 : Nat) : Int) by omega]; exact atI_nat (by rw [List.getElem?_map, hk2]; rfl)
      have st := same1 (u := .tup [V.int (i : Int), V.ref r]) nt
      have s3 := s2.trans st
      have ht : (upd HA t (.tup [V.int (i : Int), V.ref r])) t = some (.tup [V.int (i : Int), V.ref r]) := upd_same
      generalize upd HA t (.tup [V.int (i : Int), V.ref r]) = HC at *
      refine ⟨t, _, rfl, SqT.of ht, rfl, _, _, rfl, _, _, rfl, rfl, rfl, yesT ?_⟩
      have hT3 := s3.sqt hT
      have sS3 := s3.sqt sS
      walk_at "f"
      all_goals (try refine ⟨w1.zs, w1.r, w1.lo, w1.hi, z, a, rfl, A1.same s3, qz.same s3, k0, k1, f1, fun H5 s5 => ?_⟩)
      have s35 := s3.trans s5
      have hT5 := s35.sqt hT
      have sS5 := s35.sqt sS
      walk_at "f"
      all_goals (try refine ⟨w2.zs, w2.r, w2.lo, w2.hi, z, b, rfl, A2.same s35, qz.same s35, k0, k1, f2, fun H6 s6 => ?_⟩)
      exact hN _ _ rfl ((st.trans s5).trans s6)
    rw [rep_fm] at hD
    refine ⟨D, _, rfl, SqL.of hD, ?_⟩
    rw [rep_all]
    exact kk _ s2
theorem ok_is_row {P : Program} {w : World} {K : PySem.W.Frag} {mg : Str → Option Value} {base : Heap} {φ : Fds} (T : Txt K mg φ) : FnOk P w K mg base CX0 10 (He.fAd K ("is_row", none)) φ.is_row p_is_row (sp_isrow K (He.ga K "Measure") (He.ga K "Ladder")) := by
  obtain ⟨_, B0v, B0⟩ := b_is_tuple_of_2 T
  obtain ⟨_, B1v, B1⟩ := b_are_steps_3 T
  obtain ⟨_, B2v, B2⟩ := b_are_sizes_3 T
  refine T.f_is_row.ok sc_is_row (fun vs H Q E h => ?_) (fun cdv A outer s H vs Q E hr h => ?_)
  · obtain ⟨T0, W, R, k, ws, ps, rs, last, rfl, hRow, hW, hR, pr, lr, l40, k0, k1, kk⟩ := h; rfl
  · obtain ⟨T0, W, R, k, ws, ps, rs, last, rfl, hRow, hW, hR, pr, lr, l40, k0, k1, kk⟩ := h
    refine ⟨_, PSs.nox (pss_cons (ps_if (pt_not (pt_val (pe_call (ok_is_tuple_of (K := K) T) (hr.mono (by decide)) rfl T.g_is_tuple_of T.f_is_tuple_of.kp B0 B0v pass0 (pa_cons (pv 0) (pa_cons pe_int pa_nil)))))
      (pss_one (ps_ret pe_bl))
      pss_nil)
      (pss_cons (ps_asg (pv 0) (pg_tup rfl (pgs_cons (pg_name (i := 4) sc_is_row.nd rfl (Or.inl rfl)) (pgs_cons (pg_name (i := 5) sc_is_row.nd rfl (Or.inl rfl)) pgs_nil))))
      (pss_one (ps_ret (pe_and (pe_call (ok_are_sizes (K := K) T) (hr.mono (by decide)) rfl T.g_are_sizes T.f_are_sizes.kp B2 B2v pass0 (pa_cons (pv 4) (pa_cons (pv 2) (pa_cons (pv 3) pa_nil)))) (pe_one (pe_call (ok_are_steps (K := K) T) (hr.mono (by decide)) rfl T.g_are_steps T.f_are_steps.kp B1 B1v pass0 (pa_cons (pv 5) (pa_cons (pv 1) (pa_cons (pv 4) pa_nil)))))))))), ?_⟩
    obtain ⟨S, M, ks, ms, hT0, hS, hM, Z, lm, al⟩ := hRow
    have sT := SqT.of (K := K) hT0
    have zl := Z.len
    refine ⟨_, rfl, T0, _, 2, rfl, sT, _, rfl, iteF ?_⟩
    walk_at "f"
    all_goals (try refine ⟨rs, ks, last, rfl, hS, hR, pr, by omega, Z.pos, by omega, Z.last, fun i k' a b e1 e2 => Z.inr i k' a b e1 (by rw [Nat.zero_add]; exact e2), fun H1 s1 => ?_⟩)
    walk_at "f"
    all_goals (try refine ⟨ws, ks, rfl, s1 _ _ hM, hW.same s1, s1 _ _ hS, lm, by omega, l40, k0, k1, fun i y e => ?_, fun H2 s2 => kk _ (s1.trans s2)⟩)
    obtain ⟨r, z, w, w', a, b, g1, g2, g3⟩ := al i y e
    exact ⟨r, z, w, w', a, b, g1, g2.same s1, g3⟩
theorem ok_is_stop {P : Program} {w : World} {K : PySem.W.Frag} {mg : Str → Option Value} {base : Heap} {φ : Fds} (T : Txt K mg φ) : FnOk P w K mg base CX0 4 (He.fAd K ("is_stop", none)) φ.is_stop p_is_stop (sp_isstop K) := by
  obtain ⟨_, B0v, B0⟩ := b_are_runs_2 T
  obtain ⟨_, B1v, B1⟩ := b_is_word_2 T
  obtain ⟨_, B2v, B2⟩ := b_is_tuple_of_2 T
  refine T.f_is_stop.ok sc_is_stop (fun vs H Q E h => ?_) (fun cdv A outer s H vs Q E hr h => ?_)
  · obtain ⟨T0, A, R, qs, ps, rs, rfl, hT0, hA, pa, hR, pr, l40, kk⟩ := h; rfl
  · obtain ⟨T0, A, R, qs, ps, rs, rfl, hT0, hA, pa, hR, pr, l40, kk⟩ := h
    refine ⟨_, PSs.nox (pss_one (ps_ret (pe_and (pe_call (ok_is_tuple_of (K := K) T) (hr.mono (by decide)) rfl T.g_is_tuple_of T.f_is_tuple_of.kp B2 B2v pass0 (pa_cons (pv 0) (pa_cons pe_int pa_nil))) (pe_and (pe_call (ok_is_word (K := K) T) (hr.mono (by decide)) rfl T.g_is_word T.f_is_word.kp B1 B1v pass0 (pa_cons (pe_ix (ixt (K := K)) (pv 0) pe_int (fun _ _ => rfl)) (pa_cons pe_str pa_nil))) (pe_one (pe_call (ok_are_runs (K := K) T) (hr.mono (by decide)) rfl T.g_are_runs T.f_are_runs.kp B0 B0v pass0 (pa_cons (pe_ix (ixt (K := K)) (pv 0) pe_int (fun _ _ => rfl)) (pa_cons (pv 1) pa_nil)))))))), ?_⟩
    have sT := SqT.of (K := K) hT0
    refine ⟨_, rfl, T0, _, 2, rfl, sT, _, rfl, iteT ?_⟩
    refine ⟨_, rfl, T0, _, _, _, rfl, rfl, sT, rfl, _, rfl, _, rfl, iteT ?_⟩
    exact ⟨_, rfl, T0, _, _, _, rfl, rfl, sT, rfl, _, rfl, A, R, qs, ps, rs, rfl, hA, hR, pa, pr, l40, kk⟩
theorem ok_is_return {P : Program} {w : World} {K : PySem.W.Frag} {mg : Str → Option Value} {base : Heap} {φ : Fds} (T : Txt K mg φ) : FnOk P w K mg base CX0 11 (He.fAd K ("is_return", none)) φ.is_return p_is_return (sp_isreturn K (He.ga K "Measure") (He.ga K "Ladder")) := by
  obtain ⟨_, B0v, B0⟩ := b_is_tuple_of_2 T
  obtain ⟨_, B1v, B1⟩ := b_are_runs_2 T
  obtain ⟨_, B2v, B2⟩ := b_is_word_2 T
  obtain ⟨_, B3v, B3⟩ := b_is_row_4 T
  refine T.f_is_return.ok sc_is_return (fun vs H Q E h => ?_) (fun cdv A outer s H vs Q E hr h => ?_)
  · obtain ⟨T0, A, R, B, C, W, k, ws, qs, ps, rs, a, b, rfl, hT0, hA, pa, hR, pr, hW, lr, l40, k0, k1, hrl, rB, rC, kk⟩ := h; rfl
  · obtain ⟨T0, A, R, B, C, W, k, ws, qs, ps, rs, a, b, rfl, hT0, hA, pa, hR, pr, hW, lr, l40, k0, k1, hrl, rB, rC, kk⟩ := h
    refine ⟨_, PSs.nox (pss_cons (ps_if (pt_not (pt_val (pe_call (ok_is_tuple_of (K := K) T) (hr.mono (by decide)) rfl T.g_is_tuple_of T.f_is_tuple_of.kp B0 B0v pass0 (pa_cons (pv 0) (pa_cons pe_int pa_nil)))))
      (pss_one (ps_ret pe_bl))
      pss_nil)
      (pss_cons (ps_asg (pv 0) (pg_tup rfl (pgs_cons (pg_name (i := 3) sc_is_return.nd rfl (Or.inl rfl)) (pgs_cons (pg_name (i := 4) sc_is_return.nd rfl (Or.inl rfl)) (pgs_cons (pg_name (i := 5) sc_is_return.nd rfl (Or.inl rfl)) (pgs_cons (pg_name (i := 6) sc_is_return.nd rfl (Or.inl rfl)) pgs_nil))))))
      (pss_cons (ps_if (PW.pt (pw_or (pt_not (pt_val (pe_call (ok_is_word (K := K) T) (hr.mono (by decide)) rfl T.g_is_word T.f_is_word.kp B2 B2v pass0 (pa_cons (pv 3) (pa_cons pe_str pa_nil))))) (pw_or1 (pt_not (pt_val (pe_call (ok_are_runs (K := K) T) (hr.mono (by decide)) rfl T.g_are_runs T.f_are_runs.kp B1 B1v pass0 (pa_cons (pv 4) (pa_cons (pv 2) pa_nil))))))))
      (pss_one (ps_ret pe_bl))
      pss_nil)
      (pss_one (ps_ret (pe_and (pe_call (ok_is_row (K := K) T) (hr.mono (by decide)) rfl T.g_is_row T.f_is_row.kp B3 B3v pass0 (pa_cons (pv 5) (pa_cons (pv 1) (pa_cons (pv 2) (pa_cons (pe_ix (ixt (K := K)) (pe_ix (ixt (K := K)) (pv 2) (pe_un un_neg pe_int) (fun _ _ => rfl)) pe_int (fun _ _ => rfl)) pa_nil))))) (pe_one (pe_call (ok_is_row (K := K) T) (hr.mono (by decide)) rfl T.g_is_row T.f_is_row.kp B3 B3v pass0 (pa_cons (pv 6) (pa_cons (pv 1) (pa_cons (pv 2) (pa_cons (pe_ix (ixt (K := K)) (pe_ix (ixt (K := K)) (pv 2) (pe_un un_neg pe_int) (fun _ _ => rfl)) pe_int (fun _ _ => rfl)) pa_nil)))))))))))), ?_⟩
    have sT := SqT.of (K := K) hT0
    have lp := pr.1
    have l0 := (List.getElem?_eq_some_iff.mp hrl).1
    obtain ⟨t1, et1, ht1⟩ := pr.2 _ a b hrl
    have i1 : atI ps (-1) = some (V.ref t1) := atI_end (n := rs.length - 1) (by omega) et1
    refine ⟨_, rfl, T0, _, 4, rfl, sT, _, rfl, iteF ?_⟩
    walk_at "f"
    all_goals (try refine ⟨rs, rfl, hA, hR, pa, pr, by omega, fun H1 s1 => ?_⟩)
    have sR1 := SqT.of (K := K) (s1 _ _ hR)
    have st1 := SqT.of (K := K) (s1 _ _ ht1)
    walk_at "f"
    all_goals (try refine ⟨ws, ps, rs, a, rfl, rB.same s1, hW.same s1, s1 _ _ hR, pr.nl (Nl.of s1), lr, l40, k0, k1, fun H2 s2 => ?_⟩)
    have s12 := s1.trans s2
    have sR2 := SqT.of (K := K) (s12 _ _ hR)
    have st2 := SqT.of (K := K) (s12 _ _ ht1)
    clear sR1 st1
    walk_at "f"
    all_goals (try refine ⟨ws, ps, rs, b, rfl, rC.same s12, hW.same s12, s12 _ _ hR, pr.nl (Nl.of s12), lr, l40, k0, k1, fun H3 s3 => ?_⟩)
    exact kk _ (s12.trans s3)
theorem ok_shows_round {P : Program} {w : World} {K : PySem.W.Frag} {mg : Str → Option Value} {base : Heap} {φ : Fds} (T : Txt K mg φ) : FnOk P w K mg base CX0 12 (He.fAd K ("shows_round", none)) φ.shows_round p_shows_round (sp_showsround K (He.ga K "Measure") (He.ga K "Ladder")) := by
  obtain ⟨_, B0v, B0⟩ := b_way_of_1 T
  obtain ⟨_, B1v, B1⟩ := b_runs_of_2 T
  obtain ⟨_, B2v, B2⟩ := b_is_stop_2 T
  obtain ⟨_, B3v, B3⟩ := b_is_return_3 T
  refine T.f_shows_round.ok sc_shows_round (fun vs H Q E h => ?_) (fun cdv A outer s H vs Q E hr h => ?_)
  · obtain ⟨W, T0, k, ws, w0, n, rfl, hW, h0, n0, k0, k1, l30, RA, kk⟩ := h; rfl
  · obtain ⟨W, T0, k, ws, w0, n, rfl, hW, h0, n0, k0, k1, l30, RA, kk⟩ := h
    refine ⟨_, PSs.nox (pss_cons (ps_set (i := 3) sc_shows_round.nd rfl (Or.inl rfl) (pe_call (ok_way_of (K := K) T) (hr.mono (by decide)) rfl T.g_way_of T.f_way_of.kp B0 B0v pass0 (pa_cons (pv 0) pa_nil)))
      (pss_cons (ps_set (i := 4) sc_shows_round.nd rfl (Or.inl rfl) (pe_call (ok_runs_of (K := K) T) (hr.mono (by decide)) rfl T.g_runs_of T.f_runs_of.kp B1 B1v pass0 (pa_cons (pv 3) (pa_cons (pv 1) pa_nil))))
      (pss_cons (ps_if (pt_cmpR op_lt (pe_callB (id := "len") (lenS (K := K)) (by rfl) T.z_len PySem.boot_len (pa_cons (pv 4) pa_nil)) (pe_callB (id := "len") (lenS (K := K)) (by rfl) T.z_len PySem.boot_len (pa_cons (pv 3) pa_nil)) (nomark _))
      (pss_one (ps_ret (pe_call (ok_is_stop (K := K) T) (hr.mono (by decide)) rfl T.g_is_stop T.f_is_stop.kp B2 B2v pass0 (pa_cons (pv 2) (pa_cons (pv 4) pa_nil)))))
      pss_nil)
      (pss_one (ps_ret (pe_call (ok_is_return (K := K) T) (hr.mono (by decide)) rfl T.g_is_return T.f_is_return.kp B3 B3v pass0 (pa_cons (pv 2) (pa_cons (pv 3) (pa_cons (pv 4) pa_nil))))))))), ?_⟩
    have l0 := (List.getElem?_eq_some_iff.mp h0).1
    have lww : (ws ++ ws.take 1).length = ws.length + 1 := by rw [List.length_append, List.length_take]; omega
    refine ⟨_, rfl, W, k, ws, rfl, hW, l30, fun W' H1 s1 hW1 => ?_⟩
    have h0' : (ws ++ ws.take 1)[0]? = some w0 := by rw [List.getElem?_append_left l0]; exact h0
    refine ⟨_, rfl, _, rfl, W', k, ws ++ ws.take 1, w0, n, rfl, hW1, h0', n0, k0, by omega, by omega, fun R ps rs H2 s2 hR pr RS => ?_⟩
    have hW2 := hW1.same s2
    obtain ⟨R1, qs, rs1, RS1, hA, pa, ans⟩ := RA.same (s1.trans s2)
    have eq := RunsS.uniq RS1 RS
    subst eq
    have lp := pr.1
    have lrs := RS.len
    obtain ⟨pw, hT, lw, aw⟩ := id hW2
    have hRT := SqT.of (K := K) hR
    walk_at "f"
    show (if _ = true then _ else _)
    rcases ans with ⟨lt, hT0⟩ | ⟨le, A, B, a, b, hT0, hrl, rA, rB⟩
    · rw [if_pos (decide_eq_true (by omega))]
      exact ⟨_, rfl, _, rfl, T0, R1, R, qs, ps, _, rfl, hT0, hA, pa, hR, pr, by omega, fun H3 s3 => kk H3 ((s1.trans s2).trans s3)⟩
    · rw [if_neg (fun z => by have := of_decide_eq_true z; omega)]
      exact ⟨_, rfl, _, rfl, _, rfl, T0, R1, R, A, B, W', 4 * k + 36, ws ++ ws.take 1, qs, ps, _, a, b, rfl, hT0, hA, pa, hR, pr, hW2.mono (by omega), le, by omega, by omega, by omega, hrl, rA, rB, fun H3 s3 => kk H3 ((s1.trans s2).trans s3)⟩
theorem ok_end_rows {P : Program} {w : World} {K : PySem.W.Frag} {mg : Str → Option Value} {base : Heap} {φ : Fds} (T : Txt K mg φ) : FnOk P w K mg base CX0 14 (He.fAd K ("end_rows", none)) φ.end_rows p_end_rows (sp_endrows K (He.ga K "Measure") (He.ga K "Ladder")) := by
  obtain ⟨_, B0v, B0⟩ := b_round_from_2 T
  refine T.f_end_rows.ok sc_end_rows (fun vs H Q E h => ?_) (fun cdv A outer s H vs Q E hr h => ?_)
  · obtain ⟨W, k, ws, w0, n, rfl, hW, h0, n0, k0, k1, l30, kk⟩ := h; rfl
  · obtain ⟨W, k, ws, w0, n, rfl, hW, h0, n0, k0, k1, l30, kk⟩ := h
    refine ⟨_, PSs.nox (pss_cons (ps_set (i := 2) sc_end_rows.nd rfl (Or.inl rfl) (pe_call (ok_round_from (K := K) T) (hr.mono (by decide)) rfl T.g_round_from T.f_round_from.kp B0 B0v pass0 (pa_cons (pv 0) (pa_cons (pv 1) pa_nil))))
      (pss_cons (ps_if (pt_cmpR op_eq (pe_ix (ixt (K := K)) (pv 2) pe_int (fun _ _ => rfl)) pe_str (nomark _))
      (pss_one (ps_ret (pe_lst pa_nil)))
      pss_nil)
      (pss_one (ps_ret (pe_lst (pa_cons (pe_ix (ixt (K := K)) (pv 2) pe_int (fun _ _ => rfl)) (pa_cons (pe_ix (ixt (K := K)) (pv 2) pe_int (fun _ _ => rfl)) pa_nil))))))), ?_⟩
    refine ⟨_, rfl, _, rfl, W, k, ws, w0, n, rfl, hW, h0, n0, k0, k1, l30, fun T H1 s1 R => ?_⟩
    obtain ⟨R0, ps, rs, RS, hR, pr, ans⟩ := R
    rcases ans with ⟨lt, hT0⟩ | ⟨le, A, B, a, b, hT0, hrl, rA, rB⟩
    · have sT := SqT.of (K := K) hT0
      walk_at "f"
      intro D nD
      exact kk D [] _ (nonS s1 nD) (s1.trans (same1 nD)) upd_same ⟨rs, RS, .inl ⟨lt, rfl⟩⟩
    · have sT := SqT.of (K := K) hT0
      walk_at "f"
      intro D nD
      exact kk D _ _ (nonS s1 nD) (s1.trans (same1 nD)) upd_same ⟨rs, RS, .inr ⟨le, A, B, a, b, rfl, hrl, rA.same (same1 nD), rB.same (same1 nD)⟩⟩
theorem ok_drift_of {P : Program} {w : World} {K : PySem.W.Frag} {mg : Str → Option Value} {base : Heap} {φ : Fds} (T : Txt K mg φ) : FnOk P w K mg base CX0 1 (He.fAd K ("drift_of", none)) φ.drift_of p_drift_of (sp_driftof (He.ga K "Measure")) := by
  refine T.f_drift_of.ok sc_drift_of (fun vs H Q E h => ?_) (fun cdv A outer s H vs Q E hr h => ?_)
  · obtain ⟨T0, k, ws, rs, n, last, rfl, hRow, h0, l40, kk⟩ := h; rfl
  · obtain ⟨T0, k, ws, rs, n, last, rfl, hRow, h0, l40, kk⟩ := h
    refine ⟨_, PSs.nox (pss_cons (ps_asg (pv 0) (pg_tup rfl (pgs_cons (pg_name (i := 1) sc_drift_of.nd rfl (Or.inl rfl)) (pgs_cons (pg_name (i := 2) sc_drift_of.nd rfl (Or.inl rfl)) pgs_nil))))
      (pss_one (ps_ret (pe_callB (id := "abs") call_abs (by rfl) T.z_abs (by decide +kernel) (pa_cons (pe_op op_sub (pe_ix (ixt (K := K)) (pv 1) (pe_un un_neg pe_int) (fun _ _ => rfl)) (pe_ix (ixt (K := K)) (pv 1) pe_int (fun _ _ => rfl))) pa_nil))))), ?_⟩
    obtain ⟨S, M, ks, ms, hT0, hS, hM, Z, lm, al⟩ := hRow
    have sT := SqT.of (K := K) hT0
    have sS := SqT.of (K := K) hS
    have zl := Z.len
    have zp := Z.pos
    obtain ⟨k0, hk0⟩ : ∃ c, ks[0]? = some c := ⟨_, List.getElem?_eq_getElem zp⟩
    have q := Z.inr 0 k0 n n hk0 h0
    have e0 : k0 = n := by omega
    subst e0
    have lmm : (ks.map fun k : Nat => V.int k).length = ks.length := List.length_map ..
    have i0 : atI (ks.map fun k : Nat => V.int k) 0 = some (V.int (k0 : Int)) := atI_nat (j := 0) (by rw [List.getElem?_map, hk0]; rfl)
    have i1 : atI (ks.map fun k : Nat => V.int k) (-1) = some (V.int (last : Int)) := atI_end (n := ks.length - 1) (by omega) (by rw [List.getElem?_map, Z.last]; rfl)
    walk_at "f"
    have ez : (if (last : Int) - (k0 : Int) < 0 then -((last : Int) - (k0 : Int)) else (last : Int) - (k0 : Int)) = drI last k0 := by
      show _ = (((last : Int) - (k0 : Int)).natAbs : Int)
      split <;> omega
    rw [ez]
    exact kk _ (Same.refl _)
theorem ok_most_drift {P : Program} {w : World} {K : PySem.W.Frag} {mg : Str → Option Value} {base : Heap} {φ : Fds} (T : Txt K mg φ) : FnOk P w K mg base CX0 15 (He.fAd K ("most_drift", none)) φ.most_drift p_most_drift (sp_mostdrift K (He.ga K "Measure") (He.ga K "Ladder")) := by
  obtain ⟨_, B0v, B0⟩ := b_Ladder_len_1 T
  obtain ⟨_, B1v, B1⟩ := b_end_rows_2 T
  obtain ⟨_, B2v, B2⟩ := b_drift_of_1 T
  refine T.f_most_drift.ok sc_most_drift (fun vs H Q E h => ?_) (fun cdv A outer s H vs Q E hr h => ?_)
  · obtain ⟨W, k, ws, w0, rfl, hW, h0, k0, k1, l30, kk⟩ := h; rfl
  · obtain ⟨W, k, ws, w0, rfl, hW, h0, k0, k1, l30, kk⟩ := h
    refine ⟨_, PSs.nox (pss_cons (ps_setLc2 (i := 1) (own := [("number", 3), ("row", 4)]) (g := gName 3) (g1 := gName 4) (vs1 := [4]) rfl sc_most_drift.nd rfl rfl (sw_true rfl rfl rfl (by decide +kernel)) (pi_range1 rfl T.z_range (pa_cons (pe_callB (id := "len") (call_lenO (ok_Ladder_len (K := K) T) T.me_Ladder_len (bnil B0v B0) pass0 (hr.mono (by decide))) (by rfl) T.z_len PySem.boot_len (pa_cons (pe_ix (ixt (K := K)) (pv 0) pe_int (fun _ _ => rfl)) pa_nil)) pa_nil)) (blkOk_by (own := [("number", 3), ("row", 4)]) (N := N_most_drift) (sc := (defScope s_most_drift)) (by decide +kernel)) (by decide) (fun _ _ _ _ _ => (pg_name (i := 3) sc_most_drift.nd rfl (Or.inl rfl))) (fun _ _ _ _ _ => pts_nil) (fun _ _ _ _ _ => (pi_listK (K := K) (pe_call (ok_end_rows (K := K) T) (hr.mono (by decide)) rfl T.g_end_rows T.f_end_rows.kp B1 B1v pass0 (pa_cons (pv 0) (pa_cons (pv 3) pa_nil))))) (fun _ _ _ _ _ => (pg_name (i := 4) sc_most_drift.nd rfl (Or.inl rfl))) (fun _ _ _ _ _ => pts_nil) (fun _ _ _ _ _ => (pv 4)))
      (pss_cons (ps_if (pt_cmpR op_eq (pe_callB (id := "len") (lenS (K := K)) (by rfl) T.z_len PySem.boot_len (pa_cons (pv 1) pa_nil)) pe_int (nomark _))
      (pss_one (ps_ret pe_non))
      pss_nil)
      (pss_cons (ps_set (i := 2) sc_most_drift.nd rfl (Or.inl rfl) (pe_maxKey rfl (by rfl) T.z_max (ok_drift_of (K := K) T) (hr.mono (by decide)) rfl rfl T.g_drift_of (bnil B2v B2) (pa_cons (pv 1) pa_nil) (by decide +kernel)))
      (pss_one (ps_ret (pe_tup (pa_cons (pe_call (ok_drift_of (K := K) T) (hr.mono (by decide)) rfl T.g_drift_of T.f_drift_of.kp B2 B2v pass0 (pa_cons (pv 2) pa_nil)) (pa_cons (pv 2) pa_nil)))))))), ?_⟩
    have cl_Ladder := T.cl_Ladder
    have na_Ladder_marks := T.na_Ladder_marks
    have na_Ladder_rule := T.na_Ladder_rule
    have na_Ladder_least := T.na_Ladder_least
    have na_Ladder_most := T.na_Ladder_most
    
    obtain ⟨pw, hT, lw, aw⟩ := id hW
    obtain ⟨p0, e0, A0⟩ := aw 0 w0 h0
    have i0 : atI pw 0 = some (V.ref p0) := atI_nat (j := 0) e0
    have l24 := A0.len1
    obtain ⟨⟨dx, T', mps, lo', hi', hp, _⟩, _⟩ := id A0
    walk_at "f"
    all_goals (try refine ⟨w0.zs, w0.r, w0.lo, w0.hi, rfl, A0, w0.zs.length, rfl, by omega, ?_⟩)
    walk_at "f"
    intro D nD
    refine lc2v (n := w0.zs.length) (m := 2) walk_range (fun _ _ _ _ => trivial) (fun i => RowsP (He.ga K "Measure") (4 * k + 36) (ws ++ ws.take 1) i) (fun i j => RowsI (He.ga K "Measure") (4 * k + 36) (ws ++ ws.take 1) i j) (fun i H H' acc a n => a.nl n) (fun i j H H' acc a n => a.nl n) (szs (by omega)) trivial nD ⟨fun v hv => by simp at hv, fun n hn => by omega⟩ (fun i x H3 H4 acc NX hi s3 hacc hP yy hskip hin => ?_) (fun H3 acc s3 hD3 lacc hP => ?_)
    · obtain ⟨rfl, rfl⟩ := yy
      refine ⟨rfl, yesT ?_⟩
      refine ⟨_, rfl, _, rfl, W, k, ws, w0, i, by show [V.ref W, V.int (0 + (i : Int))] = _; rw [Int.zero_add], hW.same s3, h0, hi, k0, k1, l30, fun L tl H5 nL s5 hL R => ?_⟩
      have nLD : L ≠ D := fun e => by
        subst e
        rw [hacc] at nL
        cases nL
      have hacc5 := s5 _ _ hacc
      have n5 : ∀ {H6 : Hp}, Kp D H5 H6 → Nl H5 H6 := fun {H6} k6 c o e no => k6 c o e (fun ec => by
        subst ec
        rw [hacc5] at e
        cases e
        cases no)
      refine ⟨_, rfl, ⟨_, SqL.of hL⟩, ?_⟩
      obtain ⟨rs, RS, an⟩ := R
      rcases an with ⟨lt, rfl⟩ | ⟨le, A, B, a, b, rfl, hrl, rA, rB⟩
      · refine hin _ _ _ (fun H => SqL K H L []) _ 0 (by omega) s5 (hP.start (Nl.of s5)) (walk_list (xs := [])) (fun H6 k6 => k6.seq nLD (SqL.of hL)) (fun j y H6 H7 acc2 N2 M2 hj => absurd hj (Nat.not_lt_zero _)) (fun H6 acc2 k6 pin => ⟨pin.1, fun n hn lo => ?_⟩)
        by_cases e : n = i
        · subst e
          intro a' b' rs' R' l' e'
          cases RunsS.uniq R' RS
          omega
        · exact pin.2.1 n (by omega) lo
      · refine hin _ _ _ (fun H => SqL K H L [.ref A, .ref B]) _ 2 (Nat.le_refl _) s5 (hP.start (Nl.of s5)) (walk_list (xs := [.ref A, .ref B])) (fun H6 k6 => k6.seq nLD (SqL.of hL)) (fun j y H6 H7 acc2 N2 M2 hj k6 h6 pin y5 hy2 hno => ?_) (fun H6 acc2 k6 pin => ⟨pin.1, fun n hn lo => ?_⟩)
        · obtain ⟨rfl, hx2⟩ := y5
          refine ⟨rfl, yesT ⟨_, rfl, hy2 _ _ (Same.refl _) ?_⟩⟩
          rcases j with _ | _ | j
          · have ey : V.ref A = y := by simpa using hx2
            subst ey
            exact pin.snoc RS le hrl (rA.nl (n5 k6)) (.inl ⟨rfl, rfl⟩)
          · have ey : V.ref B = y := by simpa using hx2
            subst ey
            exact pin.snoc RS le hrl (rB.nl (n5 k6)) (.inr ⟨rfl, rfl⟩)
          · omega
        · by_cases e : n = i
          · subst e
            cases lo
            · exact pin.2.2.2 (Nat.le_refl _)
            · exact pin.2.2.1 (by omega)
          · exact pin.2.1 n (by omega) lo
    have hDs := SqL.of (K := K) hD3
    walk_at "f"
    by_cases ne : acc = []
    · subst ne
      refine iteDT rfl ?_
      refine kk _ _ s3 (.inl ⟨rfl, fun n rs hn R l => ?_⟩)
      have l0 := (List.getElem?_eq_some_iff.mp R.first).1
      obtain ⟨⟨a, b⟩, e⟩ : ∃ r, rs[rs.length - 1]? = some r := ⟨_, List.getElem?_eq_getElem (by omega)⟩
      obtain ⟨v, hv, _⟩ := hP.2 n hn true a b rs R l e
      simp at hv
    have la := List.length_pos_iff.mpr ne
    have lww : (ws ++ ws.take 1).length ≤ 40 := by
      rw [List.length_append, List.length_take]
      omega
    obtain ⟨kf, hkf⟩ := pick_fun hP.1
    refine iteDF (fun e => by have e := V.int.inj e; omega) ?_
    refine ⟨_, rfl, ?_⟩
    refine ⟨D, acc, kf, rfl, hDs, la, fun x hx H1 Q1 s1 hq => ?_, fun x H4 hx best s4 => ?_⟩
    · obtain ⟨A, n, last, a, b, rs, rfl, hn, R, l, e, ho, rA, ez⟩ := hkf x hx
      exact ⟨A, 4 * k + 36, ws ++ ws.take 1, rs, n, last, rfl, rA.same s1, R.first, lww, fun H2 s2 => by rw [← ez]; exact hq H2 s2⟩
    · have rE := hkf x hx
      obtain ⟨A, n, last, a, b, rs, rfl, hn, R, l, e, ho, rA, ez⟩ := id rE
      walk_at "f"
      all_goals (try refine ⟨ws ++ ws.take 1, rs, n, last, rfl, rA.same s4, R.first, lww, fun H5 s5 => ?_⟩)
      rw [← ez]
      walk_at "f"
      intro T nT
      have s6 := s4.trans (s5.trans (same1 (u := .tup [V.int (kf (.ref A)), V.ref A]) nT))
      refine kk _ _ (s3.trans s6) (.inr ⟨T, .ref A, kf (.ref A), rfl, upd_same, rE.nl (Nl.of s6) (Nat.le_refl _), fun n' a' b' rs' hn' R' l' e' => ⟨?_, ?_⟩⟩)
      · obtain ⟨v, hv, r⟩ := hP.2 n' hn' true a' b' rs' R' l' e'
        have := best v hv
        rw [RowE.uniq (hkf v hv) r] at this
        exact this
      · obtain ⟨v, hv, r⟩ := hP.2 n' hn' false a' b' rs' R' l' e'
        have := best v hv
        rw [RowE.uniq (hkf v hv) r] at this
        exact this
theorem ok_l_begin {P : Program} {w : World} {K : PySem.W.Frag} {mg : Str → Option Value} {base : Heap} {φ : Fds} (T : Txt K mg φ) : FnOk P w K mg base CX0 1 (He.fAd K ("_law_begin", none)) φ.l_begin p_l_begin (sp_begin K) := by
  refine T.f_l_begin.ok sc_l_begin (fun vs H Q E h => ?_) (fun cdv A outer s H vs Q E hr h => ?_)
  · obtain ⟨a, ns, rfl, hS, hn, kk⟩ := h; rfl
  · obtain ⟨a, ns, rfl, hS, hn, kk⟩ := h
    refine ⟨_, PSs.nox (pss_cons (ps_par (i := 1) (j := 2) rfl sc_l_begin.nd rfl rfl (by decide) rfl rfl (pa_cons pe_int (pa_cons (pe_lst pa_nil) pa_nil)) (by rfl))
      (pss_cons (ps_for PassesOwn.never rfl (pi_enum (by rfl) T.z_enumerate (pa_cons (pe_slice (slL (K := K)) (pv 0) po_none (po_some pe_int)) pa_nil)) (pg_tup rfl (pgs_cons (pg_name (i := 3) sc_l_begin.nd rfl (Or.inl rfl)) (pgs_cons (pg_name (i := 4) sc_l_begin.nd rfl (Or.inl rfl)) pgs_nil)))
      (pss_cons (ps_set (i := 1) sc_l_begin.nd rfl (Or.inl rfl) (pe_op op_mod (pe_op op_add (pe_op op_add (pe_op op_add (pe_op op_mulA (pv 1) pe_int) (pe_op op_mod (pv 4) (pe_op op_pow pe_int pe_int))) (pe_op op_mulA pe_int (pv 3))) pe_int) pe_int))
      (pss_one (ps_if (pt_cmpR op_ge (pv 4) (pe_op op_pow pe_int pe_int) (nomark _))
      (pss_one (ps_expr (pe_bm PySem.F.plainAttrs_list PySem.F.slot_list_append PySem.F.type_list_append mt_append (pv 2) (pa_cons (pv 4) pa_nil))))
      pss_nil))))
      (pss_one (ps_ret (pe_lst (pa_cons (pv 2) (pa_cons (pv 1) (pa_cons pe_int pa_nil)))))))), ?_⟩
    walk_at "w"
    intro G nG
    have sG := same1 (u := .lst []) nG
    have hG : (upd H G (.lst [])) G = some (.lst []) := upd_same
    have nlG : ∀ b, H b = none → b ≠ G → (upd H G (.lst [])) b = none := fun b e n => by rw [upd_ne n]; exact e
    generalize upd H G (.lst []) = H1 at *
    refine ⟨_, _, rfl, ?_⟩
    walk_at "w"
    all_goals (try exact (ns.map V.int : List V))
    refine ⟨sG.seq hS, ?_⟩
    intro L3 nL3
    have ec : cutV (ns.map V.int) none (some 63) = ns.map V.int := (cutV_take (ns.map V.int) (n := 63) rfl).trans (List.take_of_length_le (by rw [List.length_map]; exact hn))
    rw [ec]
    have s3 := sG.trans (same1 (u := .lst (ns.map V.int)) nL3)
    have hG3 := up1 (u := .lst (ns.map V.int)) nL3 hG
    have hL3 : (upd H1 L3 (.lst (ns.map V.int))) L3 = some (.lst (ns.map V.int)) := upd_same
    have neL : L3 ≠ G := fun q => by rw [q, hG] at nL3; cases nL3
    generalize upd H1 L3 (.lst (ns.map V.int)) = H3 at *
    walk_at "w"
    refine for_it walk_enum (fun i σ H' => ∃ (sd : Int) (gs : List Int), (∃ v1 v2, σ = [some (.ref a), some (.int sd), some (.ref G), v1, v2]) ∧ 0 ≤ sd ∧ sd < 2305843009213693951 ∧ (∀ c o, H3 c = some o → c ≠ G → H' c = some o) ∧ H' G = some (.lst (gs.map V.int)) ∧ (∀ z ∈ gs, 0 ≤ z) ∧ gs.length ≤ i) ⟨271828183, [], ⟨_, _, rfl⟩, by decide, by decide, fun c o e _ => e, hG3, fun _ h => (nomatch h), Nat.le_refl _⟩ (fun i σ H' _ q => by obtain ⟨_, _, _, _, _, k, _⟩ := q; exact SqL.of (K := K) (k _ _ hL3 neL)) ?_ ?_
    · rintro i x σ H4 H5 hi ⟨sd, gs, ⟨v1, v2, rfl⟩, b0, b1, k, hg, g0, g1⟩ hY
      obtain ⟨T, y1, y2, rfl, nT, rfl, e1, e2⟩ := hY
      cases e1
      obtain ⟨c, rfl⟩ : ∃ c : Int, y2 = V.int c := by
        replace e2 : (ns.map V.int)[i]? = some y2 := e2
        rw [List.getElem?_map] at e2
        cases e3 : ns[i]? with
        | none => rw [e3] at e2; cases e2
        | some c => rw [e3] at e2; cases e2; exact ⟨c, rfl⟩
      rw [List.length_map] at hi
      have hT : (upd H4 T (.tup [V.int (i : Int), V.int c])) T = some (.tup [V.int (i : Int), V.int c]) := upd_same
      have hg4 := up1 (u := .tup [V.int (i : Int), V.int c]) nT hg
      have k4 : ∀ b o, H3 b = some o → b ≠ G → (upd H4 T (.tup [V.int (i : Int), V.int c])) b = some o := fun b o e n => up1 nT (k b o e n)
      generalize upd H4 T (.tup [V.int (i : Int), V.int c]) = H5 at *
      walk_at "w"
      refine ⟨cp10, ?_⟩
      walk_at "w"
      refine ⟨p40, ?_⟩
      walk_at "w"
      refine ⟨cp18, ?_⟩
      walk_at "w"
      have q0 := Int.emod_nonneg (sd * 1000003 + c % 10 ^ (Int.toNat 40) + 7919 * (i : Int) + 1) (b := 2305843009213693951) (by decide)
      have q1 := Int.emod_lt_of_pos (sd * 1000003 + c % 10 ^ (Int.toNat 40) + 7919 * (i : Int) + 1) (b := 2305843009213693951) (by decide)
      show (if _ = true then _ else _)
      split
      · rename_i hc
        have c0 : 0 ≤ c := Int.le_trans (by decide : (0 : Int) ≤ 10 ^ (Int.toNat 18)) (of_decide_eq_true hc)
        have lg : (gs.map V.int).length < 1000 := by rw [List.length_map]; omega
        walk_at "w"
        refine ⟨gs ++ [c], ⟨_, _, rfl⟩, q0, q1, fun b o e n => by rw [upd_ne n]; exact k4 b o e n, by rw [upd_same]; simp, fun z hz => ?_, by rw [List.length_append, List.length_singleton]; omega⟩
        rcases List.mem_append.mp hz with hz | hz
        · exact g0 z hz
        · rw [List.mem_singleton.mp hz]; exact c0
      · exact ⟨_, gs, ⟨_, _, rfl⟩, q0, q1, k4, hg4, g0, by omega⟩
    · rintro σ H4 ⟨sd, gs, ⟨v1, v2, rfl⟩, b0, b1, k, hg, g0, g1⟩
      walk_at "w"
      intro p np
      have sA : Same H H4 := fun b o e => k b o (s3 b o e) fun q => by rw [q, nG] at e; cases e
      refine kk p G _ (sA.trans (same1 np)) ?_ nG ⟨⟨sd, 0, upd_same, b0, b1, by decide, by decide⟩, ⟨gs, up1 np hg, g0, by rw [List.length_map] at g1; omega⟩, fun q => by rw [← q, hg] at np; cases np⟩
      cases eH : H p with
      | none => rfl
      | some o => exact absurd (sA _ _ eH) (by rw [np]; intro q; cases q)
theorem ok_l_pick {P : Program} {w : World} {K : PySem.W.Frag} {mg : Str → Option Value} {base : Heap} {φ : Fds} (T : Txt K mg φ) : FnOk P w K mg base CX0 1 (He.fAd K ("_law_pick", none)) φ.l_pick p_l_pick sp_pick27 := by
  refine T.f_l_pick.ok sc_l_pick (fun vs H Q E h => ?_) (fun cdv A outer s H vs Q E hr h => ?_)
  · obtain ⟨h, g, n, m, rfl, pt, hn, hm, hl, kk⟩ := h; rfl
  · obtain ⟨h, g, n, m, rfl, pt, hn, hm, hl, kk⟩ := h
    refine ⟨_, PSs.nox (pss_cons (ps_while PassesOwn.never (PW.pt (pw_and (pt_cmpR (op_neL0 (Nat.lt_of_le_of_lt (Nat.le_add_right _ 64) hr.units)) (pe_ix (ixl (K := K)) (pv 0) pe_int (fun _ _ => rfl)) (pe_lst pa_nil) (nomark _)) (pw_and1 (pt_cmpR op_eq (pe_ix (ixl (K := K)) (pe_ix (ixl (K := K)) (pv 0) pe_int (fun _ _ => rfl)) pe_int (fun _ _ => rfl)) pe_int (nomark _)))))
      (pss_one (ps_expr (pe_bm PySem.F.plainAttrs_list PySem.F.slot_list_pop PySem.F.type_list_pop mt_popAt (pe_ix (ixl (K := K)) (pv 0) pe_int (fun _ _ => rfl)) (pa_cons pe_int pa_nil)))))
      (pss_cons (ps_if (pt_cmpR (op_neL0 (Nat.lt_of_le_of_lt (Nat.le_add_right _ 64) hr.units)) (pe_ix (ixl (K := K)) (pv 0) pe_int (fun _ _ => rfl)) (pe_lst pa_nil) (nomark _))
      (pss_cons (ps_set (i := 2) sc_l_pick.nd rfl (Or.inl rfl) (pe_op op_mod (pe_ix (ixl (K := K)) (pe_ix (ixl (K := K)) (pv 0) pe_int (fun _ _ => rfl)) pe_int (fun _ _ => rfl)) (pv 1)))
      (pss_cons (ps_asg (pe_op op_fd (pe_ix (ixl (K := K)) (pe_ix (ixl (K := K)) (pv 0) pe_int (fun _ _ => rfl)) pe_int (fun _ _ => rfl)) (pv 1)) (pg_sub (pe_ix (ixl (K := K)) (pv 0) pe_int (fun _ _ => rfl)) pe_int set_list))
      (pss_one (ps_ret (pv 2)))))
      pss_nil)
      (pss_cons (ps_set (i := 3) sc_l_pick.nd rfl (Or.inl rfl) (pe_op op_add (pe_ix (ixl (K := K)) (pv 0) pe_int (fun _ _ => rfl)) pe_int))
      (pss_cons (ps_asg (pv 3) (pg_sub (pv 0) pe_int set_list))
      (pss_cons (ps_set (i := 4) sc_l_pick.nd rfl (Or.inl rfl) (pe_op op_mod (pe_op op_add (pe_op op_add (pe_ix (ixl (K := K)) (pv 0) pe_int (fun _ _ => rfl)) (pe_op op_mulA (pe_op op_mulA (pe_op op_mulA pe_int (pv 3)) (pv 3)) (pv 3))) (pe_op op_mulA pe_int (pv 3))) pe_int))
      (pss_one (ps_ret (pe_op op_mod (pe_op op_add (pe_op op_fd (pe_op op_mod (pe_op op_mulA (pv 4) (pv 4)) pe_int) pe_int) (pe_op op_fd (pv 4) pe_int)) (pv 1))))))))), ?_⟩
    obtain ⟨⟨s, t, hh, s0, s1, t0, t1⟩, ⟨gs, hg, g0, g1⟩, ne⟩ := id pt
    refine ⟨fun l σ H' => ∃ gs', σ = [some (.ref h), some (.int m), none, none, none] ∧ H' h = some (.lst [.ref g, .int s, .int t]) ∧ H' g = some (.lst (gs'.map V.int)) ∧ (∀ z ∈ gs', 0 ≤ z) ∧ gs'.length ≤ 63 ∧ Kp2 h g H H' ∧ l = gs'.length, ⟨_, gs, rfl, hh, hg, g0, g1, Kp2.refl H, rfl⟩, ?_⟩
    rintro l σ H' ⟨gs', rfl, hh1, hg1, p0, p1, k1, rfl⟩
    cases gs' with
    | nil =>
      walk_at "w"
      intro p2 np2
      have k2 := k1.up (u := .lst []) np2
      have n2 : p2 ≠ h ∧ p2 ≠ g := ⟨fun q => (by rw [q, hh1] at np2; cases np2), fun q => (by rw [q, hg1] at np2; cases np2)⟩
      have hh2 := up1 (u := .lst []) np2 hh1
      have hg2 := up1 (u := .lst []) np2 hg1
      have hp2 : (upd H' p2 (.lst [])) p2 = some (.lst []) := upd_same
      generalize upd H' p2 (.lst []) = H2 at *
      refine ⟨_, _, _, rfl, rfl, SqL.of hg2, SqL.of hp2, ?_⟩
      walk_at "w"
      intro p3 np3
      have k3 := k2.up (u := .lst []) np3
      have n3 : p3 ≠ h ∧ p3 ≠ g := ⟨fun q => (by rw [q, hh2] at np3; cases np3), fun q => (by rw [q, hg2] at np3; cases np3)⟩
      have hh3 := up1 (u := .lst []) np3 hh2
      have hg3 := up1 (u := .lst []) np3 hg2
      have hp3 : (upd H2 p3 (.lst [])) p3 = some (.lst []) := upd_same
      generalize upd H2 p3 (.lst []) = H3 at *
      refine ⟨_, _, _, rfl, rfl, SqL.of hg3, SqL.of hp3, ?_⟩
      walk_at "w"
      all_goals (try refine ⟨SqL.of upd_same, atI_of (n := 1) rfl rfl, ?_⟩)
      walk_at "w"
      refine ⟨⟨by decide, by decide⟩, ?_⟩
      walk_at "w"
      refine ⟨⟨by decide, by decide⟩, ?_⟩
      walk_at "w"
      refine kk _ _ (Int.emod_nonneg _ (by omega)) (Int.emod_lt_of_pos _ hm) ⟨⟨s, t + 1, upd_same, s0, s1, by omega, by omega⟩, ⟨[], (by rw [upd_ne ne]; exact hg3), fun _ h => (nomatch h), (by decide)⟩, ne⟩ k3.puth
    | cons z zs =>
      walk_at "w"
      intro p2 np2
      have k2 := k1.up (u := .lst []) np2
      have hh2 := up1 (u := .lst []) np2 hh1
      have hg2 := up1 (u := .lst []) np2 hg1
      have hp2 : (upd H' p2 (.lst [])) p2 = some (.lst []) := upd_same
      generalize upd H' p2 (.lst []) = H2 at *
      refine ⟨_, _, _, rfl, rfl, SqL.of hg2, SqL.of hp2, ?_⟩
      walk_at "w"
      all_goals (try refine ⟨atI_of (n := 0) rfl rfl, ?_⟩)
      walk_at "w"
      show (if _ = true then _ else _)
      by_cases z0 : z = 0
      · subst z0
        rw [if_pos (by simp)]
        refine ⟨fun σ2 Hx => ∃ gs' : List Int, σ2 = [some (.ref h), some (.int m), none, none, none] ∧ Hx h = some (.lst [.ref g, .int s, .int t]) ∧ Hx g = some (.lst (gs'.map V.int)) ∧ (∀ z ∈ gs', 0 ≤ z) ∧ gs'.length ≤ 63 ∧ Kp2 h g H Hx ∧ zs.length = gs'.length, fun σ2 Hx q => ⟨zs.length, Nat.lt_succ_self _, q⟩, ?_⟩
        walk_at "w"
        refine ⟨(by simp [seqIndex?] : seqIndex? 0 ((0 :: zs).map V.int).length = some 0), rfl, ?_⟩
        exact ⟨zs, rfl, (by rw [upd_ne (Ne.symm ne)]; exact hh2), upd_same, fun z hz => p0 z (List.mem_cons_of_mem _ hz), by simp at p1; omega, k2.putg, rfl⟩
      · rw [if_neg (by simp [z0])]
        walk_at "w"
        intro p3 np3
        have k3 := k2.up (u := .lst []) np3
        have hh3 := up1 (u := .lst []) np3 hh2
        have hg3 := up1 (u := .lst []) np3 hg2
        have hp3 : (upd H2 p3 (.lst [])) p3 = some (.lst []) := upd_same
        generalize upd H2 p3 (.lst []) = H3 at *
        refine ⟨_, _, _, rfl, rfl, SqL.of hg3, SqL.of hp3, ?_⟩
        walk_at "w"
        refine ⟨atI_of (n := 0) rfl rfl, ?_⟩
        walk_at "w"
        all_goals (try refine ⟨atI_of (n := 0) rfl rfl, ?_⟩)
        walk_at "w"
        refine ⟨(by simp [ixN] : ixN ((z :: zs).map V.int).length 0 = some 0), ?_⟩
        show tRet (tVar 2) _ _ _
        walk_at "w"
        refine kk _ _ (Int.emod_nonneg _ (by omega)) (Int.emod_lt_of_pos _ hm) ⟨⟨s, t, (by rw [upd_ne (Ne.symm ne)]; exact hh3), s0, s1, t0, by omega⟩, ⟨z.fdiv m :: zs, upd_same, ?_, p1⟩, ne⟩ k3.putg
        intro y hy
        rcases List.mem_cons.mp hy with rfl | hy
        · exact Int.fdiv_nonneg (p0 z (List.mem_cons_self ..)) (by omega)
        · exact p0 y (List.mem_cons_of_mem _ hy)
theorem ok_l_of {P : Program} {w : World} {K : PySem.W.Frag} {mg : Str → Option Value} {base : Heap} {φ : Fds} (T : Txt K mg φ) : FnOk P w K mg base CX0 2 (He.fAd K ("_law_of", none)) φ.l_of p_l_of (sp_of27 K) := by
  obtain ⟨_, B0v, B0⟩ := b_l_pick_2 T
  refine T.f_l_of.ok sc_l_of (fun vs H Q E h => ?_) (fun cdv A outer s H vs Q E hr h => ?_)
  · obtain ⟨h, g, l, n, xs, rfl, pt, hn, hl, ne, ne2, l0, l1, k⟩ := h; rfl
  · obtain ⟨h, g, l, n, xs, rfl, pt, hn, hl, ne, ne2, l0, l1, k⟩ := h
    refine ⟨_, PSs.nox (pss_one (ps_ret (pe_ix (ixl (K := K)) (pv 1) (pe_call (ok_l_pick (K := K) T) (hr.mono (by decide)) rfl T.g_l_pick T.f_l_pick.kp B0 B0v pass0 (pa_cons (pv 0) (pa_cons (pe_callB (id := "len") (lenS (K := K)) (by rfl) T.z_len PySem.boot_len (pa_cons (pv 1) pa_nil)) pa_nil))) (fun _ _ => rfl)))), ?_⟩
    walk_at "w"
    intro d H1 d0 d1 pt1 k1
    obtain ⟨j, rfl⟩ := Int.eq_ofNat_of_zero_le d0
    have hj : j < xs.length := by omega
    exact ⟨l, xs, _, xs[j], rfl, rfl, k1.seq ne ne2 hl, atI_nat (List.getElem?_eq_getElem hj), k j _ _ (List.getElem?_eq_getElem hj) pt1 k1⟩
theorem ok_l_parts {P : Program} {w : World} {K : PySem.W.Frag} {mg : Str → Option Value} {base : Heap} {φ : Fds} (T : Txt K mg φ) : FnOk P w K mg base CX0 1 (He.fAd K ("_law_parts", none)) φ.l_parts p_l_parts sp_parts27 := by
  refine T.f_l_parts.ok sc_l_parts (fun vs H Q E h => ?_) (fun cdv A outer s H vs Q E hr h => ?_)
  · obtain ⟨a, b, rfl, hb, lb, k⟩ := h; rfl
  · obtain ⟨a, b, rfl, hb, lb, k⟩ := h
    refine ⟨_, PSs.nox (pss_cons (ps_par (i := 2) (j := 3) rfl sc_l_parts.nd rfl rfl (by decide) rfl rfl (pa_cons (pe_callB (id := "abs") call_abs (by rfl) T.z_abs (by decide +kernel) (pa_cons (pv 0) pa_nil)) (pa_cons (pv 1) pa_nil)) (by rfl))
      (pss_cons (ps_while PassesOwn.never (pt_cmpR op_gt (pv 3) pe_int (nomark _))
      (pss_one (ps_par (i := 2) (j := 3) rfl sc_l_parts.nd rfl rfl (by decide) rfl rfl (pa_cons (pv 3) (pa_cons (pe_op op_mod (pv 2) (pv 3)) pa_nil)) (by rfl))))
      (pss_one (ps_ret (pe_tup (pa_cons (pe_op op_fd (pv 0) (pv 2)) (pa_cons (pe_op op_fd (pv 1) (pv 2)) pa_nil))))))), ?_⟩
    walk_at "w"
    have na : ((if a < 0 then -a else a : Int)) = (a.natAbs : Int) := by split <;> omega
    rw [na]
    refine while_by (fun σ H' => H' = H ∧ ∃ g s : Int, σ = [some (.int a), some (.int b), some (.int g), some (.int s)] ∧ 0 ≤ g ∧ 0 ≤ s ∧ Int.gcd g s = Int.gcd a b)
      (fun σ _ => match σ with | [_, _, _, some (.int s)] => s.toNat | _ => 0) ⟨rfl, _, _, rfl, by omega, by omega, by show Nat.gcd _ _ = Nat.gcd _ _; rw [Int.natAbs_natCast]⟩ ?_ (fun σ H Q Q' hQ ⟨v, e1, i, j, e2, e3, c, e4, q⟩ => ⟨v, e1, i, j, e2, e3, c, e4, hQ _ _ q⟩)
    rintro σ H' ⟨rfl, g, s, rfl, hg, hs, e⟩
    refine ⟨_, rfl, _, _, rfl, rfl, _, rfl, ?_⟩
    refine ite2 (fun c => ?_) (fun c => ?_)
    · have c0 : 0 < s := of_decide_eq_true c
      walk_at "w"
      refine ⟨⟨rfl, s, g % s, rfl, hs, Int.emod_nonneg _ (by omega), (gcd_step c0 hg).trans e⟩, ?_⟩
      show (g % s).toNat < s.toNat
      have h1 := Int.emod_nonneg g (show s ≠ 0 by omega)
      have h2 := Int.emod_lt_of_pos g c0
      omega
    · have c0 : ¬ 0 < s := fun z => c (decide_eq_true z)
      have s0 : s = 0 := by omega
      subst s0
      have eg : g = sgn b * (Int.gcd a b : Int) := by
        rw [← e, Int.gcd_zero_right]
        unfold sgn
        rw [if_pos hb]
        omega
      obtain ⟨g0, gl, fr⟩ := fr_mk (a := a) (b := b) (c := g) (by omega) eg
      obtain ⟨e1, e2⟩ := pr_of hb fr
      have lg : g.natAbs.log2 < 9000 := Nat.lt_of_lt_of_le (PySem.Flt.log2_lt_of (Nat.succ_pos _) (Nat.lt_of_le_of_lt gl Nat.lt_log2_self)) (by omega)
      walk_at "w"
      intro p np
      refine k p _ np (same1 np) ?_
      rw [upd_same]
      show some (HO.tup [.int (a.fdiv g), .int (b.fdiv g)]) = some (HO.tup [.int _, .int _])
      rw [e1, e2]
theorem ok_l_less {P : Program} {w : World} {K : PySem.W.Frag} {mg : Str → Option Value} {base : Heap} {φ : Fds} (T : Txt K mg φ) : FnOk P w K mg base CX0 1 (He.fAd K ("_law_less", none)) φ.l_less p_l_less sp_less27 := by
  refine T.f_l_less.ok sc_l_less (fun vs H Q E h => ?_) (fun cdv A outer s H vs Q E hr h => ?_)
  · obtain ⟨a, b, x, y, k, rfl, ha, hb, sx, sy, lk, q⟩ := h; rfl
  · obtain ⟨a, b, x, y, k, rfl, ha, hb, sx, sy, lk, q⟩ := h
    refine ⟨_, PSs.nox (pss_one (ps_ret (pe_cmpR op_lt (pe_op op_mulA (pe_ix (ixt (K := K)) (pv 0) pe_int (fun _ _ => rfl)) (pe_ix (ixt (K := K)) (pv 1) pe_int (fun _ _ => rfl))) (pe_op op_mulA (pe_ix (ixt (K := K)) (pv 1) pe_int (fun _ _ => rfl)) (pe_ix (ixt (K := K)) (pv 0) pe_int (fun _ _ => rfl))) (nomark _)))), ?_⟩
    have c1 : CMulW x.num (y.den : Int) := cmw sx.1 sy.2 lk
    have c2 : CMulW y.num (x.den : Int) := cmw sy.1 sx.2 lk
    rw [← lt_PR] at q
    walk_at "w"
    exact q
theorem ok_l_plus {P : Program} {w : World} {K : PySem.W.Frag} {mg : Str → Option Value} {base : Heap} {φ : Fds} (T : Txt K mg φ) : FnOk P w K mg base CX0 2 (He.fAd K ("_law_plus", none)) φ.l_plus p_l_plus sp_plus27 := by
  obtain ⟨_, B0v, B0⟩ := b_l_parts_2 T
  refine T.f_l_plus.ok sc_l_plus (fun vs H Q E h => ?_) (fun cdv A outer s H vs Q E hr h => ?_)
  · obtain ⟨a, b, x, y, k, rfl, ha, hb, sx, sy, k0, lk, q⟩ := h; rfl
  · obtain ⟨a, b, x, y, k, rfl, ha, hb, sx, sy, k0, lk, q⟩ := h
    refine ⟨_, PSs.nox (pss_one (ps_ret (pe_call (ok_l_parts (K := K) T) (hr.mono (by decide)) rfl T.g_l_parts T.f_l_parts.kp B0 B0v pass0 (pa_cons (pe_op op_add (pe_op op_mulA (pe_ix (ixt (K := K)) (pv 0) pe_int (fun _ _ => rfl)) (pe_ix (ixt (K := K)) (pv 1) pe_int (fun _ _ => rfl))) (pe_op op_mulA (pe_ix (ixt (K := K)) (pv 1) pe_int (fun _ _ => rfl)) (pe_ix (ixt (K := K)) (pv 0) pe_int (fun _ _ => rfl)))) (pa_cons (pe_op op_mulA (pe_ix (ixt (K := K)) (pv 0) pe_int (fun _ _ => rfl)) (pe_ix (ixt (K := K)) (pv 1) pe_int (fun _ _ => rfl))) pa_nil))))), ?_⟩
    have c1 : CMulW x.num (y.den : Int) := cmw sx.1 sy.2 lk
    have c2 : CMulW y.num (x.den : Int) := cmw sy.1 sx.2 lk
    have c3 : CMulW (x.den : Int) (y.den : Int) := cmw sx.2 sy.2 lk
    have p3 := Int.mul_pos (den0 x) (den0 y)
    have l3 : ((x.den : Int) * (y.den : Int)).natAbs.log2 < 9000 := (sx.2.mul sy.2).log (by omega) (by omega)
    walk_at "w"
    rw [add_PR]
    exact q
theorem ok_l_mid {P : Program} {w : World} {K : PySem.W.Frag} {mg : Str → Option Value} {base : Heap} {φ : Fds} (T : Txt K mg φ) : FnOk P w K mg base CX0 3 (He.fAd K ("_law_mid", none)) φ.l_mid p_l_mid sp_mid27 := by
  obtain ⟨_, B0v, B0⟩ := b_l_plus_2 T
  obtain ⟨_, B1v, B1⟩ := b_l_parts_2 T
  refine T.f_l_mid.ok sc_l_mid (fun vs H Q E h => ?_) (fun cdv A outer s H vs Q E hr h => ?_)
  · obtain ⟨a, b, x, y, k, rfl, ha, hb, sx, sy, k0, lk, q⟩ := h; rfl
  · obtain ⟨a, b, x, y, k, rfl, ha, hb, sx, sy, k0, lk, q⟩ := h
    refine ⟨_, PSs.nox (pss_cons (ps_set (i := 2) sc_l_mid.nd rfl (Or.inl rfl) (pe_call (ok_l_plus (K := K) T) (hr.mono (by decide)) rfl T.g_l_plus T.f_l_plus.kp B0 B0v pass0 (pa_cons (pv 0) (pa_cons (pv 1) pa_nil))))
      (pss_one (ps_ret (pe_call (ok_l_parts (K := K) T) (hr.mono (by decide)) rfl T.g_l_parts T.f_l_parts.kp B1 B1v pass0 (pa_cons (pe_ix (ixt (K := K)) (pv 2) pe_int (fun _ _ => rfl)) (pa_cons (pe_op op_mulA pe_int (pe_ix (ixt (K := K)) (pv 2) pe_int (fun _ _ => rfl))) pa_nil)))))), ?_⟩
    walk_at "w"
    all_goals (try refine ⟨x, y, k, rfl, ha, hb, sx, sy, k0, lk, fun p H' np s hp => ?_⟩)
    have hp' : H' p = some (.tup [.int (x + y).num, .int ((x + y).den : Int)]) := hp
    walk_at "w"
    have sz := (szr_add sx sy).2
    refine ⟨by have := den0 (x + y); omega, (Sz.mul (show Sz 2 2 by decide) sz).log (by omega) (by omega), fun p2 H2 np2 s2 hp2 => ?_⟩
    refine q p2 H2 ?_ (s.trans s2) (by rw [half_PR] at hp2; exact hp2)
    cases eH : H p2 with
    | none => rfl
    | some o => exact absurd (s _ _ eH) (by rw [np2]; intro z; cases z)
theorem ok_l_made {P : Program} {w : World} {K : PySem.W.Frag} {mg : Str → Option Value} {base : Heap} {φ : Fds} (T : Txt K mg φ) : FnOk P w K mg base CX0 5 (He.fAd K ("_law_made", none)) φ.l_made p_l_made (sp_made27 K (He.ga K "Measure") (He.ga K "Ladder")) := by
  obtain ⟨_, B0v, B0⟩ := b_Measure_init_3 T
  obtain ⟨_, B1v, B1⟩ := b_Ladder_init_5 T
  refine T.f_l_made.ok sc_l_made (fun vs H Q E h => ?_) (fun cdv A outer s H vs Q E hr h => ?_)
  · obtain ⟨p, d, k, rfl, hp, ok, sz, k0, k1, fin⟩ := h; rfl
  · obtain ⟨p, d, k, rfl, hp, ok, sz, k0, k1, fin⟩ := h
    refine ⟨_, PSs.nox (pss_cons (ps_asg (pv 0) (pg_tup rfl (pgs_cons (pg_name (i := 1) sc_l_made.nd rfl (Or.inl rfl)) (pgs_cons (pg_name (i := 2) sc_l_made.nd rfl (Or.inl rfl)) (pgs_cons (pg_name (i := 3) sc_l_made.nd rfl (Or.inl rfl)) (pgs_cons (pg_name (i := 4) sc_l_made.nd rfl (Or.inl rfl)) pgs_nil))))))
      (pss_cons (ps_setLc (i := 5) (own := [("_law_end", 6)]) (g := gName 6) rfl sc_l_made.nd rfl rfl (sw_true rfl rfl rfl (by decide +kernel)) (pi_tup (pe_tup (pa_cons (pv 3) (pa_cons (pv 4) pa_nil)))) (blkOk_by (own := [("_law_end", 6)]) (N := N_l_made) (sc := (defScope s_l_made)) (by decide +kernel)) (fun _ _ _ _ _ => (pg_name (i := 6) sc_l_made.nd rfl (Or.inl rfl))) (fun _ _ _ _ _ => pts_nil) (fun _ _ _ _ _ => (pe_ifExp (pt_cmpR op_isN (pv 6) pe_non (nomark _)) pe_non (pe_make T.mk_Measure (ok_Measure_init (K := K) T) (hr.mono (by decide)) rfl T.g_Measure B0 B0v pass0 (pa_cons (pe_ix (ixt (K := K)) (pv 6) pe_int (fun _ _ => rfl)) (pa_cons (pe_ix (ixt (K := K)) (pv 6) pe_int (fun _ _ => rfl)) pa_nil))))))
      (pss_one (ps_ret (pe_make T.mk_Ladder (ok_Ladder_init (K := K) T) (hr.mono (by decide)) rfl T.g_Ladder B1 B1v pass0 (pa_cons (pe_callTy (T := "tuple") (tupleL (K := K)) (by rfl) T.z_tuple (by decide +kernel) (pa_cons (pe_lc (own := [("_law_top", 7), ("_law_bottom", 8)]) (g := gTup K 2 (gCons (gName 7) (gCons (gName 8) (gNil)))) rfl sc_l_made.nd (pi_list (pv 1)) (blkOk_by (own := [("_law_top", 7), ("_law_bottom", 8)]) (N := N_l_made) (sc := (defScope s_l_made)) (by decide +kernel)) (fun _ _ _ _ _ => (pg_tup rfl (pgs_cons (pg_name (i := 7) sc_l_made.nd rfl (Or.inl rfl)) (pgs_cons (pg_name (i := 8) sc_l_made.nd rfl (Or.inl rfl)) pgs_nil)))) (fun _ _ _ _ _ => pts_nil) (fun _ _ _ _ _ => (pe_make T.mk_Measure (ok_Measure_init (K := K) T) (hr.mono (by decide)) rfl T.g_Measure B0 B0v pass0 (pa_cons (pv 7) (pa_cons (pv 8) pa_nil))))) pa_nil)) (pa_cons (pv 2) (pa_cons (pe_ix (ixl (K := K)) (pv 5) pe_int (fun _ _ => rfl)) (pa_cons (pe_ix (ixl (K := K)) (pv 5) pe_int (fun _ _ => rfl)) pa_nil))))))))), ?_⟩
    obtain ⟨M, u, w', vs, h1, h2, rs, h4, h5⟩ := id hp.ob
    have lv := rs.1
    have l24 := ok.len1
    walk_at "w"
    intro T nT
    have hT : (upd H T (.tup [u, w'])) T = some (.tup [u, w']) := upd_same
    have s1 := same1 (u := .tup [u, w']) nT
    generalize upd H T (.tup [u, w']) = H1 at *
    walk_at "w"
    all_goals (try refine ⟨⟨_, SqT.of hT⟩, ?_⟩)
    intro D nD
    refine lcr (n := [u, w'].length) walk_tup (fun _ _ g s => s.sqt g) (fun i H v => QO (He.ga K "Measure") H k v (if i = 0 then oR d.lo else oR d.hi)) (fun i H H' v q n => q.nl n) (szs (Nat.le_of_ble_eq_true rfl)) (SqT.of hT) nD (fun i x H3 H4 N M2 hi s3 yy hN => ?_) (fun H3 zs s3 hD3 lz hz => ?_)
    · obtain ⟨rfl, hx⟩ := yy
      obtain ⟨o, ho, hoz, eo⟩ : ∃ o, OP H x o ∧ ZzO k o ∧ (if i = 0 then oR d.lo else oR d.hi) = oR o := by
        have hi2 : i = 0 ∨ i = 1 := by
          have hi' : i < 2 := hi
          omega
        rcases hi2 with rfl | rfl
        · cases hx; exact ⟨_, h4, sz.2.1, rfl⟩
        · cases hx; exact ⟨_, h5, sz.2.2, rfl⟩
      rw [eo] at hN
      clear eo hx
      cases o with
      | none =>
        cases ho
        walk_at "w"
        exact hN _ _ (Same.refl _) rfl
      | some q =>
        obtain ⟨a, rfl, ha⟩ := ho
        change _ = some (HO.tup [V.int q.num, V.int (q.den : Int)]) at ha
        have ha1 := s3 _ _ (s1 _ _ ha)
        have sq := hoz _ rfl
        walk_at "w"
        refine q_made (k := k) (den0 q) sq.1 sq.2 k0 (by omega) fun p1 H5 s5 R => hN _ _ s5 ⟨p1, rfl, R⟩
    have lz2 : zs.length = 2 := lz
    obtain ⟨z0, z1, rfl⟩ : ∃ z0 z1, zs = [z0, z1] := by
      match zs, lz2 with
      | [z0, z1], _ => exact ⟨z0, z1, rfl⟩
    have o0 : QO (He.ga K "Measure") H3 k z0 (oR d.lo) := hz 0 z0 rfl
    have o1 : QO (He.ga K "Measure") H3 k z1 (oR d.hi) := hz 1 z1 rfl
    have s13 := s1.trans s3
    have h2' := s13 _ _ h2
    walk_at "w"
    intro D2 nD2
    refine lcr (n := vs.length) walk_list (fun _ _ g s => s.seq g) (fun i H v => ∃ a x, v = .ref a ∧ d.ms[i]? = some x ∧ QAt (He.ga K "Measure") H a k (ofR x)) (fun i H H' v ⟨a, x, e1, e2, e3⟩ n => ⟨a, x, e1, e2, e3.nl n⟩) (szs (by omega)) (SqL.of h2') nD2 (fun i x H4 H5 N M2 hi s4 yy hN => ?_) (fun H4 ys s4 hD4 ly hy => ?_)
    · obtain ⟨rfl, hx⟩ := yy
      obtain ⟨q, hq⟩ : ∃ q, d.ms[i]? = some q := ⟨_, List.getElem?_eq_getElem (by omega)⟩
      obtain ⟨a, ea, ha⟩ := rs.2 i q hq
      rw [ea] at hx
      cases hx
      change _ = some (HO.tup [V.int q.num, V.int (q.den : Int)]) at ha
      have ha1 := s4 _ _ (s13 _ _ ha)
      have sq := sz.get _ hq
      walk_at "w"
      refine q_made (k := k) (den0 q) sq.1 sq.2 k0 (by omega) fun p1 H6 s6 R => hN _ _ s6 ⟨p1, q, rfl, hq, R⟩
    walk_at "w"
    intro T2 nT2
    have s45 := s4.trans (same1 (u := .tup ys) nT2)
    have hT2 : (upd H4 T2 (.tup ys)) T2 = some (.tup ys) := upd_same
    have hy' : ∀ (i : Nat) (y : V), ys[i]? = some y → ∃ a x, y = .ref a ∧ d.ms[i]? = some x ∧ QAt (He.ga K "Measure") (upd H4 T2 (.tup ys)) a k (ofR x) := fun i y e => by
      obtain ⟨a, x, e1, e2, e3⟩ := hy i y e
      exact ⟨a, x, e1, e2, e3.same (same1 nT2)⟩
    have hD5 := s45 _ _ hD3
    generalize upd H4 T2 (.tup ys) = H5 at *
    walk_at "w"
    all_goals (try refine ⟨atI_of (n := 1) rfl rfl, ?_⟩)
    walk_at "w"
    refine lad_made (k := k) (SqT.of hT2) (zs := zR d.ms) ⟨by rw [zR_len]; omega, fun i v z e1 e2 => ?_⟩ (by omega) (by rw [zR_len]; exact ok.len0) (by rw [zR_len]; exact ok.len1) ok.riseQ ok.rule (o0.same s45) (o1.same s45) ok.spanQ fun q H6 _ s6 L6 _ => fin q H6 ((s13.trans s45).trans s6) L6
    obtain ⟨a, x, g1, g2, g3⟩ := hy' i v e1
    rw [zR_get, g2] at e2
    cases e2
    exact ⟨a, g1, g3⟩
theorem ok_l_scaled {P : Program} {w : World} {K : PySem.W.Frag} {mg : Str → Option Value} {base : Heap} {φ : Fds} (T : Txt K mg φ) : FnOk P w K mg base CX0 2 (He.fAd K ("_law_scaled", none)) φ.l_scaled p_l_scaled sp_scaled27 := by
  obtain ⟨_, B0v, B0⟩ := b_l_parts_2 T
  refine T.f_l_scaled.ok sc_l_scaled (fun vs H Q E h => ?_) (fun cdv A outer s H vs Q E hr h => ?_)
  · obtain ⟨p, s, d, c, k, rfl, hp, hs, sz, sc, k0, k1, l9, fin⟩ := h; rfl
  · obtain ⟨p, s, d, c, k, rfl, hp, hs, sz, sc, k0, k1, l9, fin⟩ := h
    refine ⟨_, PSs.nox (pss_cons (ps_asg (pv 0) (pg_tup rfl (pgs_cons (pg_name (i := 2) sc_l_scaled.nd rfl (Or.inl rfl)) (pgs_cons (pg_name (i := 3) sc_l_scaled.nd rfl (Or.inl rfl)) (pgs_cons (pg_name (i := 4) sc_l_scaled.nd rfl (Or.inl rfl)) (pgs_cons (pg_name (i := 5) sc_l_scaled.nd rfl (Or.inl rfl)) pgs_nil))))))
      (pss_cons (ps_setLc (i := 6) (own := [("_law_top", 8), ("_law_bottom", 9)]) (g := gTup K 2 (gCons (gName 8) (gCons (gName 9) (gNil)))) rfl sc_l_scaled.nd rfl rfl (sw_true rfl rfl rfl (by decide +kernel)) (pi_list (pv 2)) (blkOk_by (own := [("_law_top", 8), ("_law_bottom", 9)]) (N := N_l_scaled) (sc := (defScope s_l_scaled)) (by decide +kernel)) (fun _ _ _ _ _ => (pg_tup rfl (pgs_cons (pg_name (i := 8) sc_l_scaled.nd rfl (Or.inl rfl)) (pgs_cons (pg_name (i := 9) sc_l_scaled.nd rfl (Or.inl rfl)) pgs_nil)))) (fun _ _ _ _ _ => pts_nil) (fun _ _ _ _ _ => (pe_call (ok_l_parts (K := K) T) (hr.mono (by decide)) rfl T.g_l_parts T.f_l_parts.kp B0 B0v pass0 (pa_cons (pe_op op_mulA (pv 8) (pe_ix (ixt (K := K)) (pv 1) pe_int (fun _ _ => rfl))) (pa_cons (pe_op op_mulA (pv 9) (pe_ix (ixt (K := K)) (pv 1) pe_int (fun _ _ => rfl))) pa_nil)))))
      (pss_cons (ps_setLc (i := 7) (own := [("_law_end", 10)]) (g := gName 10) rfl sc_l_scaled.nd rfl rfl (sw_true rfl rfl rfl (by decide +kernel)) (pi_tup (pe_tup (pa_cons (pv 4) (pa_cons (pv 5) pa_nil)))) (blkOk_by (own := [("_law_end", 10)]) (N := N_l_scaled) (sc := (defScope s_l_scaled)) (by decide +kernel)) (fun _ _ _ _ _ => (pg_name (i := 10) sc_l_scaled.nd rfl (Or.inl rfl))) (fun _ _ _ _ _ => pts_nil) (fun _ _ _ _ _ => (pe_ifExp (pt_cmpR op_isN (pv 10) pe_non (nomark _)) pe_non (pe_call (ok_l_parts (K := K) T) (hr.mono (by decide)) rfl T.g_l_parts T.f_l_parts.kp B0 B0v pass0 (pa_cons (pe_op op_mulA (pe_ix (ixt (K := K)) (pv 10) pe_int (fun _ _ => rfl)) (pe_ix (ixt (K := K)) (pv 1) pe_int (fun _ _ => rfl))) (pa_cons (pe_op op_mulA (pe_ix (ixt (K := K)) (pv 10) pe_int (fun _ _ => rfl)) (pe_ix (ixt (K := K)) (pv 1) pe_int (fun _ _ => rfl))) pa_nil))))))
      (pss_one (ps_ret (pe_tup (pa_cons (pv 6) (pa_cons (pv 3) (pa_cons (pe_ix (ixl (K := K)) (pv 7) pe_int (fun _ _ => rfl)) (pa_cons (pe_ix (ixl (K := K)) (pv 7) pe_int (fun _ _ => rfl)) pa_nil)))))))))), ?_⟩
    obtain ⟨M, u, w', vs, h1, h2, rs, h4, h5⟩ := id hp.ob
    have lv := rs.1
    have hs' : H s = some (.tup [.int c.num, .int (c.den : Int)]) := hs
    have dc := den0 c
    walk_at "w"
    intro D nD
    refine lcr (n := vs.length) walk_list (fun _ _ g s => s.seq g) (fun i H v => ∃ a x, v = .ref a ∧ d.ms[i]? = some x ∧ H a = some (PR (x * c))) (fun i H H' v ⟨a, x, e1, e2, e3⟩ n => ⟨a, x, e1, e2, n _ _ e3 rfl⟩) (szs (by omega)) (SqL.of h2) nD (fun i x H1 H2 N M2 hi s1 yy hN => ?_) (fun H1 ys s1 hD ly hy => ?_)
    · obtain ⟨rfl, hx⟩ := yy
      obtain ⟨q, hq⟩ : ∃ q, d.ms[i]? = some q := ⟨_, List.getElem?_eq_getElem (by omega)⟩
      obtain ⟨a, ea, ha⟩ := rs.2 i q hq
      rw [ea] at hx
      cases hx
      change _ = some (HO.tup [V.int q.num, V.int (q.den : Int)]) at ha
      have ha1 := s1 _ _ ha
      have hs1 := s1 _ _ hs'
      have sq := sz.get _ hq
      have c1 : CMulW q.num c.num := cmw sq.1 sc.1 (by omega)
      have c2 : CMulW (q.den : Int) (c.den : Int) := cmw sq.2 sc.2 (by omega)
      have dp := Int.mul_pos (den0 q) dc
      have lg : ((q.den : Int) * (c.den : Int)).natAbs.log2 < 9000 := (sq.2.mul sc.2).log (by omega) (by omega)
      walk_at "w"
      intro t H3 nt s3 ht
      rw [mul_PR] at ht
      exact hN _ _ s3 ⟨t, q, rfl, hq, ht⟩
    have h4' := h4.same s1
    have h5' := h5.same s1
    have hs1 := s1 _ _ hs'
    walk_at "w"
    intro T nT
    have hT : (upd H1 T (.tup [u, w'])) T = some (.tup [u, w']) := upd_same
    have sT := same1 (u := .tup [u, w']) nT
    have s2 := s1.trans sT
    have hD2 := up1 (u := .tup [u, w']) nT hD
    generalize upd H1 T (.tup [u, w']) = H2 at *
    walk_at "w"
    intro D2 nD2
    refine lcr (n := [u, w'].length) walk_tup (fun _ _ g s => s.sqt g) (fun i H v => OP H v ((if i = 0 then d.lo else d.hi).map (· * c))) (fun i H H' v q n => q.nl n) (szs (Nat.le_of_ble_eq_true rfl)) (SqT.of hT) nD2 (fun i x H3 H4 N M2 hi s3 yy hN => ?_) (fun H3 zs s3 hD3 lz hz => ?_)
    · obtain ⟨rfl, hx⟩ := yy
      have hs3 := s3 _ _ (s2 _ _ hs')
      have one : ∀ (v : V) (o : Option Rat), OP H v o → ZzO k o → ∀ N : VK, (∀ y H5, Same H4 H5 → OP H5 y (o.map (· * c)) → N y H5) → True := fun _ _ _ _ _ _ => trivial
      obtain ⟨o, ho, hoz, eo⟩ : ∃ o, OP H x o ∧ ZzO k o ∧ (if i = 0 then d.lo else d.hi) = o := by
        have hi2 : i = 0 ∨ i = 1 := by
          have hi' : i < 2 := hi
          omega
        rcases hi2 with rfl | rfl
        · cases hx; exact ⟨_, h4, sz.2.1, rfl⟩
        · cases hx; exact ⟨_, h5, sz.2.2, rfl⟩
      rw [eo] at hN
      clear eo one hx
      cases o with
      | none =>
        cases ho
        walk_at "w"
        exact hN _ _ (Same.refl _) rfl
      | some q =>
        obtain ⟨a, rfl, ha⟩ := ho
        change _ = some (HO.tup [V.int q.num, V.int (q.den : Int)]) at ha
        have ha1 := s3 _ _ (s2 _ _ ha)
        have sq := hoz _ rfl
        have c1 : CMulW q.num c.num := cmw sq.1 sc.1 (by omega)
        have c2 : CMulW (q.den : Int) (c.den : Int) := cmw sq.2 sc.2 (by omega)
        have dp := Int.mul_pos (den0 q) dc
        have lg : ((q.den : Int) * (c.den : Int)).natAbs.log2 < 9000 := (sq.2.mul sc.2).log (by omega) (by omega)
        walk_at "w"
        intro t H5 nt s5 ht
        rw [mul_PR] at ht
        exact hN _ _ s5 ⟨t, rfl, ht⟩
    have lz2 : zs.length = 2 := lz
    obtain ⟨z0, z1, rfl⟩ : ∃ z0 z1, zs = [z0, z1] := by
      match zs, lz2 with
      | [z0, z1], _ => exact ⟨z0, z1, rfl⟩
    have o0 := hz 0 z0 rfl
    have o1 := hz 1 z1 rfl
    walk_at "w"
    all_goals (try refine ⟨atI_of (n := 1) rfl rfl, ?_⟩)
    walk_at "w"
    intro T3 nT3
    have s4 := s3.trans (same1 (u := .tup [V.ref D, V.str d.r, z0, z1]) nT3)
    refine fin T3 _ (s2.trans s4) ⟨D, z0, z1, ys, upd_same, s4 _ _ hD2, ⟨by rw [ly, lv]; exact (List.length_map ..).symm, fun i x e => ?_⟩, o0.same (same1 nT3), o1.same (same1 nT3)⟩
    have e : (d.ms.map (· * c))[i]? = some x := e
    rw [List.getElem?_map] at e
    have hi : i < ys.length := by
      cases e1 : d.ms[i]? with
      | none => rw [e1] at e; cases e
      | some y => have := (List.getElem?_eq_some_iff.mp e1).1; omega
    obtain ⟨a, q, e1, e2, e3⟩ := hy i _ (List.getElem?_eq_getElem hi)
    rw [e2] at e
    cases e
    exact ⟨a, by rw [List.getElem?_eq_getElem hi, e1], (sT.trans s4) _ _ e3⟩
theorem ok_l_drawn {P : Program} {w : World} {K : PySem.W.Frag} {mg : Str → Option Value} {base : Heap} {φ : Fds} (T : Txt K mg φ) : FnOk P w K mg base CX0 4 (He.fAd K ("_law_drawn", none)) φ.l_drawn p_l_drawn sp_drawn27 := by
  obtain ⟨_, B0v, B0⟩ := b_l_pick_2 T
  obtain ⟨_, B1v, B1⟩ := b_l_of_2 T
  obtain ⟨_, B2v, B2⟩ := b_l_plus_2 T
  obtain ⟨_, B3v, B3⟩ := b_l_mid_2 T
  obtain ⟨_, B4v, B4⟩ := b_l_less_2 T
  refine T.f_l_drawn.ok sc_l_drawn (fun vs H Q E h => ?_) (fun cdv A outer s H vs Q E hr h => ?_)
  · obtain ⟨h, g, n, m, rfl, pt, hn, m0, m1, fin⟩ := h; rfl
  · obtain ⟨h, g, n, m, rfl, pt, hn, m0, m1, fin⟩ := h
    refine ⟨_, PSs.nox (pss_cons (ps_cut (ps_par (i := 2) (j := 3) rfl sc_l_drawn.nd rfl rfl (by decide) rfl rfl (pa_cons (pe_call (ok_l_of (K := K) T) (hr.mono (by decide)) rfl T.g_l_of T.f_l_of.kp B1 B1v pass0 (pa_cons (pv 0) (pa_cons (pe_lst (pa_cons pe_str (pa_cons pe_str (pa_cons pe_str pa_nil)))) pa_nil))) (pa_cons (pe_op op_add pe_int (pe_call (ok_l_pick (K := K) T) (hr.mono (by decide)) rfl T.g_l_pick T.f_l_pick.kp B0 B0v pass0 (pa_cons (pv 0) (pa_cons (pv 1) pa_nil)))) pa_nil)) (by rfl)))
      (pss_cons (ps_cut (ps_set (i := 4) sc_l_drawn.nd rfl (Or.inl rfl) (pe_lst (pa_cons (pe_tup (pa_cons pe_int (pa_cons pe_int pa_nil))) (pa_cons (pe_tup (pa_cons pe_int (pa_cons pe_int pa_nil))) (pa_cons (pe_tup (pa_cons pe_int (pa_cons pe_int pa_nil))) (pa_cons (pe_tup (pa_cons pe_int (pa_cons pe_int pa_nil))) (pa_cons (pe_tup (pa_cons pe_int (pa_cons pe_int pa_nil))) (pa_cons (pe_tup (pa_cons pe_int (pa_cons pe_int pa_nil))) (pa_cons (pe_tup (pa_cons pe_int (pa_cons pe_int pa_nil))) (pa_cons (pe_tup (pa_cons pe_int (pa_cons pe_int pa_nil))) pa_nil)))))))))))
      (pss_cons (ps_cut (ps_set (i := 5) sc_l_drawn.nd rfl (Or.inl rfl) (pe_call (ok_l_of (K := K) T) (hr.mono (by decide)) rfl T.g_l_of T.f_l_of.kp B1 B1v pass0 (pa_cons (pv 0) (pa_cons (pe_op op_cat (pv 4) (pe_lst (pa_cons pe_non (pa_cons pe_non pa_nil)))) pa_nil)))))
      (pss_cons (ps_cut (ps_set (i := 6) sc_l_drawn.nd rfl (Or.inl rfl) (pe_lst (pa_cons (pe_call (ok_l_of (K := K) T) (hr.mono (by decide)) rfl T.g_l_of T.f_l_of.kp B1 B1v pass0 (pa_cons (pv 0) (pa_cons (pe_lst (pa_cons (pe_tup (pa_cons pe_int (pa_cons pe_int pa_nil))) (pa_cons (pe_tup (pa_cons pe_int (pa_cons pe_int pa_nil))) (pa_cons (pe_tup (pa_cons pe_int (pa_cons pe_int pa_nil))) (pa_cons (pe_tup (pa_cons (pe_un un_neg pe_int) (pa_cons pe_int pa_nil))) (pa_cons (pe_tup (pa_cons pe_int (pa_cons pe_int pa_nil))) (pa_cons (pe_tup (pa_cons (pe_un un_neg pe_int) (pa_cons pe_int pa_nil))) pa_nil))))))) pa_nil))) pa_nil))))
      (pss_cons (ps_cut (ps_for PassesOwn.never rfl (pi_range1 rfl T.z_range (pa_cons (pe_op op_sub (pv 3) pe_int) pa_nil)) (pg_name (i := 7) sc_l_drawn.nd rfl (Or.inl rfl))
      (pss_one (ps_expr (pe_bm PySem.F.plainAttrs_list PySem.F.slot_list_append PySem.F.type_list_append mt_append (pv 6) (pa_cons (pe_call (ok_l_plus (K := K) T) (hr.mono (by decide)) rfl T.g_l_plus T.f_l_plus.kp B2 B2v pass0 (pa_cons (pe_ix (ixl (K := K)) (pv 6) (pe_un un_neg pe_int) (fun _ _ => rfl)) (pa_cons (pe_ifExp (pt_cmpR op_notN (pv 5) pe_non (nomark _)) (pv 5) (pe_call (ok_l_of (K := K) T) (hr.mono (by decide)) rfl T.g_l_of T.f_l_of.kp B1 B1v pass0 (pa_cons (pv 0) (pa_cons (pv 4) pa_nil)))) pa_nil))) pa_nil))))))
      (pss_cons (ps_cut (ps_set (i := 8) sc_l_drawn.nd rfl (Or.inl rfl) (pe_lst pa_nil)))
      (pss_cons (ps_cut (ps_for PassesOwn.never rfl (pi_range1 rfl T.z_range (pa_cons pe_int pa_nil)) (pg_name (i := 7) sc_l_drawn.nd rfl (Or.inl rfl))
      (pss_cons (ps_par (i := 9) (j := 10) rfl sc_l_drawn.nd rfl rfl (by decide) rfl rfl (pa_cons (pe_call (ok_l_pick (K := K) T) (hr.mono (by decide)) rfl T.g_l_pick T.f_l_pick.kp B0 B0v pass0 (pa_cons (pv 0) (pa_cons pe_int pa_nil))) (pa_cons (pe_call (ok_l_pick (K := K) T) (hr.mono (by decide)) rfl T.g_l_pick T.f_l_pick.kp B0 B0v pass0 (pa_cons (pv 0) (pa_cons (pv 3) pa_nil))) pa_nil)) (by rfl))
      (pss_cons (ps_set (i := 11) sc_l_drawn.nd rfl (Or.inl rfl) (pe_lst (pa_cons (pe_ix (ixl (K := K)) (pv 6) (pv 10) (fun _ _ => rfl)) (pa_cons (pe_call (ok_l_mid (K := K) T) (hr.mono (by decide)) rfl T.g_l_mid T.f_l_mid.kp B3 B3v pass0 (pa_cons (pe_ix (ixl (K := K)) (pv 6) (pv 10) (fun _ _ => rfl)) (pa_cons (pe_ix (ixl (K := K)) (pv 6) (pe_callB (id := "max") (call_max2 rfl) (by rfl) T.z_max (by decide +kernel) (pa_cons pe_int (pa_cons (pe_op op_sub (pv 10) pe_int) pa_nil))) (fun _ _ => rfl)) pa_nil))) (pa_cons (pe_call (ok_l_plus (K := K) T) (hr.mono (by decide)) rfl T.g_l_plus T.f_l_plus.kp B2 B2v pass0 (pa_cons (pe_ix (ixl (K := K)) (pv 6) (pv 10) (fun _ _ => rfl)) (pa_cons (pe_tup (pa_cons (pe_op op_sub pe_int (pe_op op_mulA pe_int (pv 7))) (pa_cons pe_int pa_nil))) pa_nil))) pa_nil)))))
      (pss_one (ps_expr (pe_bm PySem.F.plainAttrs_list PySem.F.slot_list_append PySem.F.type_list_append mt_append (pv 8) (pa_cons (pe_ifExp (pt_cmpR op_lt (pv 9) pe_int (nomark _)) (pe_ix (ixl (K := K)) (pv 11) (pv 9) (fun _ _ => rfl)) pe_non) pa_nil))))))))
      (pss_cons (ps_cut (ps_if (PW.pt (pw_and (pt_cmpR (notInDK (K := K) (rm65 hr)) pe_non (pv 8) (by rfl)) (pw_and1 (pt_val (pe_call (ok_l_less (K := K) T) (hr.mono (by decide)) rfl T.g_l_less T.f_l_less.kp B4 B4v pass0 (pa_cons (pe_ix (ixl (K := K)) (pv 8) pe_int (fun _ _ => rfl)) (pa_cons (pe_ix (ixl (K := K)) (pv 8) pe_int (fun _ _ => rfl)) pa_nil)))))))
      (pss_one (ps_set (i := 8) sc_l_drawn.nd rfl (Or.inl rfl) (pe_revL (pv 8))))
      pss_nil))
      (pss_one (ps_ret (pe_tup (pa_cons (pv 6) (pa_cons (pv 2) (pa_cons (pe_ix (ixl (K := K)) (pv 8) pe_int (fun _ _ => rfl)) (pa_cons (pe_ix (ixl (K := K)) (pv 8) pe_int (fun _ _ => rfl)) pa_nil))))))))))))))), ?_⟩
    obtain ⟨J1, eJ1⟩ : ∃ J : L2.St → Hp → Prop, J = fun σ' H' => ∃ (r : Str) (mn : Int), σ' = [some (.ref h), some (.int m), some (.str r), some (.int mn), none, none, none, none, none, none, none, none] ∧ IsRule r ∧ 0 < mn ∧ mn ≤ 24 ∧ PotAt H' h g (n + 2) ∧ Kp2 h g H H' := ⟨_, rfl⟩
    refine ⟨J1, ?_, ?_⟩
    · walk_at "f"
      intro L nL
      have hL : (upd H L (.lst [V.str (Str.ofString "up"), V.str (Str.ofString "down"), V.str (Str.ofString "near")])) L = some (.lst [V.str (Str.ofString "up"), V.str (Str.ofString "down"), V.str (Str.ofString "near")]) := upd_same
      have kL : Kp2 h g H _ := (Kp2.refl H).up (u := .lst [V.str (Str.ofString "up"), V.str (Str.ofString "down"), V.str (Str.ofString "near")]) nL
      have ptL := pt.up (u := .lst [V.str (Str.ofString "up"), V.str (Str.ofString "down"), V.str (Str.ofString "near")]) nL
      obtain ⟨ne1, ne2⟩ := pt.nel nL
      clear pt
      generalize upd H L (.lst [V.str (Str.ofString "up"), V.str (Str.ofString "down"), V.str (Str.ofString "near")]) = HA at *
      have lgm := lg24 (show (m : Int) ≤ 24 by omega) (show (0 : Int) ≤ m by omega)
      refine ⟨h, g, L, n, _, rfl, ptL, by omega, SqL.of hL, ne1, ne2, by decide, by decide, fun i x HB hx ptB kB => ?_⟩
      obtain ⟨r, rfl, ru⟩ : ∃ r, x = V.str r ∧ IsRule r := by
        match i, hx with
        | 0, hx => cases hx; exact ⟨_, rfl, .inl rfl⟩
        | 1, hx => cases hx; exact ⟨_, rfl, .inr (.inl rfl)⟩
        | 2, hx => cases hx; exact ⟨_, rfl, .inr (.inr rfl)⟩
        | j + 3, hx => simp at hx
      clear ptL
      walk_at "f"
      intro d HC d0 d1 ptC kC
      walk_at "f"
      subst eJ1
      exact ⟨r, _, rfl, ru, by omega, by omega, ptC, (kL.trans kB).trans kC⟩
    rintro σ1 H2 hJ1
    subst eJ1
    obtain ⟨r, mn, rfl, ru, mn0, mn1, pt2, k2⟩ := hJ1
    clear pt
    have nH : ∀ p, H2 p = none → p ≠ h ∧ p ≠ g := fun p e => pt2.nel e
    obtain ⟨J2, eJ2⟩ : ∃ J : L2.St → Hp → Prop, J = fun σ' H' => ∃ (P : Addr), σ' = [some (.ref h), some (.int m), some (.str r), some (.int mn), some (.ref P), none, none, none, none, none, none, none] ∧ PoolAt H' P ∧ PotAt H' h g (n + 2) ∧ Kp2 h g H H' := ⟨_, rfl⟩
    refine ⟨J2, ?_, ?_⟩
    · walk_at "f"
      intro pa0 npa0
      have ea0 : (upd H2 pa0 (.tup [V.int (1), V.int 1])) pa0 = some (.tup [V.int (1), V.int 1]) := upd_same
      have sa0 := same1 (u := .tup [V.int (1), V.int 1]) npa0
      generalize upd H2 pa0 (.tup [V.int (1), V.int 1]) = HA0 at *
      walk_at "f"
      intro pa1 npa1
      have ea1 : (upd HA0 pa1 (.tup [V.int (1), V.int 2])) pa1 = some (.tup [V.int (1), V.int 2]) := upd_same
      have sa1 := same1 (u := .tup [V.int (1), V.int 2]) npa1
      generalize upd HA0 pa1 (.tup [V.int (1), V.int 2]) = HA1 at *
      walk_at "f"
      intro pa2 npa2
      have ea2 : (upd HA1 pa2 (.tup [V.int (1), V.int 3])) pa2 = some (.tup [V.int (1), V.int 3]) := upd_same
      have sa2 := same1 (u := .tup [V.int (1), V.int 3]) npa2
      generalize upd HA1 pa2 (.tup [V.int (1), V.int 3]) = HA2 at *
      walk_at "f"
      intro pa3 npa3
      have ea3 : (upd HA2 pa3 (.tup [V.int (2), V.int 7])) pa3 = some (.tup [V.int (2), V.int 7]) := upd_same
      have sa3 := same1 (u := .tup [V.int (2), V.int 7]) npa3
      generalize upd HA2 pa3 (.tup [V.int (2), V.int 7]) = HA3 at *
      walk_at "f"
      intro pa4 npa4
      have ea4 : (upd HA3 pa4 (.tup [V.int (5), V.int 12])) pa4 = some (.tup [V.int (5), V.int 12]) := upd_same
      have sa4 := same1 (u := .tup [V.int (5), V.int 12]) npa4
      generalize upd HA3 pa4 (.tup [V.int (5), V.int 12]) = HA4 at *
      walk_at "f"
      intro pa5 npa5
      have ea5 : (upd HA4 pa5 (.tup [V.int (1), V.int 104729])) pa5 = some (.tup [V.int (1), V.int 104729]) := upd_same
      have sa5 := same1 (u := .tup [V.int (1), V.int 104729]) npa5
      generalize upd HA4 pa5 (.tup [V.int (1), V.int 104729]) = HA5 at *
      walk_at "f"
      intro pa6 npa6
      have ea6 : (upd HA5 pa6 (.tup [V.int (3), V.int 1])) pa6 = some (.tup [V.int (3), V.int 1]) := upd_same
      have sa6 := same1 (u := .tup [V.int (3), V.int 1]) npa6
      generalize upd HA5 pa6 (.tup [V.int (3), V.int 1]) = HA6 at *
      walk_at "f"
      intro pa7 npa7
      have ea7 : (upd HA6 pa7 (.tup [V.int (1), V.int 1])) pa7 = some (.tup [V.int (1), V.int 1]) := upd_same
      have sa7 := same1 (u := .tup [V.int (1), V.int 1]) npa7
      generalize upd HA6 pa7 (.tup [V.int (1), V.int 1]) = HA7 at *
      walk_at "f"
      intro P nP
      have al : ∀ v ∈ [V.ref pa0, V.ref pa1, V.ref pa2, V.ref pa3, V.ref pa4, V.ref pa5, V.ref pa6, V.ref pa7], PoolP 26391708 HA7 v := fun v hv => by
        simp only [List.mem_cons, List.not_mem_nil, or_false] at hv
        rcases hv with rfl | rfl | rfl | rfl | rfl | rfl | rfl | rfl
        · exact ⟨pa0, (⟨1, 1, by decide, by decide⟩ : Rat), rfl, ((((((((Same.refl _).trans sa1).trans sa2).trans sa3).trans sa4).trans sa5).trans sa6).trans sa7) _ _ ea0, by decide, ⟨8797236, by decide +kernel, by decide⟩⟩
        · exact ⟨pa1, (⟨1, 2, by decide, by decide⟩ : Rat), rfl, (((((((Same.refl _).trans sa2).trans sa3).trans sa4).trans sa5).trans sa6).trans sa7) _ _ ea1, by decide, ⟨4398618, by decide +kernel, by decide⟩⟩
        · exact ⟨pa2, (⟨1, 3, by decide, by decide⟩ : Rat), rfl, ((((((Same.refl _).trans sa3).trans sa4).trans sa5).trans sa6).trans sa7) _ _ ea2, by decide, ⟨2932412, by decide +kernel, by decide⟩⟩
        · exact ⟨pa3, (⟨2, 7, by decide, by decide⟩ : Rat), rfl, (((((Same.refl _).trans sa4).trans sa5).trans sa6).trans sa7) _ _ ea3, by decide, ⟨2513496, by decide +kernel, by decide⟩⟩
        · exact ⟨pa4, (⟨5, 12, by decide, by decide⟩ : Rat), rfl, ((((Same.refl _).trans sa5).trans sa6).trans sa7) _ _ ea4, by decide, ⟨3665515, by decide +kernel, by decide⟩⟩
        · exact ⟨pa5, (⟨1, 104729, by decide, by decide⟩ : Rat), rfl, (((Same.refl _).trans sa6).trans sa7) _ _ ea5, by decide, ⟨84, by decide +kernel, by decide⟩⟩
        · exact ⟨pa6, (⟨3, 1, by decide, by decide⟩ : Rat), rfl, ((Same.refl _).trans sa7) _ _ ea6, by decide, ⟨26391708, by decide +kernel, by decide⟩⟩
        · exact ⟨pa7, (⟨1, 1, by decide, by decide⟩ : Rat), rfl, (Same.refl _) _ _ ea7, by decide, ⟨8797236, by decide +kernel, by decide⟩⟩
      have sA : Same H2 HA7 := (((((((((Same.refl _).trans sa0).trans sa1).trans sa2).trans sa3).trans sa4).trans sa5).trans sa6).trans sa7)
      subst eJ2
      exact ⟨P, rfl, ⟨_, upd_same, rfl, fun v hv => (al v hv).same (same1 nP)⟩, (pt2.same sA).up nP, (k2.trans (Kp2.same sA)).up nP⟩
    rintro σ2 H3 hJ2
    subst eJ2
    obtain ⟨P, rfl, hP3, pt3, k3⟩ := hJ2
    clear pt2 k2 nH
    obtain ⟨J3, eJ3⟩ : ∃ J : L2.St → Hp → Prop, J = fun σ' H' => ∃ (sv : V), σ' = [some (.ref h), some (.int m), some (.str r), some (.int mn), some (.ref P), some sv, none, none, none, none, none, none] ∧ PoolAt H' P ∧ StepAt H' sv ∧ PotAt H' h g (n + 3) ∧ Kp2 h g H H' := ⟨_, rfl⟩
    refine ⟨J3, ?_, ?_⟩
    · obtain ⟨ps, eP, lP, al⟩ := id hP3
      walk_at "f"
      intro N nN
      have eP' := up1 (u := .lst [V.non, V.non]) nN eP
      have hN : (upd H3 N (.lst [V.non, V.non])) N = some (.lst [V.non, V.non]) := upd_same
      have sN := same1 (u := .lst [V.non, V.non]) nN
      generalize upd H3 N (.lst [V.non, V.non]) = HA at *
      refine ⟨P, N, ps, [.non, .non], rfl, rfl, eP', hN, szl (by rw [lP]; decide), fun C nC => ?_⟩
      have hC : (upd HA C (.lst (ps ++ [V.non, V.non]))) C = some (.lst (ps ++ [V.non, V.non])) := upd_same
      have sC := sN.trans (same1 (u := .lst (ps ++ [V.non, V.non])) nC)
      obtain ⟨ne1, ne2⟩ := (pt3.same sN).nel nC
      generalize upd HA C (.lst (ps ++ [V.non, V.non])) = HB at *
      refine ⟨h, g, C, n + 2, _, rfl, pt3.same sC, by omega, SqL.of hC, ne1, ne2, by rw [List.length_append, lP]; decide, by rw [List.length_append, lP]; decide, fun i x HD hx ptD kD => ?_⟩
      have st : StepAt HB x := by
        rcases List.mem_append.mp (List.mem_of_getElem? hx) with q | q
        · exact .inr ((al x q).same sC)
        · simp only [List.mem_cons, List.not_mem_nil, or_false] at q
          rcases q with rfl | rfl <;> exact .inl rfl
      have pB := pt3.same sC
      walk_at "f"
      subst eJ3
      exact ⟨x, rfl, (hP3.same sC).kp pB kD, st.nl (pB.nl kD), ptD, (k3.trans (Kp2.same sC)).trans kD⟩
    rintro σ3 H4 hJ3
    subst eJ3
    obtain ⟨sv, rfl, hP4, st4, pt4, k4⟩ := hJ3
    clear hP3 pt3 k3
    obtain ⟨J4, eJ4⟩ : ∃ J : L2.St → Hp → Prop, J = fun σ' H' => ∃ (M : Addr) (x : Rat), σ' = [some (.ref h), some (.int m), some (.str r), some (.int mn), some (.ref P), some sv, some (.ref M), none, none, none, none, none] ∧ H M = none ∧ PoolAt H' P ∧ StepAt H' sv ∧ MkD H' M [x] ∧ P ≠ M ∧ PotAt H' h g (n + 4) ∧ Kp2 h g H H' := ⟨_, rfl⟩
    refine ⟨J4, ?_, ?_⟩
    · walk_at "f"
      intro pb0 npb0
      have eb0 : (upd H4 pb0 (.tup [V.int (0), V.int 1])) pb0 = some (.tup [V.int (0), V.int 1]) := upd_same
      have sb0 := same1 (u := .tup [V.int (0), V.int 1]) npb0
      generalize upd H4 pb0 (.tup [V.int (0), V.int 1]) = HA0 at *
      walk_at "f"
      intro pb1 npb1
      have eb1 : (upd HA0 pb1 (.tup [V.int (3), V.int 1])) pb1 = some (.tup [V.int (3), V.int 1]) := upd_same
      have sb1 := same1 (u := .tup [V.int (3), V.int 1]) npb1
      generalize upd HA0 pb1 (.tup [V.int (3), V.int 1]) = HA1 at *
      walk_at "f"
      intro pb2 npb2
      have eb2 : (upd HA1 pb2 (.tup [V.int (7), V.int 2])) pb2 = some (.tup [V.int (7), V.int 2]) := upd_same
      have sb2 := same1 (u := .tup [V.int (7), V.int 2]) npb2
      generalize upd HA1 pb2 (.tup [V.int (7), V.int 2]) = HA2 at *
      walk_at "f"
      intro pb3 npb3
      have eb3 : (upd HA2 pb3 (.tup [V.int (-2), V.int 1])) pb3 = some (.tup [V.int (-2), V.int 1]) := upd_same
      have sb3 := same1 (u := .tup [V.int (-2), V.int 1]) npb3
      generalize upd HA2 pb3 (.tup [V.int (-2), V.int 1]) = HA3 at *
      walk_at "f"
      intro pb4 npb4
      have eb4 : (upd HA3 pb4 (.tup [V.int (10), V.int 3])) pb4 = some (.tup [V.int (10), V.int 3]) := upd_same
      have sb4 := same1 (u := .tup [V.int (10), V.int 3]) npb4
      generalize upd HA3 pb4 (.tup [V.int (10), V.int 3]) = HA4 at *
      walk_at "f"
      intro pb5 npb5
      have eb5 : (upd HA4 pb5 (.tup [V.int (-1), V.int 104729])) pb5 = some (.tup [V.int (-1), V.int 104729]) := upd_same
      have sb5 := same1 (u := .tup [V.int (-1), V.int 104729]) npb5
      generalize upd HA4 pb5 (.tup [V.int (-1), V.int 104729]) = HA5 at *
      walk_at "f"
      intro L nL
      have al : ∀ v ∈ [V.ref pb0, V.ref pb1, V.ref pb2, V.ref pb3, V.ref pb4, V.ref pb5], PoolV 35188944 HA5 v := fun v hv => by
        simp only [List.mem_cons, List.not_mem_nil, or_false] at hv
        rcases hv with rfl | rfl | rfl | rfl | rfl | rfl
        · exact ⟨pb0, (⟨0, 1, by decide, by decide⟩ : Rat), rfl, ((((((Same.refl _).trans sb1).trans sb2).trans sb3).trans sb4).trans sb5) _ _ eb0, ⟨0, by decide +kernel, by decide⟩⟩
        · exact ⟨pb1, (⟨3, 1, by decide, by decide⟩ : Rat), rfl, (((((Same.refl _).trans sb2).trans sb3).trans sb4).trans sb5) _ _ eb1, ⟨26391708, by decide +kernel, by decide⟩⟩
        · exact ⟨pb2, (⟨7, 2, by decide, by decide⟩ : Rat), rfl, ((((Same.refl _).trans sb3).trans sb4).trans sb5) _ _ eb2, ⟨30790326, by decide +kernel, by decide⟩⟩
        · exact ⟨pb3, (⟨-2, 1, by decide, by decide⟩ : Rat), rfl, (((Same.refl _).trans sb4).trans sb5) _ _ eb3, ⟨-17594472, by decide +kernel, by decide⟩⟩
        · exact ⟨pb4, (⟨10, 3, by decide, by decide⟩ : Rat), rfl, ((Same.refl _).trans sb5) _ _ eb4, ⟨29324120, by decide +kernel, by decide⟩⟩
        · exact ⟨pb5, (⟨-1, 104729, by decide, by decide⟩ : Rat), rfl, (Same.refl _) _ _ eb5, ⟨-84, by decide +kernel, by decide⟩⟩
      have sA : Same H4 HA5 := (((((((Same.refl _).trans sb0).trans sb1).trans sb2).trans sb3).trans sb4).trans sb5)
      have sL := sA.trans (same1 (u := .lst [V.ref pb0, V.ref pb1, V.ref pb2, V.ref pb3, V.ref pb4, V.ref pb5]) nL)
      have al2 : ∀ v ∈ [V.ref pb0, V.ref pb1, V.ref pb2, V.ref pb3, V.ref pb4, V.ref pb5], PoolV 35188944 (upd HA5 L (.lst [V.ref pb0, V.ref pb1, V.ref pb2, V.ref pb3, V.ref pb4, V.ref pb5])) v := fun v hv => (al v hv).nl (Nl.of (same1 nL))
      obtain ⟨ne1, ne2⟩ := (pt4.same sA).nel nL
      have hL : (upd HA5 L (.lst [V.ref pb0, V.ref pb1, V.ref pb2, V.ref pb3, V.ref pb4, V.ref pb5])) L = some (.lst [V.ref pb0, V.ref pb1, V.ref pb2, V.ref pb3, V.ref pb4, V.ref pb5]) := upd_same
      generalize upd HA5 L (.lst [V.ref pb0, V.ref pb1, V.ref pb2, V.ref pb3, V.ref pb4, V.ref pb5]) = HB at *
      have pB := pt4.same sL
      refine ⟨h, g, L, n + 3, _, rfl, pB, by omega, SqL.of hL, ne1, ne2, Nat.le_of_ble_eq_true rfl, Nat.le_of_ble_eq_true rfl, fun i v HD hv ptD kD => ?_⟩
      obtain ⟨a, x, rfl, hx, wx⟩ := (al2 v (List.mem_of_getElem? hv)).nl (pB.nl kD)
      have kk := (k4.trans (Kp2.same sL)).trans kD
      walk_at "f"
      intro M nM
      have hP := ((hP4.same sL).kp pB kD)
      have nPM : P ≠ M := by
        obtain ⟨ps, e, _⟩ := hP
        exact ne_of_none e nM
      subst eJ4
      refine ⟨M, x, rfl, kk.non ptD nM, hP.same (same1 nM), ((st4.same sL).nl (pB.nl kD)).same (same1 nM), ⟨[.ref a], upd_same, ⟨rfl, fun j z hz => ?_⟩, fun j y z h1 h2 => by simp at h2, fun j z hz => ?_⟩, nPM, ptD.up nM, kk.up nM⟩
      · match j, hz with
        | 0, hz => cases hz; exact ⟨a, rfl, up1 nM hx⟩
        | j + 1, hz => simp at hz
      · match j, hz with
        | 0, hz => cases hz; exact wx.mono (by decide)
        | j + 1, hz => simp at hz
    rintro σ4 H5 hJ4
    subst eJ4
    obtain ⟨M, x, rfl, nM, hP5, st5, mk5, nPM, pt5, k5⟩ := hJ4
    clear hP4 st4 pt4 k4
    obtain ⟨J5, eJ5⟩ : ∃ J : L2.St → Hp → Prop, J = fun σ' H' => ∃ (ms : List Rat) (v7 : Option V), σ' = [some (.ref h), some (.int m), some (.str r), some (.int mn), some (.ref P), some sv, some (.ref M), v7, none, none, none, none] ∧ (ms.length : Int) = mn ∧ MkD H' M ms ∧ PotAt H' h g (n + 28) ∧ Kp2 h g H H' := ⟨_, rfl⟩
    refine ⟨J5, ?_, ?_⟩
    · walk_at "f"
      refine for_range (fun i σ H' => ∃ (ms : List Rat) (v7 : Option V), σ = [some (.ref h), some (.int m), some (.str r), some (.int mn), some (.ref P), some sv, some (.ref M), v7, none, none, none, none] ∧ ms.length = i + 1 ∧ MkD H' M ms ∧ PoolAt H' P ∧ StepAt H' sv ∧ PotAt H' h g (n + 4 + i) ∧ Kp2 h g H H') ⟨[x], _, rfl, rfl, mk5, hP5, st5, pt5, k5⟩ ?_ ?_
      · rintro i σ HA hi ⟨ms, v7, rfl, lm, ⟨vs, eM, rs, ri, wh⟩, hP, st, pt, kk⟩
        have hi2 : i ≤ 22 := by omega
        have ne := rsv_ne pt eM rs (by omega)
        have lv := rs.1
        obtain ⟨x', hx⟩ : ∃ x, ms[i]? = some x := ⟨_, List.getElem?_eq_getElem (by omega)⟩
        obtain ⟨a, ea, ha⟩   := rs.2 i x' hx
        have wx := wh i x' hx
        have iM : atI vs (-1) = some (.ref a) := atI_end (n := i) (by omega) ea
        have bd : (4 + 3 * i) * 8797236 ≤ 1000000000 := by omega
        walk_at "f"
        have fin1 : ∀ (HB : Hp) (b : Addr) (y : Rat) (q : Nat), q ≤ n + 4 + i + 1 → HB M = some (.lst vs) → RsV HB vs ms → PoolAt HB P → StepAt HB sv → PotAt HB h g q → Kp2 h g H HB → 0 < y → WhM y 26391708 → ∀ (c : Addr) (HC : Hp), Same HB HC → HC c = some (PR (x' + y)) →
            ∃ (ms' : List Rat) (v7 : Option V), [some (.ref h), some (.int m), some (.str r), some (.int mn), some (.ref P), some sv, some (.ref M), some (.int (0 + (i : Int))), none, none, none, none] = [some (.ref h), some (.int m), some (.str r), some (.int mn), some (.ref P), some sv, some (.ref M), v7, none, none, none, none] ∧ ms'.length = i + 1 + 1 ∧ MkD (upd HC M (.lst (vs ++ [V.ref c]))) M ms' ∧ PoolAt (upd HC M (.lst (vs ++ [V.ref c]))) P ∧ StepAt (upd HC M (.lst (vs ++ [V.ref c]))) sv ∧ PotAt (upd HC M (.lst (vs ++ [V.ref c]))) h g (n + 4 + (i + 1)) ∧ Kp2 h g H (upd HC M (.lst (vs ++ [V.ref c]))) := by
          intro HB b y q lq eB rB hPB stB ptB kB y0 wy c HC sC hc
          have eC := sC _ _ eB
          exact ⟨ms ++ [x' + y], _, rfl, by rw [List.length_append, lm]; rfl, MkD.snoc eC (rB.same sC) ri wh lm hx y0 wy hc, (hPB.same sC).put eC nPM, (stB.same sC).nl (Nl.put eC), (((ptB.same sC).put ne.1 ne.2).mono (by omega)), (kB.trans (Kp2.same sC)).putN nM⟩
        rcases st with rfl | ⟨b, y, rfl, hb, y0, wy⟩
        · obtain ⟨ps, eP, lP, al⟩ := id hP
          have nP := hP.ne pt
          walk_at "f"
          refine ⟨nP.1, nP.2, by omega, by omega, fun j z HB hz ptB kB => ?_⟩
          obtain ⟨b, y, rfl, hb, y0, wy⟩ := (al _ (List.mem_of_getElem? hz)).nl (pt.nl kB)
          have nB := pt.nl kB
          have eB := kB _ _ eM ne.1 ne.2
          refine ⟨a, b, x', y, 30, rfl, nB _ _ ha rfl, hb, wx.sz bd, wy.sz (by decide), by decide, by decide, fun c HC nc sC hc => ?_⟩
          have eC := sC _ _ eB
          have ll : vs.length < 1000 := by omega
          walk_at "f"
          exact fin1 _ b y _ (Nat.le_refl _) eB (rs.nl nB) (hP.kp pt kB) (.inl rfl) ptB (kk.trans kB) y0 wy c HC sC hc
        · walk_at "f"
          refine ⟨x', y, 30, rfl, ha, hb, wx.sz bd, wy.sz (by decide), by decide, by decide, fun c HC nc sC hc => ?_⟩
          have eC := sC _ _ eM
          have ll : vs.length < 1000 := by omega
          walk_at "f"
          exact fin1 _ b y _ (by omega) eM rs hP (.inr ⟨b, y, rfl, hb, y0, wy⟩) pt kk y0 wy c HC sC hc
      · rintro σ HA ⟨ms, v7, rfl, lm, mk, hP, st, pt, kk⟩
        subst eJ5
        exact ⟨ms, v7, rfl, by omega, mk, pt.mono (by omega), kk⟩
    rintro σ5 H6 hJ5
    subst eJ5
    obtain ⟨ms, v7, rfl, lm, mk6, pt6, k6⟩ := hJ5
    clear hP5 st5 mk5 pt5 k5 nPM
    obtain ⟨J6, eJ6⟩ : ∃ J : L2.St → Hp → Prop, J = fun σ' H' => ∃ (E : Addr), σ' = [some (.ref h), some (.int m), some (.str r), some (.int mn), some (.ref P), some sv, some (.ref M), v7, some (.ref E), none, none, none] ∧ H E = none ∧ H' E = some (.lst []) ∧ E ≠ h ∧ E ≠ g ∧ M ≠ E ∧ MkD H' M ms ∧ PotAt H' h g (n + 28) ∧ Kp2 h g H H' := ⟨_, rfl⟩
    refine ⟨J6, ?_, ?_⟩
    · walk_at "f"
      intro E nE
      obtain ⟨ne1, ne2⟩ := pt6.nel nE
      have nME : M ≠ E := by
        obtain ⟨vs, e, _⟩ := mk6
        exact ne_of_none e nE
      subst eJ6
      exact ⟨E, rfl, k6.non pt6 nE, upd_same, ne1, ne2, nME, mk6.same (same1 nE), pt6.up nE, k6.up nE⟩
    rintro σ6 H7 hJ6
    subst eJ6
    obtain ⟨E, rfl, nE, hE, nE1, nE2, nME, mk7, pt7, k7⟩ := hJ6
    clear mk6 pt6 k6
    obtain ⟨J7, eJ7⟩ : ∃ J : L2.St → Hp → Prop, J = fun σ' H' => ∃ (a b : V) (v7 v9 v10 v11 : Option V), σ' = [some (.ref h), some (.int m), some (.str r), some (.int mn), some (.ref P), some sv, some (.ref M), v7, some (.ref E), v9, v10, v11] ∧ H' E = some (.lst [a, b]) ∧ ElV H' a ∧ ElV H' b ∧ MkD H' M ms ∧ PotAt H' h g (n + 32) ∧ Kp2 h g H H' := ⟨_, rfl⟩
    refine ⟨J7, ?_, ?_⟩
    · walk_at "f"
      refine for_range (fun i σ H' => ∃ (es : List V) (v7 v9 v10 v11 : Option V), σ = [some (.ref h), some (.int m), some (.str r), some (.int mn), some (.ref P), some sv, some (.ref M), v7, some (.ref E), v9, v10, v11] ∧ H' E = some (.lst es) ∧ es.length = i ∧ (∀ v ∈ es, ElV H' v) ∧ MkD H' M ms ∧ PotAt H' h g (n + 28 + 2 * i) ∧ Kp2 h g H H') ⟨[], _, _, _, _, rfl, hE, rfl, fun v hv => by simp at hv, mk7, pt7, k7⟩ ?_ ?_
      · rintro i σ HA hi ⟨es, v7, v9, v10, v11, rfl, hEA, le, ae, mk, pt, kk⟩
        have hi2 : i < 2 := hi
        have lgm := lg24 mn1 (by omega)
        walk_at "f"
        intro wy HB wy0 wy1 ptB kB
        have mkB := mk.kp (by omega) pt kB
        walk_at "f"
        intro at0 HC a0 a1 ptC kC
        have mkC := mkB.kp (by omega) ptB kC
        have kAC := kB.trans kC
        have hEC := kAC _ _ hEA nE1 nE2
        have aeC : ∀ v ∈ es, ElV HC v := fun v hv => (ae v hv).nl (pt.nl kAC)
        have kkC := kk.trans kAC
        clear mk mkB ptB pt kB kC kAC ae kk hEA
        obtain ⟨ai, rfl⟩ := Int.eq_ofNat_of_zero_le a0
        obtain ⟨vs, eM, rs, ri, wh⟩ := id mkC
        have lv := rs.1
        obtain ⟨x1, hx1⟩ : ∃ x, ms[ai]? = some x := ⟨_, List.getElem?_eq_getElem (by omega)⟩
        obtain ⟨c1, e1, h1⟩ := rs.2 ai x1 hx1
        have i1 : atI vs (ai : Int) = some (.ref c1) := atI_nat e1
        have w1 := wh ai x1 hx1
        obtain ⟨bi, eb, lb, b2⟩ : ∃ bi : Nat, (if (ai : Int) - 1 > 0 then (ai : Int) - 1 else 0) = (bi : Int) ∧ bi < ms.length ∧ (4 + 3 * bi) * 8797236 ≤ 1000000000 := ⟨ai - 1, by split <;> omega, by omega, Nat.le_trans (Nat.mul_le_mul_right _ (show 4 + 3 * (ai - 1) ≤ 73 by omega)) (Nat.le_of_ble_eq_true rfl)⟩
        obtain ⟨x2, hx2⟩ : ∃ x, ms[bi]? = some x := ⟨_, List.getElem?_eq_getElem lb⟩
        obtain ⟨c2, e2, h2⟩ := rs.2 bi x2 hx2
        have i2 : atI vs (if (ai : Int) - 1 > 0 then (ai : Int) - 1 else 0) = some (.ref c2) := by rw [eb]; exact atI_nat e2
        have w2 := wh bi x2 hx2
        have b1 : (4 + 3 * ai) * 8797236 ≤ 1000000000 := Nat.le_trans (Nat.mul_le_mul_right _ (show 4 + 3 * ai ≤ 73 by omega)) (Nat.le_of_ble_eq_true rfl)
        have eS : HO.tup [V.int (1 - 2 * (0 + (i : Int))), V.int 5] = PR (toR (1 - 2 * (0 + (i : Int)), 5)) := by
          have k1 : (toR (1, 5)).num = 1 ∧ ((toR (1, 5)).den : Int) = 5 := by decide +kernel
          have k2 : (toR (-1, 5)).num = -1 ∧ ((toR (-1, 5)).den : Int) = 5 := by decide +kernel
          obtain rfl | rfl : i = 0 ∨ i = 1 := by omega
          · show HO.tup [V.int 1, V.int 5] = HO.tup [V.int (toR (1, 5)).num, V.int ((toR (1, 5)).den : Int)]
            rw [k1.1, k1.2]
          · show HO.tup [V.int (-1), V.int 5] = HO.tup [V.int (toR (-1, 5)).num, V.int ((toR (-1, 5)).den : Int)]
            rw [k2.1, k2.2]
        have hs1 : (1 - 2 * (0 + (i : Int))).natAbs ≤ 1 := by omega
        have w3 := w1.fifth b1 hs1
        have z3 : SzR 30 (toR (1 - 2 * (0 + (i : Int)), 5)) := szr_of (by decide) (Nat.lt_of_le_of_lt hs1 (by decide)) (by decide)
        have m0 := w1.mid w2 b1 b2
        walk_at "f"
        refine ⟨x1, x2, 30, rfl, h1, h2, w1.sz b1, w2.sz b2, by decide, by decide, fun q1 HD nq1 sD hq1 => ?_⟩
        have eMD := sD _ _ eM
        walk_at "f"
        intro T nT
        have hT : (upd HD T (.tup [V.int (1 - 2 * (0 + (i : Int))), V.int 5])) T = some (.tup [V.int (1 - 2 * (0 + (i : Int))), V.int 5]) := upd_same
        have sT := same1 (u := .tup [V.int (1 - 2 * (0 + (i : Int))), V.int 5]) nT
        generalize upd HD T (.tup [V.int (1 - 2 * (0 + (i : Int))), V.int 5]) = HE at *
        rw [eS] at hT
        have sE := sD.trans sT
        have h1E := sE _ _ h1
        walk_at "f"
        all_goals (try refine ⟨x1, toR (1 - 2 * (0 + (i : Int)), 5), 30, rfl, h1E, hT, w1.sz b1, z3, by decide, by decide, fun q2 HF nq2 sF hq2 => ?_⟩)
        walk_at "f"
        intro L nL
        have sL := sF.trans (same1 (u := .lst [V.ref c1, V.ref q1, V.ref q2]) nL)
        have hL : (upd HF L (.lst [V.ref c1, V.ref q1, V.ref q2])) L = some (.lst [V.ref c1, V.ref q1, V.ref q2]) := upd_same
        have hq2' := up1 (u := .lst [V.ref c1, V.ref q1, V.ref q2]) nL hq2
        generalize upd HF L (.lst [V.ref c1, V.ref q1, V.ref q2]) = HG at *
        have hq1' := (sT.trans sL) _ _ hq1
        have h1' := sL _ _ h1E
        have sCG := sE.trans sL
        have hEG := sCG _ _ hEC
        have ll : es.length < 1000 := by omega
        have fin1 : ∀ v, ElV HG v → ∃ (v7 v9 v10 v11 : Option V), [some (.ref h), some (.int m), some (.str r), some (.int mn), some (.ref P), some sv, some (.ref M), some (.int (0 + (i : Int))), some (.ref E), some (.int wy), some (.int (ai : Int)), some (.ref L)] = [some (.ref h), some (.int m), some (.str r), some (.int mn), some (.ref P), some sv, some (.ref M), v7, some (.ref E), v9, v10, v11] ∧ (upd HG E (.lst (es ++ [v]))) E = some (.lst (es ++ [v])) ∧ (es ++ [v]).length = i + 1 ∧ (∀ u ∈ es ++ [v], ElV (upd HG E (.lst (es ++ [v]))) u) ∧ MkD (upd HG E (.lst (es ++ [v]))) M ms ∧ PotAt (upd HG E (.lst (es ++ [v]))) h g (n + 28 + 2 * (i + 1)) ∧ Kp2 h g H (upd HG E (.lst (es ++ [v]))) := fun v ev => by
          refine ⟨_, _, _, _, rfl, upd_same, by rw [List.length_append, le]; rfl, fun u hu => ?_, (mkC.same sCG).put hEG nME, (((ptC.same sCG).put nE1 nE2).mono (by omega)), (kkC.trans (Kp2.same sCG)).putN nE⟩
          rcases List.mem_append.mp hu with hu | hu
          · exact ((aeC u hu).nl (Nl.of sCG)).nl (Nl.put hEG)
          · rw [List.mem_singleton.mp hu]
            exact ev.nl (Nl.put hEG)
        walk_at "f"
        refine ite2 (fun c => ?_) (fun c => ?_)
        · have cw : wy < 3 := of_decide_eq_true c
          obtain ⟨v, iv, ev⟩ : ∃ v, atI [V.ref c1, V.ref q1, V.ref q2] wy = some v ∧ ElV HG v := by
            obtain rfl | rfl | rfl : wy = 0 ∨ wy = 1 ∨ wy = 2 := by omega
            · exact ⟨_, rfl, .inr ⟨c1, x1, rfl, h1', (w1.sz b1).mono (by decide)⟩⟩
            · exact ⟨_, rfl, .inr ⟨q1, _, rfl, hq1', m0⟩⟩
            · exact ⟨_, rfl, .inr ⟨q2, _, rfl, hq2', w3⟩⟩
          walk_at "f"
          exact fin1 v ev
        · walk_at "f"
          exact fin1 .non (.inl rfl)
      · rintro σ HA ⟨es, v7, v9, v10, v11, rfl, hEA, le, ae, mk, pt, kk⟩
        subst eJ7
        have le2 : es.length = 2 := le
        obtain ⟨a, b, rfl⟩ : ∃ a b, es = [a, b] := by
          match es, le2 with
          | [a, b], _ => exact ⟨a, b, rfl⟩
        exact ⟨a, b, v7, v9, v10, v11, rfl, hEA, ae a (by simp), ae b (by simp), mk, pt, kk⟩
    rintro σ7 H8 hJ7
    subst eJ7
    obtain ⟨a, b, v7, v9, v10, v11, rfl, hE8, ela, elb, mk8, pt8, k8⟩ := hJ7
    clear hE nE1 nE2 nME mk7 pt7 k7
    obtain ⟨J8, eJ8⟩ : ∃ J : L2.St → Hp → Prop, J = fun σ' H' => ∃ (E' : Addr) (a b : V) (lo hi : Option Rat), σ' = [some (.ref h), some (.int m), some (.str r), some (.int mn), some (.ref P), some sv, some (.ref M), v7, some (.ref E'), v9, v10, v11] ∧ H' E' = some (.lst [a, b]) ∧ OP H' a lo ∧ OP H' b hi ∧ ZzO 34 lo ∧ ZzO 34 hi ∧ (∀ x y, lo = some x → hi = some y → x ≤ y) ∧ MkD H' M ms ∧ PotAt H' h g (n + 32) ∧ Kp2 h g H H' := ⟨_, rfl⟩
    refine ⟨J8, ?_, ?_⟩
    · obtain ⟨oa, opa, za⟩ := ela.op
      obtain ⟨ob, opb, zb⟩ := elb.op
      walk_at "f"
      refine notin_ends hE8 opa opb ⟨_, rfl, ?_⟩
      have keep : (∀ x y, oa = some x → ob = some y → x ≤ y) → J8 [some (.ref h), some (.int m), some (.str r), some (.int mn), some (.ref P), some sv, some (.ref M), v7, some (.ref E), v9, v10, v11] H8 := fun sp => by
        subst eJ8
        exact ⟨E, a, b, oa, ob, rfl, hE8, opa, opb, za, zb, sp, mk8, pt8, k8⟩
      cases oa with
      | none =>
        refine ite2 (fun z => by cases z) (fun _ => ?_)
        exact keep (fun x y e => by cases e)
      | some x =>
        cases ob with
        | none =>
          refine ite2 (fun z => by cases z) (fun _ => ?_)
          exact keep (fun x y _ e => by cases e)
        | some y =>
          refine ite2 (fun _ => ?_) (fun z => absurd rfl z)
          obtain ⟨pa, rfl, ha⟩ := opa
          obtain ⟨pb, rfl, hb⟩ := opb
          walk_at "f"
          all_goals (try refine ⟨y, x, 34, rfl, hb, ha, zb _ rfl, za _ rfl, by decide, ?_⟩)
          walk_at "f"
          refine ite2 (fun c => ?_) (fun c => ?_)
          · have lt : y < x := of_decide_eq_true c
            walk_at "f"
            intro R nR
            subst eJ8
            exact ⟨R, .ref pb, .ref pa, some y, some x, rfl, upd_same, ⟨pb, rfl, up1 nR hb⟩, ⟨pa, rfl, up1 nR ha⟩, zb, za, fun u v e1 e2 => by cases e1; cases e2; exact Rat.le_of_lt lt, mk8.same (same1 nR), pt8.up nR, k8.up nR⟩
          · exact keep (fun u v e1 e2 => by cases e1; cases e2; exact Rat.not_lt.mp fun q => c (decide_eq_true q))
    rintro σ8 H9 hJ8
    subst eJ8
    obtain ⟨E', a', b', lo, hi, rfl, hE9, oa, ob, za, zb, span, mk9, pt9, k9⟩ := hJ8
    clear hE8 ela elb mk8 pt8 k8
    obtain ⟨vs, eM, rs, ri, wh⟩ := mk9
    have l0 : 0 < ms.length := by omega
    have l1 : ms.length ≤ 24 := by omega
    walk_at "f"
    intro T nT
    have s1 := same1 (u := .tup [V.ref M, V.str r, a', b']) nT
    refine fin T ⟨ms, r, lo, hi⟩ _ (k9.up nT) ((pt9.up nT).mono (by omega)) ⟨M, a', b', vs, upd_same, s1 _ _ eM, rs.same s1, oa.same s1, ob.same s1⟩ ⟨l0, l1, ri, ru, span⟩ ⟨fun x hx => ?_, za, zb⟩
    obtain ⟨i, hI⟩ := List.mem_iff_getElem?.mp hx
    have li : i < ms.length := (List.getElem?_eq_some_iff.mp hI).1
    exact ((wh i x hI).sz (Nat.le_trans (Nat.mul_le_mul_right _ (show 4 + 3 * i ≤ 73 by omega)) (Nat.le_of_ble_eq_true rfl))).mono (by decide)
theorem ok_l_ladders {P : Program} {w : World} {K : PySem.W.Frag} {mg : Str → Option Value} {base : Heap} {φ : Fds} (T : Txt K mg φ) : FnOk P w K mg base CX0 5 (He.fAd K ("_law_ladders", none)) φ.l_ladders p_l_ladders sp_ladders27 := by
  obtain ⟨_, B0v, B0⟩ := b_l_of_2 T
  obtain ⟨_, B1v, B1⟩ := b_l_scaled_2 T
  obtain ⟨_, B2v, B2⟩ := b_l_drawn_2 T
  refine T.f_l_ladders.ok sc_l_ladders (fun vs H Q E h => ?_) (fun cdv A outer s H vs Q E hr h => ?_)
  · obtain ⟨h, g, n, c, m, rfl, pt, hn, hc, m0, m1, fin⟩ := h; rfl
  · obtain ⟨h, g, n, c, m, rfl, pt, hn, hc, m0, m1, fin⟩ := h
    refine ⟨_, PSs.nox (pss_cons (ps_set (i := 3) sc_l_ladders.nd rfl (Or.inr rfl) (pe_call (ok_l_of (K := K) T) (hr.mono (by decide)) rfl T.g_l_of T.f_l_of.kp B0 B0v pass0 (pa_cons (pv 0) (pa_cons (pe_lst (pa_cons (pe_tup (pa_cons pe_int (pa_cons pe_int pa_nil))) (pa_cons (pe_tup (pa_cons pe_int (pa_cons pe_int pa_nil))) (pa_cons (pe_tup (pa_cons pe_int (pa_cons pe_int pa_nil))) (pa_cons (pe_tup (pa_cons (pe_op op_pow pe_int pe_int) (pa_cons pe_int pa_nil))) (pa_cons (pe_tup (pa_cons pe_int (pa_cons (pe_op op_add (pe_op op_pow pe_int pe_int) pe_int) pa_nil))) pa_nil)))))) pa_nil))))
      (pss_one (ps_ret (pe_lc (own := [("_law_k", 4)]) (g := gName 4) rfl sc_l_ladders.nd (pi_range1 rfl T.z_range (pa_cons (pv 1) pa_nil)) (blkOk_by (own := [("_law_k", 4)]) (N := N_l_ladders) (sc := (defScope s_l_ladders)) (by decide +kernel)) (fun _ _ _ _ _ => (pg_name (i := 4) sc_l_ladders.nd rfl (Or.inl rfl))) (fun _ _ _ _ _ => pts_nil) (fun _ _ _ _ _ => (pe_call (ok_l_scaled (K := K) T) (hr.mono (by decide)) rfl T.g_l_scaled T.f_l_scaled.kp B1 B1v pass0 (pa_cons (pe_call (ok_l_drawn (K := K) T) (hr.mono (by decide)) rfl T.g_l_drawn T.f_l_drawn.kp B2 B2v pass0 (pa_cons (pv 0) (pa_cons (pv 2) pa_nil))) (pa_cons (pv 3) pa_nil)))))))), ?_⟩
    walk_at "w"
    intro p0 np0
    have e0 : (upd H p0 (.tup [V.int 1, V.int 1])) p0 = some (.tup [V.int 1, V.int 1]) := upd_same
    have s0 := same1 (u := .tup [V.int 1, V.int 1]) np0
    generalize upd H p0 (.tup [V.int 1, V.int 1]) = HA0 at *
    walk_at "w"
    intro p1 np1
    have e1 : (upd HA0 p1 (.tup [V.int 1, V.int 1])) p1 = some (.tup [V.int 1, V.int 1]) := upd_same
    have s1 := same1 (u := .tup [V.int 1, V.int 1]) np1
    generalize upd HA0 p1 (.tup [V.int 1, V.int 1]) = HA1 at *
    walk_at "w"
    intro p2 np2
    have e2 : (upd HA1 p2 (.tup [V.int 1, V.int 1])) p2 = some (.tup [V.int 1, V.int 1]) := upd_same
    have s2 := same1 (u := .tup [V.int 1, V.int 1]) np2
    generalize upd HA1 p2 (.tup [V.int 1, V.int 1]) = HA2 at *
    walk_at "w"
    all_goals (try refine ⟨cp30, ?_⟩)
    walk_at "w"
    intro p3 np3
    have e3 : (upd HA2 p3 (.tup [V.int (10 ^ Int.toNat 30), V.int 7])) p3 = some (.tup [V.int (10 ^ Int.toNat 30), V.int 7]) := upd_same
    have s3 := same1 (u := .tup [V.int (10 ^ Int.toNat 30), V.int 7]) np3
    generalize upd HA2 p3 (.tup [V.int (10 ^ Int.toNat 30), V.int 7]) = HA3 at *
    walk_at "w"
    all_goals (try refine ⟨cp30, ?_⟩)
    walk_at "w"
    intro p4 np4
    have e4 : (upd HA3 p4 (.tup [V.int 1, V.int (10 ^ Int.toNat 30 + 57)])) p4 = some (.tup [V.int 1, V.int (10 ^ Int.toNat 30 + 57)]) := upd_same
    have s4 := same1 (u := .tup [V.int 1, V.int (10 ^ Int.toNat 30 + 57)]) np4
    generalize upd HA3 p4 (.tup [V.int 1, V.int (10 ^ Int.toNat 30 + 57)]) = HA4 at *
    walk_at "w"
    have e30 : (10 : Int) ^ Int.toNat 30 = 1000000000000000000000000000000 := by decide +kernel
    have e57 : (10 : Int) ^ Int.toNat 30 + 57 = 1000000000000000000000000000057 := by decide +kernel
    rw [e57] at e4
    rw [e30] at e3
    intro L nL
    have al : ∀ v ∈ [V.ref p0, V.ref p1, V.ref p2, V.ref p3, V.ref p4], ∃ (a : Addr) (q : Rat), v = .ref a ∧ HA4 a = some (PR q) ∧ 0 < q ∧ SzR 106 q := fun v hv => by
      simp only [List.mem_cons, List.not_mem_nil, or_false] at hv
      rcases hv with rfl | rfl | rfl | rfl | rfl
      · exact ⟨p0, (⟨1, 1, by decide, by decide⟩ : Rat), rfl, (((((Same.refl _).trans s1).trans s2).trans s3).trans s4) _ _ e0, by decide +kernel, by decide +kernel, by decide +kernel⟩
      · exact ⟨p1, (⟨1, 1, by decide, by decide⟩ : Rat), rfl, ((((Same.refl _).trans s2).trans s3).trans s4) _ _ e1, by decide +kernel, by decide +kernel, by decide +kernel⟩
      · exact ⟨p2, (⟨1, 1, by decide, by decide⟩ : Rat), rfl, (((Same.refl _).trans s3).trans s4) _ _ e2, by decide +kernel, by decide +kernel, by decide +kernel⟩
      · exact ⟨p3, (⟨1000000000000000000000000000000, 7, by decide, by decide +kernel⟩ : Rat), rfl, ((Same.refl _).trans s4) _ _ e3, by decide +kernel, by decide +kernel, by decide +kernel⟩
      · exact ⟨p4, (⟨1, 1000000000000000000000000000057, by decide, by decide +kernel⟩ : Rat), rfl, (Same.refl _) _ _ e4, by decide +kernel, by decide +kernel, by decide +kernel⟩
    have sA : Same H HA4 := ((((((Same.refl _).trans s0).trans s1).trans s2).trans s3).trans s4)
    have sL := sA.trans (same1 (u := .lst [V.ref p0, V.ref p1, V.ref p2, V.ref p3, V.ref p4]) nL)
    have sL1 := same1 (u := .lst [V.ref p0, V.ref p1, V.ref p2, V.ref p3, V.ref p4]) nL
    have hL : (upd HA4 L (.lst [V.ref p0, V.ref p1, V.ref p2, V.ref p3, V.ref p4])) L = some (.lst [V.ref p0, V.ref p1, V.ref p2, V.ref p3, V.ref p4]) := upd_same
    obtain ⟨ne1, ne2⟩ := (pt.same sA).nel nL
    generalize upd HA4 L (.lst [V.ref p0, V.ref p1, V.ref p2, V.ref p3, V.ref p4]) = HB at *
    have pB := pt.same sL
    refine ⟨h, g, L, n, _, rfl, pB, by omega, SqL.of hL, ne1, ne2, Nat.le_of_ble_eq_true rfl, Nat.le_of_ble_eq_true rfl, fun i v HC hv ptC kC => ?_⟩
    obtain ⟨sa, q, rfl, hq, q0, sq⟩ := al v (List.mem_of_getElem? hv)
    have hqC := pB.get kC (sL1 _ _ hq) rfl
    have kk := (Kp2.same sL).trans kC
    clear al hL pB kC pt sA sL sL1 hq
    walk_at "w"
    intro D nD
    refine lcLd (n := c) (c := 40) (m := n + 1) LdG (fun d q => q.ok.len0) walk_range (fun _ => trivial) (szs (by omega)) ptC nD (fun i x H1 H2 N M hi k1 pt1 yy hN => ?_) (fun H1 ys k1 pt1 hD ly al => fin D ys H1 (kk.non ptC nD) (kk.trans k1) pt1 hD ly al)
    obtain ⟨rfl, rfl⟩ := yy
    refine ⟨rfl, yesT ?_⟩
    have hq1 := ptC.get k1 hqC rfl
    walk_at "w"
    intro p d H3 k3 pt3 hp ok sz
    refine ⟨_, rfl, p, sa, d, q, 106, rfl, hp, pt1.get k3 hq1 rfl, sz.mono (by decide), sq, by decide, by decide, by have := ok.len1; omega, fun t H4 s4 ht => ?_⟩
    exact hN t (d.sc q) H4 (k3.trans (Kp2.same s4)) (pt3.same s4) ht ⟨ok.sc q0, sz.sc sq⟩
theorem ok_l_rising {P : Program} {w : World} {K : PySem.W.Frag} {mg : Str → Option Value} {base : Heap} {φ : Fds} (T : Txt K mg φ) : FnOk P w K mg base CX0 2 (He.fAd K ("_law_rising", none)) φ.l_rising p_l_rising sp_rising36 := by
  obtain ⟨_, B0v, B0⟩ := b_l_less_2 T
  refine T.f_l_rising.ok sc_l_rising (fun vs H Q E h => ?_) (fun cdv A outer s H vs Q E hr h => ?_)
  · obtain ⟨P0, vs0, qs, k, rfl, hP, r0, sz, k1, l9, kk⟩ := h; rfl
  · obtain ⟨P0, vs0, qs, k, rfl, hP, r0, sz, k1, l9, kk⟩ := h
    refine ⟨_, PSs.nox (pss_cons (ps_set (i := 1) sc_l_rising.nd rfl (Or.inl rfl) (pe_lst pa_nil))
      (pss_cons (ps_for PassesOwn.never rfl (pi_list (pv 0)) (pg_name (i := 2) sc_l_rising.nd rfl (Or.inr rfl))
      (pss_cons (ps_set (i := 3) sc_l_rising.nd rfl (Or.inl rfl) (pe_callB (id := "len") (lenS (K := K)) (by rfl) T.z_len PySem.boot_len (pa_cons (pe_lc (own := [("_law_one", 4)]) (g := gName 4) rfl sc_l_rising.nd (pi_list (pv 1)) (blkOk_by (own := [("_law_one", 4)]) (N := N_l_rising) (sc := (defScope s_l_rising)) (by decide +kernel)) (fun _ _ _ _ _ => (pg_name (i := 4) sc_l_rising.nd rfl (Or.inl rfl))) (fun _ _ _ _ _ => (pts_one (pt_val (pe_call (ok_l_less (K := K) T) (hr.mono (by decide)) rfl T.g_l_less T.f_l_less.kp B0 B0v pass0 (pa_cons (pv 4) (pa_cons (pv 2) pa_nil)))))) (fun _ _ _ _ _ => (pv 4))) pa_nil)))
      (pss_one (ps_if (pt_cmpR (notInDK (K := K) (rm65 hr)) (pv 2) (pv 1) (by rfl))
      (pss_one (ps_expr (pe_bm PySem.F.plainAttrs_list PySem.F.slot_list_insert PySem.F.type_list_insert mt_insert (pv 1) (pa_cons (pv 3) (pa_cons (pv 2) pa_nil)))))
      pss_nil))))
      (pss_one (ps_ret (pv 1))))), ?_⟩
    have lq := r0.1
    have hPS := SqL.of (K := K) hP
    walk_at "f"
    intro D nD
    have hD : (upd H D (.lst [])) D = some (.lst []) := upd_same
    have sD := same1 (u := .lst []) nD
    have ne : ∀ b o, H b = some o → b ≠ D := fun b o e => ne_of_none e nD
    generalize upd H D (.lst []) = H1 at *
    have hP1 := sD _ _ hP
    walk_at "f"
    refine for_it (walk_list (K := K) (a := P0) (xs := vs0)) (fun i σ H' => ∃ (ws : List V) (ss : List Rat) (v2 v3 : Option V), σ = [some (.ref P0), some (.ref D), v2, v3, none] ∧ Same H H' ∧ H' D = some (.lst ws) ∧ RsV H' ws ss ∧ ss.Pairwise (· < ·) ∧ (∀ x, x ∈ ss ↔ ∃ j, j < i ∧ qs[j]? = some x) ∧ ss.length ≤ i) ?_ (fun i σ H' _ p => ?_) ?_ ?_
    · exact ⟨[], [], _, _, rfl, sD, hD, RsV.none, List.Pairwise.nil, fun x => ⟨fun h => by simp at h, fun ⟨j, h, _⟩ => absurd h (Nat.not_lt_zero _)⟩, Nat.zero_le _⟩
    · obtain ⟨_, _, _, _, _, s, _⟩ := p
      exact SqL.of (s _ _ hP)
    · rintro i x σ H2 H2' hi ⟨ws, ss, v2, v3, rfl, s2, hD2, rs, pw, mem, ls⟩ yy
      obtain ⟨rfl, hx⟩ := yy
      obtain ⟨q, hq⟩ : ∃ q, qs[i]? = some q := ⟨_, List.getElem?_eq_getElem (by omega)⟩
      obtain ⟨a, ea, ha⟩ := r0.2 i q hq
      rw [ea] at hx
      cases hx
      have ha2 := s2 _ _ ha
      have sq := sz q (List.mem_of_getElem? hq)
      have ss_sz : ∀ s ∈ ss, SzR k s := fun s hs => by
        obtain ⟨j, _, hj⟩ := (mem s).mp hs
        exact sz s (List.mem_of_getElem? hj)
      have lw := rs.1
      have hDS := SqL.of (K := K) hD2
      show tSeq _ _ _ _ _
      refine ends_gen rfl fun DE eDE => ?_
      walk_at "f"
      intro E nE
      refine lcz (n := ws.length) walk_list (fun _ _ g s => s.seq g) (optR q ws ss) (optR_len lw) (szs (by omega)) hDS nE (fun j x H3 H4 o N M hj ho s3 yy hN hM => ?_) (fun H3 s3 hE => ?_)
      · obtain ⟨rfl, hx2⟩ := yy
        obtain ⟨y, hy⟩ : ∃ y, ss[j]? = some y := ⟨_, List.getElem?_eq_getElem (by omega)⟩
        obtain ⟨b, eb, hb⟩ := rs.2 j y hy
        rw [eb] at hx2
        cases hx2
        rw [optR_get eb hy] at ho
        have ho : (if y < q then some (V.ref b) else none) = o := Option.some.inj ho
        have sy := ss_sz y (List.mem_of_getElem? hy)
        refine ⟨rfl, ?_⟩
        refine ⟨_, rfl, _, rfl, b, a, y, q, k, rfl, s3 _ _ hb, s3 _ _ ha2, sy, sq, k1, ?_⟩
        refine ⟨_, rfl, ?_⟩
        show (if _ = true then _ else _)
        by_cases c : y < q
        · rw [if_pos (decide_eq_true c)]
          exact ⟨_, rfl, hN _ _ (by rw [← ho, if_pos c]) (Same.refl _)⟩
        · rw [if_neg (fun z => c (of_decide_eq_true z))]
          exact hM _ (by rw [← ho, if_neg c]) (Same.refl _)
      have ec := optR_cnt (q := q) lw
      have hES := SqL.of (K := K) hE
      have s23 := s2.trans s3
      have hD3 := s3 _ _ hD2
      have rs3 := rs.same s3
      have ha3 := s3 _ _ ha2
      have cl := cntR_le ss q
      walk_at "f"
      refine ⟨intsD [q.num, (q.den : Int)], _, dpT (zs := [q.num, (q.den : Int)]) ha3, RsV.dp hD3 rs3, shInts _, shRows (fun q : Rat => [q.num, (q.den : Int)]) ss, _, rfl, ?_⟩
      rw [any_rats, ec]
      show (if _ = true then _ else _)
      by_cases c : q ∈ ss
      · rw [if_neg (by simp [c])]
        show DE.nx _ _
        rw [eDE]
        refine ⟨ws, ss, _, _, rfl, s23, hD3, rs3, pw, fun x => ?_, by omega⟩
        rw [mem x]
        constructor
        · rintro ⟨j, h, e⟩
          exact ⟨j, by omega, e⟩
        · rintro ⟨j, h, e⟩
          by_cases ej : j = i
          · subst ej
            rw [hq] at e
            cases e
            exact (mem _).mp c
          · exact ⟨j, by omega, e⟩
      · rw [if_pos (by simp [c])]
        walk_at "f"
        show DE.nx _ _
        rw [eDE]
        rw [show ((cntR ss q : Nat) : Int).toNat = cntR ss q from Int.toNat_natCast _]
        have nl3 : Nl H3 (upd H3 D (.lst (ws.take (cntR ss q) ++ [V.ref a] ++ ws.drop (cntR ss q)))) := Nl.put hD3
        refine ⟨_, insR ss q, _, _, rfl, fun b o e => ?_, upd_same, (rs3.insr ha3).nl nl3, insR_pw pw c, fun x => ?_, ?_⟩
        · rw [upd_ne (ne b o e)]
          exact s23 _ _ e
        · rw [insR_mem, mem x]
          constructor
          · rintro (⟨j, h, e⟩ | rfl)
            · exact ⟨j, by omega, e⟩
            · exact ⟨i, by omega, hq⟩
          · rintro ⟨j, h, e⟩
            by_cases ej : j = i
            · subst ej
              rw [hq] at e
              cases e
              exact .inr rfl
            · exact .inl ⟨j, by omega, e⟩
        · unfold insR
          rw [List.length_append, List.length_append, List.length_take, List.length_drop, List.length_singleton]
          omega
    · rintro σ H2 ⟨ws, ss, v2, v3, rfl, s2, hD2, rs, pw, mem, ls⟩
      walk_at "f"
      refine kk D ws ss H2 s2 hD2 rs pw (fun x => ?_) (by omega)
      rw [mem x]
      constructor
      · rintro ⟨j, _, h⟩
        exact List.mem_of_getElem? h
      · intro h
        obtain ⟨j, hj⟩ := List.mem_iff_getElem?.mp h
        exact ⟨j, by have := (List.getElem?_eq_some_iff.mp hj).1; omega, hj⟩
theorem ok_l_tried {P : Program} {w : World} {K : PySem.W.Frag} {mg : Str → Option Value} {base : Heap} {φ : Fds} (T : Txt K mg φ) : FnOk P w K mg base CX0 4 (He.fAd K ("_law_tried", none)) φ.l_tried p_l_tried (sp_tried36 (He.ga K "Measure")) := by
  obtain ⟨_, B0v, B0⟩ := b_l_mid_2 T
  obtain ⟨_, B1v, B1⟩ := b_l_rising_1 T
  obtain ⟨_, B2v, B2⟩ := b_l_plus_2 T
  obtain ⟨_, B3v, B3⟩ := b_Measure_init_3 T
  refine T.f_l_tried.ok sc_l_tried (fun vs H Q E h => ?_) (fun cdv A outer s H vs Q E hr h => ?_)
  · obtain ⟨P, ps, ds, rfl, hP, lps, al, l0, l5, kk⟩ := h; rfl
  · obtain ⟨P, ps, ds, rfl, hP, lps, al, l0, l5, kk⟩ := h
    refine ⟨_, PSs.nox (pss_cons (ps_set (i := 1) sc_l_tried.nd rfl (Or.inl rfl) (pe_lst pa_nil))
      (pss_cons (ps_for PassesOwn.never rfl (pi_list (pv 0)) (pg_tup rfl (pgs_cons (pg_name (i := 2) sc_l_tried.nd rfl (Or.inl rfl)) (pgs_cons (pg_name (i := 3) sc_l_tried.nd rfl (Or.inl rfl)) (pgs_cons (pg_name (i := 4) sc_l_tried.nd rfl (Or.inl rfl)) (pgs_cons (pg_name (i := 5) sc_l_tried.nd rfl (Or.inl rfl)) pgs_nil)))))
      (pss_cons (ps_set (i := 1) sc_l_tried.nd rfl (Or.inl rfl) (pe_op op_cat (pe_op op_cat (pv 1) (pv 2)) (pe_lc (own := [("_law_low", 7), ("_law_high", 8)]) (g := gTup K 2 (gCons (gName 7) (gCons (gName 8) (gNil)))) rfl sc_l_tried.nd (RZ.pi_zipA (by rfl) T.z_zip (pa_cons (pv 2) (pa_cons (pe_slice (slL (K := K)) (pv 2) (po_some pe_int) po_none) pa_nil))) (blkOk_by (own := [("_law_low", 7), ("_law_high", 8)]) (N := N_l_tried) (sc := (defScope s_l_tried)) (by decide +kernel)) (fun _ _ _ _ _ => (pg_tup rfl (pgs_cons (pg_name (i := 7) sc_l_tried.nd rfl (Or.inl rfl)) (pgs_cons (pg_name (i := 8) sc_l_tried.nd rfl (Or.inl rfl)) pgs_nil)))) (fun _ _ _ _ _ => pts_nil) (fun _ _ _ _ _ => (pe_call (ok_l_mid (K := K) T) (hr.mono (by decide)) rfl T.g_l_mid T.f_l_mid.kp B0 B0v pass0 (pa_cons (pv 7) (pa_cons (pv 8) pa_nil)))))))
      (pss_one (ps_set (i := 1) sc_l_tried.nd rfl (Or.inl rfl) (pe_op op_cat (pv 1) (pe_lc (own := [("_law_end", 9)]) (g := gName 9) rfl sc_l_tried.nd (pi_tup (pe_tup (pa_cons (pv 4) (pa_cons (pv 5) pa_nil)))) (blkOk_by (own := [("_law_end", 9)]) (N := N_l_tried) (sc := (defScope s_l_tried)) (by decide +kernel)) (fun _ _ _ _ _ => (pg_name (i := 9) sc_l_tried.nd rfl (Or.inl rfl))) (fun _ _ _ _ _ => (pts_one (pt_cmpR op_notN (pv 9) pe_non (nomark _)))) (fun _ _ _ _ _ => (pv 9))))))))
      (pss_cons (ps_set (i := 1) sc_l_tried.nd rfl (Or.inl rfl) (pe_call (ok_l_rising (K := K) T) (hr.mono (by decide)) rfl T.g_l_rising T.f_l_rising.kp B1 B1v pass0 (pa_cons (pv 1) pa_nil)))
      (pss_cons (ps_set (i := 6) sc_l_tried.nd rfl (Or.inl rfl) (pe_op op_cat (pv 1) (pe_lc (own := [("_law_low", 7), ("_law_high", 8)]) (g := gTup K 2 (gCons (gName 7) (gCons (gName 8) (gNil)))) rfl sc_l_tried.nd (RZ.pi_zipA (by rfl) T.z_zip (pa_cons (pv 1) (pa_cons (pe_slice (slL (K := K)) (pv 1) (po_some pe_int) po_none) pa_nil))) (blkOk_by (own := [("_law_low", 7), ("_law_high", 8)]) (N := N_l_tried) (sc := (defScope s_l_tried)) (by decide +kernel)) (fun _ _ _ _ _ => (pg_tup rfl (pgs_cons (pg_name (i := 7) sc_l_tried.nd rfl (Or.inl rfl)) (pgs_cons (pg_name (i := 8) sc_l_tried.nd rfl (Or.inl rfl)) pgs_nil)))) (fun _ _ _ _ _ => pts_nil) (fun _ _ _ _ _ => (pe_call (ok_l_mid (K := K) T) (hr.mono (by decide)) rfl T.g_l_mid T.f_l_mid.kp B0 B0v pass0 (pa_cons (pv 7) (pa_cons (pv 8) pa_nil)))))))
      (pss_cons (ps_set (i := 6) sc_l_tried.nd rfl (Or.inl rfl) (pe_op op_cat (pv 6) (pe_lst (pa_cons (pe_call (ok_l_plus (K := K) T) (hr.mono (by decide)) rfl T.g_l_plus T.f_l_plus.kp B2 B2v pass0 (pa_cons (pe_ix (ixl (K := K)) (pv 1) pe_int (fun _ _ => rfl)) (pa_cons (pe_tup (pa_cons (pe_un un_neg pe_int) (pa_cons pe_int pa_nil))) pa_nil))) (pa_cons (pe_call (ok_l_plus (K := K) T) (hr.mono (by decide)) rfl T.g_l_plus T.f_l_plus.kp B2 B2v pass0 (pa_cons (pe_ix (ixl (K := K)) (pv 1) (pe_un un_neg pe_int) (fun _ _ => rfl)) (pa_cons (pe_tup (pa_cons pe_int (pa_cons pe_int pa_nil))) pa_nil))) pa_nil)))))
      (pss_one (ps_ret (pe_lc (own := [("_law_top", 10), ("_law_bottom", 11)]) (g := gTup K 2 (gCons (gName 10) (gCons (gName 11) (gNil)))) rfl sc_l_tried.nd (pi_list (pv 6)) (blkOk_by (own := [("_law_top", 10), ("_law_bottom", 11)]) (N := N_l_tried) (sc := (defScope s_l_tried)) (by decide +kernel)) (fun _ _ _ _ _ => (pg_tup rfl (pgs_cons (pg_name (i := 10) sc_l_tried.nd rfl (Or.inl rfl)) (pgs_cons (pg_name (i := 11) sc_l_tried.nd rfl (Or.inl rfl)) pgs_nil)))) (fun _ _ _ _ _ => pts_nil) (fun _ _ _ _ _ => (pe_make T.mk_Measure (ok_Measure_init (K := K) T) (hr.mono (by decide)) rfl T.g_Measure B3 B3v pass0 (pa_cons (pv 10) (pa_cons (pv 11) pa_nil)))))))))))), ?_⟩
    have hPS := SqL.of (K := K) hP
    walk_at "f"
    intro B0 nB0
    have hB0 : (upd H B0 (.lst [])) B0 = some (.lst []) := upd_same
    have sB0 := same1 (u := .lst []) nB0
    generalize upd H B0 (.lst []) = H2 at *
    have hPS2 := sB0.seq hPS
    have lfa : ∀ n, (flatE (ds.take n)).length ≤ 250 := fun n => by
      have h1 : ∀ l : List LD, (∀ x ∈ l, LdG x) → (flatE l).length ≤ 50 * l.length := fun l => by
        induction l with
        | nil => exact fun _ => Nat.le_refl _
        | cons x t ih =>
          intro h
          have e1 := ends_len (d := x)
          have e2 := (h x (by simp)).ok.len1
          have e3 := ih fun y hy => h y (List.mem_cons_of_mem _ hy)
          have e4 : (flatE (x :: t)).length = (endsR x).length + (flatE t).length := by
            unfold flatE
            rw [List.map_cons, List.flatten_cons, List.length_append]
          rw [e4, List.length_cons]
          omega
      have h2 := h1 (ds.take n) fun x hx => by
        obtain ⟨j, hj⟩ := List.mem_iff_getElem?.mp (List.mem_of_mem_take hx)
        exact (al j x hj).choose_spec.2.2
      have h3 : (ds.take n).length ≤ 5 := by
        rw [List.length_take]
        omega
      omega
    clear nB0
    walk_at "f"
    refine ⟨⟨ps, hPS2⟩, ?_⟩
    refine for_it (walk_list (K := K) (a := P) (xs := ps)) (fun i σ H' => ∃ (B : Addr) (ws : List V) (v2 v3 v4 v5 : Option V), σ = [some (.ref P), some (.ref B), v2, v3, v4, v5, none, none, none, none, none, none] ∧ Same H2 H' ∧ H' B = some (.lst ws) ∧ RsV H' ws (flatE (ds.take i))) ?_ (fun i σ H' _ p => ?_) ?_ ?_
    · exact ⟨B0, [], _, _, _, _, rfl, Same.refl _, hB0, RsV.none⟩
    · obtain ⟨_, _, _, _, _, _, _, s, _⟩ := p
      exact s.seq hPS2
    · rintro i x σ H3 H3' hi ⟨B, ws, v2, v3, v4, v5, rfl, s3, hB, rs⟩ yy
      obtain ⟨rfl, hx⟩ := yy
      obtain ⟨dd, hdd⟩ : ∃ d, ds[i]? = some d := ⟨_, List.getElem?_eq_getElem (by omega)⟩
      obtain ⟨pp, epp, hpp, gdd⟩ := al i dd hdd
      rw [epp] at hx
      cases hx
      have edd : ds.take (i + 1) = ds.take i ++ [dd] := by
        rw [List.take_succ, hdd]
        rfl
      have lfl := lfa i
      have s03 := sB0.trans s3
      obtain ⟨M, u, w', vs, h1, h2, rm, h4, h5⟩ := (hpp.same s03).ob
      have l24 := gdd.ok.len1
      have lm := rm.1
      have lws := rs.1
      refine ⟨pp, _, rfl, SqT.of h1, rfl, _, _, rfl, _, _, rfl, _, _, rfl, _, _, rfl, rfl, ?_⟩
      show tSeq _ _ _ _ _
      refine ends_gen rfl fun DE eDE => ?_
      walk_at "f"
      intro C1 nC1
      have hC1 : (upd H3' C1 (.lst (ws ++ vs))) C1 = some (.lst (ws ++ vs)) := upd_same
      have sC1 := same1 (u := .lst (ws ++ vs)) nC1
      have rC1 := (rs.app rm).same sC1
      have h21 := sC1 _ _ h2
      have rm1 := rm.same sC1
      have h41 := h4.same sC1
      have h51 := h5.same sC1
      have s31 := s3.trans sC1
      generalize upd H3' C1 (.lst (ws ++ vs)) = HC at *
      walk_at "f"
      intro SL1 nSL1
      have ed1 : cutV vs (some 1) none = vs.drop 1 := cutV_drop vs (n := 1) rfl
      rw [ed1]
      have hSL1 : (upd HC SL1 (.lst (vs.drop 1))) SL1 = some (.lst (vs.drop 1)) := upd_same
      have sS1 := same1 (u := .lst (vs.drop 1)) nSL1
      have hLL1 := sS1 _ _ h21
      have rr1 := rm1.same sS1
      generalize upd HC SL1 (.lst (vs.drop 1)) = HS1 at *
      refine ⟨M, SL1, _, _, rfl, .inl ⟨SqL.of hLL1, SqL.of hSL1, fun DM1 nDM1 => ?_⟩⟩
      have lvm1 : vs.length = dd.ms.length := rr1.1
      refine lcr (n := dd.ms.length - 1) (walk_zip (n := dd.ms.length - 1) (xs := vs) (ys := vs.drop 1) (by rw [List.length_drop]; omega)) (fun _ _ g s => ⟨s.seq g.1, s.seq g.2⟩) (fun i H v => ∃ (a : Addr) (x : Rat), v = .ref a ∧ (midsR dd.ms)[i]? = some x ∧ H a = some (PR x)) (fun i H H' v ⟨a, x, e1, e2, e3⟩ n => ⟨a, x, e1, e2, n _ _ e3 rfl⟩) (szs (by omega)) ⟨SqL.of hLL1, SqL.of hSL1⟩ nDM1 (fun j x HA HB N M2 hj sA yy hN => ?_) (fun HM1 ys1 sM1 hDM1 ly1 hy1 => ?_)
      · obtain ⟨t, x1, x2, rfl, nt, rfl, ha, hb⟩ := yy
        obtain ⟨a1, ha1⟩ : ∃ a, dd.ms[j]? = some a := ⟨_, List.getElem?_eq_getElem (by omega)⟩
        obtain ⟨a2, ha2⟩ : ∃ a, dd.ms[j + 1]? = some a := ⟨_, List.getElem?_eq_getElem (by omega)⟩
        obtain ⟨c1, e1, g1⟩ := rr1.2 j a1 ha1
        obtain ⟨c2, e2, g2⟩ := rr1.2 (j + 1) a2 ha2
        have ha : vs[j]? = some x1 := ha
        have hb : (vs.drop 1)[j]? = some x2 := hb
        rw [List.getElem?_drop, Nat.add_comm, e2] at hb
        rw [e1] at ha
        cases ha
        cases hb
        have st := same1 (u := .tup [V.ref c1, V.ref c2]) nt
        have ht : (upd HA t (.tup [V.ref c1, V.ref c2])) t = some (.tup [V.ref c1, V.ref c2]) := upd_same
        generalize upd HA t (.tup [V.ref c1, V.ref c2]) = HB at *
        refine ⟨t, _, rfl, SqT.of ht, rfl, _, _, rfl, _, _, rfl, rfl, rfl, yesT ?_⟩
        refine ⟨_, rfl, _, rfl, c1, c2, a1, a2, 140, rfl, (sA.trans st) _ _ g1, (sA.trans st) _ _ g2, gdd.sz.1 _ (List.mem_of_getElem? ha1), gdd.sz.1 _ (List.mem_of_getElem? ha2), by decide, by decide, fun p5 H5 np s5 hp5 => ?_⟩
        exact hN _ _ (st.trans s5) ⟨p5, _, rfl, mids_get ha1 ha2, hp5⟩
      have rm1 : RsV HM1 ys1 (midsR dd.ms) := rsv_of (by rw [mids_len]; omega) hy1
      have sCM := sS1.trans sM1
      have hCM := sCM _ _ hC1
      have rCM := rC1.same sCM
      have lys := rm1.1
      refine ⟨C1, DM1, ws ++ vs, ys1, rfl, rfl, hCM, hDM1, szl (by rw [List.length_append]; omega), fun C2 nC2 => ?_⟩
      have hC2 : (upd HM1 C2 (.lst (ws ++ vs ++ ys1))) C2 = some (.lst (ws ++ vs ++ ys1)) := upd_same
      have sC2 := same1 (u := .lst (ws ++ vs ++ ys1)) nC2
      have rC2 := (rCM.app rm1).same sC2
      have h42 := (h41.same sCM).same sC2
      have h52 := (h51.same sCM).same sC2
      have s32 := (s31.trans sCM).trans sC2
      generalize upd HM1 C2 (.lst (ws ++ vs ++ ys1)) = HD at *
      walk_at "f"
      intro T3 nT3
      have hT3 : (upd HD T3 (.tup [u, w'])) T3 = some (.tup [u, w']) := upd_same
      have sT3 := same1 (u := .tup [u, w']) nT3
      have hC23 := sT3 _ _ hC2
      have rC23 := rC2.same sT3
      have h43 := h42.same sT3
      have h53 := h52.same sT3
      have s33 := s32.trans sT3
      generalize upd HD T3 (.tup [u, w']) = HE at *
      have sT3T := SqT.of (K := K) hT3
      clear hT3 sT3 h42 h52 h41 h51 hC2 rC2 s32 hy1 hDM1
      walk_at "f"
      refine ⟨⟨_, sT3T⟩, fun DL nDL => ?_⟩
      refine lcz (n := 2) (walk_tup (xs := [u, w'])) (fun _ _ g s => s.sqt g) [optO dd.lo u, optO dd.hi w'] rfl (szs (Nat.le_of_ble_eq_true rfl)) sT3T nDL (fun j x HA HB z N M2 hj hz sA yy hN hM => ?_) (fun HF sF hDL => ?_)
      · obtain ⟨rfl, hx⟩ := yy
        obtain ⟨o, op, eo⟩ : ∃ o, OP HE x o ∧ z = optO o x := by
          rcases j with _ | _ | j
          · cases hx
            cases hz
            exact ⟨_, h43, rfl⟩
          · cases hx
            cases hz
            exact ⟨_, h53, rfl⟩
          · omega
        subst eo
        refine ⟨rfl, _, rfl, rfl, _, rfl, ?_⟩
        show if (!decide (x = V.non)) = true then _ else _
        cases o with
        | none =>
          cases op
          exact hM _ rfl (Same.refl _)
        | some y =>
          obtain ⟨a, rfl, _⟩ := op
          exact ⟨_, rfl, hN _ _ rfl (Same.refl _)⟩
      have rO := (optO_rsv h43 h53).same sF
      have lO : ([optO dd.lo u, optO dd.hi w'].filterMap _root_.id).length ≤ 2 := by
        rw [rO.1, List.length_append]
        have e1 : dd.lo.toList.length ≤ 1 := by cases dd.lo <;> simp
        have e2 : dd.hi.toList.length ≤ 1 := by cases dd.hi <;> simp
        omega
      have rA := (rC23.same sF).app rO
      have hC24 := sF _ _ hC23
      have lyy : ys1.length = dd.ms.length - 1 := by rw [rm1.1, mids_len]
      refine ⟨C2, DL, _, _, rfl, rfl, hC24, hDL, szl (by rw [List.length_append, List.length_append]; omega), fun C3 nC3 => ?_⟩
      show DE.nx _ _
      rw [eDE]
      refine ⟨C3, _, _, _, _, _, rfl, (s33.trans sF).trans (same1 nC3), upd_same, ?_⟩
      rw [edd, flatE_snoc]
      have ea : flatE (ds.take i) ++ endsR dd = flatE (ds.take i) ++ dd.ms ++ midsR dd.ms ++ (dd.lo.toList ++ dd.hi.toList) := by
        unfold endsR
        simp [List.append_assoc]
      rw [ea]
      exact rA.same (same1 nC3)
    · rintro σ H3 ⟨B, ws, v2, v3, v4, v5, rfl, s3, hB, rs⟩
      rw [show ds.take ps.length = ds by rw [lps, List.take_length]] at rs
      have lE : (flatE ds).length ≤ 250 := by
        have := lfa ds.length
        rwa [List.take_length] at this
      have memE : ∀ x, x ∈ flatE ds ↔ ∃ d ∈ ds, x ∈ endsR d := fun x => by
        unfold flatE
        rw [List.mem_flatten]
        constructor
        · rintro ⟨l, hl, h⟩
          obtain ⟨d, hd, rfl⟩ := List.mem_map.mp hl
          exact ⟨d, hd, h⟩
        · rintro ⟨d, hd, h⟩
          exact ⟨_, List.mem_map.mpr ⟨d, hd, rfl⟩, h⟩
      have szE : ∀ x ∈ flatE ds, SzR 283 x := fun x hx => by
        obtain ⟨d, hd, h⟩ := (memE x).mp hx
        obtain ⟨j, hj⟩ := List.mem_iff_getElem?.mp hd
        exact ends_sz (al j d hj).choose_spec.2.2.sz x h
      have s23 := s3
      walk_at "f"
      all_goals (try refine ⟨flatE ds, 283, rfl, hB, rs, szE, by decide, by omega, fun D1 ws1 ss H4 s4 hD1 r1 pw mem ls => ?_⟩)
      have szS : ∀ x ∈ ss, SzR 283 x := fun x hx => szE x ((mem x).mp hx)
      have l0 : 0 < ss.length := by
        obtain ⟨d, hd⟩ : ∃ d, ds[0]? = some d := ⟨_, List.getElem?_eq_getElem l0⟩
        have h0 := (al 0 d hd).choose_spec.2.2.ok.len0
        obtain ⟨x, hx⟩ : ∃ x, d.ms[0]? = some x := ⟨_, List.getElem?_eq_getElem h0⟩
        exact List.length_pos_of_mem ((mem x).mpr ((memE x).mpr ⟨d, List.mem_of_getElem? hd, ends_all (.inl (List.mem_of_getElem? hx))⟩))
      have lw1 := r1.1
      clear hB rs s3
      walk_at "f"
      intro SL2 nSL2
      have ed2 : cutV ws1 (some 1) none = ws1.drop 1 := cutV_drop ws1 (n := 1) rfl
      rw [ed2]
      have hSL2 : (upd H4 SL2 (.lst (ws1.drop 1))) SL2 = some (.lst (ws1.drop 1)) := upd_same
      have sS2 := same1 (u := .lst (ws1.drop 1)) nSL2
      have hLL2 := sS2 _ _ hD1
      have rr2 := r1.same sS2
      generalize upd H4 SL2 (.lst (ws1.drop 1)) = HS2 at *
      refine ⟨D1, SL2, _, _, rfl, .inl ⟨SqL.of hLL2, SqL.of hSL2, fun DM2 nDM2 => ?_⟩⟩
      have lvm2 : ws1.length = ss.length := rr2.1
      refine lcr (n := ss.length - 1) (walk_zip (n := ss.length - 1) (xs := ws1) (ys := ws1.drop 1) (by rw [List.length_drop]; omega)) (fun _ _ g s => ⟨s.seq g.1, s.seq g.2⟩) (fun i H v => ∃ (a : Addr) (x : Rat), v = .ref a ∧ (midsR ss)[i]? = some x ∧ H a = some (PR x)) (fun i H H' v ⟨a, x, e1, e2, e3⟩ n => ⟨a, x, e1, e2, n _ _ e3 rfl⟩) (szs (by omega)) ⟨SqL.of hLL2, SqL.of hSL2⟩ nDM2 (fun j x HA HB N M2 hj sA yy hN => ?_) (fun HM2 ys2 sM2 hDM2 ly2 hy2 => ?_)
      · obtain ⟨t, x1, x2, rfl, nt, rfl, ha, hb⟩ := yy
        obtain ⟨a1, ha1⟩ : ∃ a, ss[j]? = some a := ⟨_, List.getElem?_eq_getElem (by omega)⟩
        obtain ⟨a2, ha2⟩ : ∃ a, ss[j + 1]? = some a := ⟨_, List.getElem?_eq_getElem (by omega)⟩
        obtain ⟨c1, e1, g1⟩ := rr2.2 j a1 ha1
        obtain ⟨c2, e2, g2⟩ := rr2.2 (j + 1) a2 ha2
        have ha : ws1[j]? = some x1 := ha
        have hb : (ws1.drop 1)[j]? = some x2 := hb
        rw [List.getElem?_drop, Nat.add_comm, e2] at hb
        rw [e1] at ha
        cases ha
        cases hb
        have st := same1 (u := .tup [V.ref c1, V.ref c2]) nt
        have ht : (upd HA t (.tup [V.ref c1, V.ref c2])) t = some (.tup [V.ref c1, V.ref c2]) := upd_same
        generalize upd HA t (.tup [V.ref c1, V.ref c2]) = HB at *
        refine ⟨t, _, rfl, SqT.of ht, rfl, _, _, rfl, _, _, rfl, rfl, rfl, yesT ?_⟩
        refine ⟨_, rfl, _, rfl, c1, c2, a1, a2, 283, rfl, (sA.trans st) _ _ g1, (sA.trans st) _ _ g2, szS _ (List.mem_of_getElem? ha1), szS _ (List.mem_of_getElem? ha2), by decide, by decide, fun p5 H5 np s5 hp5 => ?_⟩
        exact hN _ _ (st.trans s5) ⟨p5, _, rfl, mids_get ha1 ha2, hp5⟩
      have rm2 : RsV HM2 ys2 (midsR ss) := rsv_of (by rw [mids_len]; omega) hy2
      have sSM := sS2.trans sM2
      have hDd := sSM _ _ hD1
      have rD := r1.same sSM
      have lmd : ys2.length = ss.length - 1 := by rw [rm2.1, mids_len]
      obtain ⟨a, ha⟩ : ∃ a, ss[0]? = some a := ⟨_, List.getElem?_eq_getElem l0⟩
      obtain ⟨b, hb⟩ : ∃ b, ss[ss.length - 1]? = some b := ⟨_, List.getElem?_eq_getElem (by omega)⟩
      obtain ⟨a0, ea, ga⟩ := rD.2 0 a ha
      obtain ⟨b0, eb, gb⟩ := rD.2 _ b hb
      have sza := szS a (List.mem_of_getElem? ha)
      have szb' := szS b (List.mem_of_getElem? hb)
      have i0 : atI ws1 0 = some (.ref a0) := atI_nat (j := 0) ea
      have i1 : atI ws1 (-1) = some (.ref b0) := atI_end (n := ss.length - 1) (by omega) eb
      have sAll := (s23.trans s4).trans sSM
      clear hy2 hLL2 hSL2 rr2
      refine ⟨D1, DM2, ws1, ys2, rfl, rfl, hDd, hDM2, szl (by omega), fun C4 nC4 => ?_⟩
      have sC4 := same1 (u := .lst (ws1 ++ ys2)) nC4
      have hC4 : (upd HM2 C4 (.lst (ws1 ++ ys2))) C4 = some (.lst (ws1 ++ ys2)) := upd_same
      have hD4 := sC4 _ _ hDd
      have rC4 := (rD.app rm2).same sC4
      have ga4 := sC4 _ _ ga
      have gb4 := sC4 _ _ gb
      generalize upd HM2 C4 (.lst (ws1 ++ ys2)) = HG at *
      have hDS4 := SqL.of (K := K) hD4
      have szm : SzR 283 (-1 : Rat) := ⟨by decide +kernel, by decide +kernel⟩
      have szo : SzR 283 (1 : Rat) := ⟨by decide +kernel, by decide +kernel⟩
      walk_at "f"
      intro T5 nT5
      have h55 : (upd HG T5 (.tup [V.int (-1), V.int 1])) T5 = some (PR (-1 : Rat)) := upd_same
      have sT5 := same1 (u := .tup [V.int (-1), V.int 1]) nT5
      refine ⟨a0, T5, a, -1, 283, rfl, sT5 _ _ ga4, h55, sza, szm, by decide, by decide, fun x1 H5 np5 s5 hx1 => ?_⟩
      have s55 := sT5.trans s5
      have hD5 := s55 _ _ hD4
      have hDS5 := SqL.of (K := K) hD5
      clear h55 nT5
      walk_at "f"
      intro T6 nT6
      have h66 : (upd H5 T6 (.tup [V.int 1, V.int 1])) T6 = some (PR (1 : Rat)) := upd_same
      have sT6 := same1 (u := .tup [V.int 1, V.int 1]) nT6
      refine ⟨b0, T6, b, 1, 283, rfl, (s55.trans sT6) _ _ gb4, h66, szb', szo, by decide, by decide, fun x2 H6 np6 s6 hx2 => ?_⟩
      have s66 := sT6.trans s6
      have hx16 := s66 _ _ hx1
      clear h66 nT6
      walk_at "f"
      intro C6 nC6
      have hC6 : (upd H6 C6 (.lst [V.ref x1, V.ref x2])) C6 = some (.lst [V.ref x1, V.ref x2]) := upd_same
      have sC6 := same1 (u := .lst [V.ref x1, V.ref x2]) nC6
      have r6 := ((RsV.one hx16).app (RsV.one hx2)).same sC6
      have s46 := (s55.trans s66).trans sC6
      have hC46 := s46 _ _ hC4
      have rC6 := (rC4.same s46).app r6
      generalize upd H6 C6 (.lst [V.ref x1, V.ref x2]) = H7 at *
      have szT : ∀ x ∈ triedR ss a b, SzR 600 x := fun x hx => by
        unfold triedR at hx
        rcases List.mem_append.mp hx with hx | hx
        · rcases List.mem_append.mp hx with hx | hx
          · exact (szS x hx).mono (by decide)
          · exact (mids_sz szS x hx).mono (by decide)
        · simp only [List.mem_cons, List.not_mem_nil, or_false] at hx
          rcases hx with rfl | rfl
          · exact (szr_add sza szm).mono (by decide)
          · exact (szr_add szb' szo).mono (by decide)
      refine ⟨C4, C6, _, _, rfl, rfl, hC46, hC6, szl (by rw [List.length_append]; show _ + 2 ≤ 1000; omega), fun C7 nC7 => ?_⟩
      have s7 := ((sAll.trans sC4).trans s46).trans (same1 (u := .lst (ws1 ++ ys2 ++ [V.ref x1, V.ref x2])) nC7)
      have hC7 : (upd H7 C7 (.lst (ws1 ++ ys2 ++ [V.ref x1, V.ref x2]))) C7 = some (.lst (ws1 ++ ys2 ++ [V.ref x1, V.ref x2])) := upd_same
      have rC7 : RsV (upd H7 C7 (.lst (ws1 ++ ys2 ++ [V.ref x1, V.ref x2]))) (ws1 ++ ys2 ++ [V.ref x1, V.ref x2]) (triedR ss a b) := rC6.same (same1 nC7)
      generalize upd H7 C7 (.lst (ws1 ++ ys2 ++ [V.ref x1, V.ref x2])) = H8 at *
      have ll : (ws1 ++ ys2 ++ [V.ref x1, V.ref x2]).length ≤ 600 := by rw [List.length_append, List.length_append]; show _ + 2 ≤ 600; omega
      generalize ws1 ++ ys2 ++ [V.ref x1, V.ref x2] = wt at *
      have lwt := rC7.1
      clear s46 sAll sC4 rC6 hC46 hC6 hx16 hx1 hx2
      walk_at "f"
      intro R nR
      refine lcr (n := wt.length) walk_list (fun _ _ g s => s.seq g) (fun i H v => ∃ (m : Addr) (x : Rat), v = .ref m ∧ (triedR ss a b)[i]? = some x ∧ QAt (He.ga K "Measure") H m 600 (ofR x)) (fun i H H' v ⟨m, x, e1, e2, e3⟩ n => ⟨m, x, e1, e2, e3.nl n⟩) (szs (by omega)) (SqL.of hC7) nR (fun j y HA HB N M2 hj sA yy hN => ?_) (fun HZ zs sZ hR lz hz => ?_)
      · obtain ⟨rfl, hy⟩ := yy
        obtain ⟨x, hx⟩ : ∃ x, (triedR ss a b)[j]? = some x := ⟨_, List.getElem?_eq_getElem (by omega)⟩
        obtain ⟨t, et, ht⟩ := rC7.2 j x hx
        rw [et] at hy
        cases hy
        have sx := szT x (List.mem_of_getElem? hx)
        refine ⟨t, _, rfl, SqT.of (sA _ _ ht), rfl, _, _, rfl, _, _, rfl, rfl, rfl, yesT ?_⟩
        walk_at "f"
        refine q_made (k := 600) (den0 x) sx.1 sx.2 (by decide) (by decide) fun m H6 s6 R => hN _ _ s6 ⟨m, x, rfl, hx, R⟩
      walk_at "f"
      refine kk R zs ss a b HZ ((sB0.trans s7).trans sZ) hR (by omega) (fun i x hx => ?_) pw ha hb (fun i d x hd hx => (mem x).mpr ((memE x).mpr ⟨d, List.mem_of_getElem? hd, ends_all hx⟩)) (by omega)
      obtain ⟨v, hv⟩ : ∃ v, zs[i]? = some v := ⟨_, List.getElem?_eq_getElem (by have := (List.getElem?_eq_some_iff.mp hx).1; omega)⟩
      obtain ⟨m, x', rfl, ex, q⟩ := hz i v hv
      rw [hx] at ex
      cases ex
      exact ⟨m, hv, q⟩
theorem ok_l_leads {P : Program} {w : World} {K : PySem.W.Frag} {mg : Str → Option Value} {base : Heap} {φ : Fds} (T : Txt K mg φ) : FnOk P w K mg base CX0 1 (He.fAd K ("_law_leads", none)) φ.l_leads p_l_leads sp_leads36 := by
  refine T.f_l_leads.ok sc_l_leads (fun vs H Q E h => ?_) (fun cdv A outer s H vs Q E hr h => ?_)
  · obtain ⟨A, B, us, ws, n, f, g, rfl, hA, hB, lu, lw, n6, el, bf, bg, kk⟩ := h; rfl
  · obtain ⟨A, B, us, ws, n, f, g, rfl, hA, hB, lu, lw, n6, el, bf, bg, kk⟩ := h
    refine ⟨_, PSs.nox (pss_cons (ps_set (i := 2) sc_l_leads.nd rfl (Or.inl rfl) pe_dnewK)
      (pss_cons (ps_for PassesOwn.never rfl (RZ.pi_zipA (by rfl) T.z_zip (pa_cons (pv 0) (pa_cons (pv 1) pa_nil))) (pg_tup rfl (pgs_cons (pg_name (i := 3) sc_l_leads.nd rfl (Or.inl rfl)) (pgs_cons (pg_name (i := 4) sc_l_leads.nd rfl (Or.inl rfl)) pgs_nil)))
      (pss_one (ps_if (PW.pt (pw_and (pt_cmpR op_notN (pv 3) pe_non (nomark _)) (pw_and1 (pt_cmpR op_notN (pv 4) pe_non (nomark _)))))
      (pss_one (ps_expr (pe_bm PySem.F.plainAttrs_dict PySem.F.slot_dict_update PySem.F.type_dict_update mt_updD (pe_dsetdK (pv 2) (pv 3) pe_dnewK) (pa_cons (pe_disp (pps_cons (pv 4) pe_bl pps_nil) (by rfl) (by rfl) (fun z => by cases z) (by decide)) pa_nil))))
      pss_nil)))
      (pss_one (ps_ret (pv 2))))), ?_⟩
    have hAS := SqL.of (K := K) hA
    have hBS := SqL.of (K := K) hB
    walk_at "f"
    intro D nD
    have hD : (upd H D (.dK [])) D = some (.dK []) := upd_same
    have sD := same1 (u := .dK []) nD
    have L0 : LeadJ H (upd H D (.dK [])) D [] (fun _ => False) (fun _ _ => False) := ⟨hD, nD, KeysZ.nil, fun kv h => by simp at h, fun x h => by simp at h⟩
    generalize upd H D (.dK []) = H1 at *
    refine ⟨_, rfl, _, rfl, A, B, _, _, rfl, .inl ⟨sD.seq hAS, sD.seq hBS, ?_⟩⟩
    refine for_it (walk_zip (xs := us) (ys := ws) (n := n) (by omega)) (fun j σ H' => ∃ (kvs : List (Key × V)) (v3 v4 : Option V), σ = [some (.ref A), some (.ref B), some (.ref D), v3, v4] ∧ Same H H' ∧ LeadJ H H' D kvs (fun z => ∃ k l : Nat, z = (k : Int) ∧ ∃ i, i < j ∧ f i = some k ∧ g i = some l) (fun k l => ∃ i, i < j ∧ f i = some k ∧ g i = some l)) ?_ (fun j σ H' _ p => ?_) ?_ ?_
    · exact ⟨[], _, _, rfl, sD, L0.imp (fun z => ⟨fun h => h.elim, fun ⟨_, _, _, i, h, _⟩ => absurd h (Nat.not_lt_zero _)⟩) (fun k l => ⟨fun h => h.elim, fun ⟨i, h, _⟩ => absurd h (Nat.not_lt_zero _)⟩)⟩
    · obtain ⟨_, _, _, _, s, _⟩ := p
      exact ⟨s.seq hAS, s.seq hBS⟩
    · rintro j y σ H2 H3 hj ⟨kvs, v3, v4, rfl, s2, LJ⟩ yy
      obtain ⟨T2, a0, b0, rfl, nT2, rfl, ha0, hb0⟩ := yy
      obtain ⟨ea, eb⟩ := el j hj
      have ha0 : us[j]? = some a0 := ha0
      have hb0 : ws[j]? = some b0 := hb0
      rw [ea] at ha0
      rw [eb] at hb0
      cases ha0
      cases hb0
      have sT2 := s2.trans (same1 (u := .tup [optI (f j), optI (g j)]) nT2)
      have hT2 : (upd H2 T2 (.tup [optI (f j), optI (g j)])) T2 = some (.tup [optI (f j), optI (g j)]) := upd_same
      have LT := LJ.up (u := .tup [optI (f j), optI (g j)]) nT2
      generalize upd H2 T2 (.tup [optI (f j), optI (g j)]) = HB at *
      refine ⟨T2, _, rfl, SqT.of hT2, rfl, _, _, rfl, _, _, rfl, rfl, ?_⟩
      have stay : (∀ k l, ¬ (f j = some k ∧ g j = some l)) → LeadJ H HB D kvs (fun z => ∃ k l : Nat, z = (k : Int) ∧ ∃ i, i < j + 1 ∧ f i = some k ∧ g i = some l) (fun k l => ∃ i, i < j + 1 ∧ f i = some k ∧ g i = some l) := fun no => by
        have w : ∀ k l : Nat, (∃ i, i < j ∧ f i = some k ∧ g i = some l) ↔ ∃ i, i < j + 1 ∧ f i = some k ∧ g i = some l := fun k l => ⟨fun ⟨i, h, r⟩ => ⟨i, by omega, r⟩, fun ⟨i, h, r⟩ => ⟨i, by
          by_cases c : i = j
          · subst c
            exact absurd r (no k l)
          · omega, r⟩⟩
        exact LT.imp (fun z => ⟨fun ⟨k, l, e, p⟩ => ⟨k, l, e, (w k l).mp p⟩, fun ⟨k, l, e, p⟩ => ⟨k, l, e, (w k l).mpr p⟩⟩) w
      cases hf : f j with
      | none =>
        walk_at "f"
        exact ⟨kvs, _, _, rfl, sT2, stay fun k l h => by rw [hf] at h; cases h.1⟩
      | some k =>
        cases hg : g j with
        | none =>
          walk_at "f"
          exact ⟨kvs, _, _, rfl, sT2, stay fun k l h => by rw [hg] at h; cases h.2⟩
        | some l =>
          clear stay
          refine ⟨_, rfl, rfl, _, rfl, iteT ?_⟩
          refine ⟨_, rfl, rfl, _, rfl, iteT ?_⟩
          refine ⟨_, rfl, D, rfl, .inl ⟨kvs, .inl LT.at_⟩, _, rfl, fun p np => ?_⟩
          have Lp := LT.up (u := .dK []) np
          have hp : (upd HB p (.dK [])) p = some (.dK []) := upd_same
          have sP := sT2.trans (same1 (u := .dK []) np)
          have np0 : H p = none := old_none sT2 np
          have npD : p ≠ D := fun q => by rw [q, LT.at_] at np; cases np
          have ni : ∀ kv ∈ kvs, kv.2 ≠ .ref p := fun kv h e => by
            obtain ⟨a, k, kv2, rfl, h1, _⟩ := LT.inn kv h
            cases e
            rw [h1] at np
            cases np
          generalize upd HB p (.dK []) = HC at *
          have ll : kvs.length ≤ 24 := Lp.keys.len24 fun z ⟨k, l, e, i, h, q, r⟩ => ⟨k, e, bf i k q⟩
          have kl := bf j k hf
          have pj : ∀ c d : Nat, ((∃ i, i < j ∧ f i = some c ∧ g i = some d) ∨ (c = k ∧ d = l)) ↔ ∃ i, i < j + 1 ∧ f i = some c ∧ g i = some d := fun c d => by
            constructor
            · rintro (⟨i, h, r⟩ | ⟨rfl, rfl⟩)
              · exact ⟨i, by omega, r⟩
              · exact ⟨j, by omega, hf, hg⟩
            · rintro ⟨i, h, r1, r2⟩
              by_cases q : i = j
              · subst q
                rw [hf] at r1
                rw [hg] at r2
                cases r1
                cases r2
                exact .inr ⟨rfl, rfl⟩
              · exact .inl ⟨i, by omega, r1, r2⟩
          refine ⟨kvs, Sum.inl (k : Int), Lp.at_, rfl, szs (by omega), fun v hv => ?_, fun hn => ?_⟩
          · obtain ⟨a, kv2, rfl, ha, na, kz2, up⟩ := Lp.old hv
            have w : (∃ l : Nat, ∃ i, i < j ∧ f i = some k ∧ g i = some l) := by
              obtain ⟨k', l', e, i, h, q, r⟩ := (Lp.keys.iff (k : Int)).mp (List.mem_map.mpr ⟨_, valV_some hv, rfl⟩)
              have : k' = k := by omega
              subst this
              exact ⟨l', i, h, q, r⟩
            have io : ∀ z : Int, (∃ k l : Nat, z = (k : Int) ∧ ∃ i, i < j ∧ f i = some k ∧ g i = some l) ↔ ∃ k l : Nat, z = (k : Int) ∧ ∃ i, i < j + 1 ∧ f i = some k ∧ g i = some l := fun z => by
              constructor
              · rintro ⟨c, d, e, i, h, r⟩
                exact ⟨c, d, e, i, by omega, r⟩
              · rintro ⟨c, d, e, p⟩
                rcases (pj c d).mpr p with p | ⟨rfl, rfl⟩
                · exact ⟨c, d, e, p⟩
                · obtain ⟨l', p⟩ := w
                  exact ⟨_, l', e, p⟩
            refine ⟨.inr (.inr (.inl ⟨rfl, .inl ⟨_, ha⟩⟩)), fun q nq => ?_⟩
            have nqa : a ≠ q := ne_of_none ha nq
            have LQ := Lp.up (u := .dK (mergeK [] [(Sum.inl (l : Int), V.bl true)])) nq
            have sQ := sP.trans (same1 (u := .dK (mergeK [] [(Sum.inl (l : Int), V.bl true)])) nq)
            obtain ⟨a', kv3, ea, ha3, na3, kz3, up3⟩ := LQ.old hv
            cases ea
            have l2 : kv3.length ≤ 24 := kz3.len24 fun z ⟨l, e, i, h, q, r⟩ => ⟨l, e, bg i l r⟩
            refine ⟨_, rfl, upd_same, [(Sum.inl (l : Int), V.bl true)], rfl, Nat.le_of_ble_eq_true rfl, ?_⟩
            rw [upd_upd]
            have hq : (upd HC q (.dK (mergeK [] [(Sum.inl (l : Int), V.bl true)]))) q = some (.dK [(Sum.inl (l : Int), V.bl true)]) := upd_same
            generalize upd HC q (.dK (mergeK [] [(Sum.inl (l : Int), V.bl true)])) = HQ at *
            refine ⟨a, q, kv3, _, rfl, rfl, nqa, ha3, hq, Nat.le_of_lt (szs (by show kv3.length + 1 < _; omega)), ?_⟩
            exact ⟨kvs, _, _, rfl, new_sameX na3 sQ, (up3 l (V.bl true)).imp io pj⟩
          · have no : ∀ l, ¬ ∃ i, i < j ∧ f i = some k ∧ g i = some l := fun l' p => by
              have m := (Lp.keys.iff (k : Int)).mpr ⟨k, l', rfl, p⟩
              obtain ⟨kv, h1, h2⟩ := List.mem_map.mp m
              have := valV_none hn kv h1
              exact this h2
            have LN := Lp.put hn hp np0 npD ni no
            have hv : valV (putK kvs (Sum.inl (k : Int)) (.ref p)) (Sum.inl (k : Int)) = some (.ref p) := by rw [valV_put, if_pos rfl]
            have sN := new_sameX (f := .dK (putK kvs (Sum.inl (k : Int)) (.ref p))) nD sP
            obtain ⟨HN, eN⟩ : ∃ HN, HN = upd HC D (.dK (putK kvs (Sum.inl (k : Int)) (.ref p))) := ⟨_, rfl⟩
            rw [← eN] at LN sN ⊢
            obtain ⟨a, kv2, ea0, ha, na, kz2, up⟩ := LN.old hv
            cases ea0
            have io : ∀ z : Int, ((∃ k l : Nat, z = (k : Int) ∧ ∃ i, i < j ∧ f i = some k ∧ g i = some l) ∨ z = (k : Int)) ↔ ∃ k l : Nat, z = (k : Int) ∧ ∃ i, i < j + 1 ∧ f i = some k ∧ g i = some l := fun z => by
              constructor
              · rintro (⟨c, d, e, i, h, r⟩ | rfl)
                · exact ⟨c, d, e, i, by omega, r⟩
                · exact ⟨k, l, rfl, j, by omega, hf, hg⟩
              · rintro ⟨c, d, e, p⟩
                rcases (pj c d).mpr p with p | ⟨rfl, rfl⟩
                · exact .inl ⟨c, d, e, p⟩
                · exact .inr e
            refine ⟨.inr (.inr (.inl ⟨rfl, .inl ⟨_, ha⟩⟩)), fun q nq => ?_⟩
            have nqa : p ≠ q := ne_of_none ha nq
            have LQ := LN.up (u := .dK (mergeK [] [(Sum.inl (l : Int), V.bl true)])) nq
            have sQ := sN.trans (same1 (u := .dK (mergeK [] [(Sum.inl (l : Int), V.bl true)])) nq)
            obtain ⟨a', kv3, ea, ha3, na3, kz3, up3⟩ := LQ.old hv
            cases ea
            have l2 : kv3.length ≤ 24 := kz3.len24 fun z ⟨l, e, i, h, q, r⟩ => ⟨l, e, bg i l r⟩
            refine ⟨_, rfl, upd_same, [(Sum.inl (l : Int), V.bl true)], rfl, Nat.le_of_ble_eq_true rfl, ?_⟩
            rw [upd_upd]
            have hq : (upd HN q (.dK (mergeK [] [(Sum.inl (l : Int), V.bl true)]))) q = some (.dK [(Sum.inl (l : Int), V.bl true)]) := upd_same
            generalize upd HN q (.dK (mergeK [] [(Sum.inl (l : Int), V.bl true)])) = HQ at *
            refine ⟨p, q, kv3, _, rfl, rfl, nqa, ha3, hq, Nat.le_of_lt (szs (by show kv3.length + 1 < _; omega)), ?_⟩
            exact ⟨_, _, _, rfl, new_sameX na3 sQ, (up3 l (V.bl true)).imp io pj⟩
    · rintro σ H2 ⟨kvs, v3, v4, rfl, s2, LJ⟩
      walk_at "f"
      refine kk D kvs H2 s2 ?_
      have e : us.length = n := lu
      exact LJ
theorem ok_l_rows_right {P : Program} {w : World} {K : PySem.W.Frag} {mg : Str → Option Value} {base : Heap} {φ : Fds} (T : Txt K mg φ) : FnOk P w K mg base CX0 8 (He.fAd K ("_law_rows_right", none)) φ.l_rows_right p_l_rows_right (sp_rowsright36 K (He.ga K "Measure") (He.ga K "Ladder")) := by
  obtain ⟨_, B0v, B0⟩ := b_Ladder_size_2 T
  refine T.f_l_rows_right.ok sc_l_rows_right (fun vs H Q E h => ?_) (fun cdv A outer s H vs Q E hr h => ?_)
  · obtain ⟨O, Td, R, A, B, os, ps, k, n, a, b, ws, rs, rfl, hO, lo, al, k0, k1, l31, hT, hR, pr, rp, lrs, last, rA, rB, kk⟩ := h; rfl
  · obtain ⟨O, Td, R, A, B, os, ps, k, n, a, b, ws, rs, rfl, hO, lo, al, k0, k1, l31, hT, hR, pr, rp, lrs, last, rA, rB, kk⟩ := h
    refine ⟨_, PSs.nox (pss_cons (ps_for PassesOwn.never rfl (RZ.pi_zipA (by rfl) T.z_zip (pa_cons (pe_slice (slU (K := K)) (pv 1) (po_some pe_int) po_none) (pa_cons (pe_ix (ixt (K := K)) (pe_ix (ixt (K := K)) (pv 1) pe_int (fun _ _ => rfl)) (pe_un un_neg pe_int) (fun _ _ => rfl)) pa_nil))) (pg_tup rfl (pgs_cons (pg_name (i := 2) sc_l_rows_right.nd rfl (Or.inl rfl)) (pgs_cons (pg_name (i := 3) sc_l_rows_right.nd rfl (Or.inl rfl)) pgs_nil)))
      (pss_cons (ps_asg (pv 2) (pg_tup rfl (pgs_cons (pg_name (i := 4) sc_l_rows_right.nd rfl (Or.inl rfl)) (pgs_cons (pg_name (i := 5) sc_l_rows_right.nd rfl (Or.inl rfl)) pgs_nil))))
      (pss_cons (ps_if (PW.pt (pw_or (pt_cmpR (neDK (K := K) hr.units) (pe_op (repTK (K := K)) (pe_tup (pa_cons (pe_ix (ixt (K := K)) (pv 4) pe_int (fun _ _ => rfl)) pa_nil)) pe_int) (pe_ix (ixt (K := K)) (pe_ix (ixt (K := K)) (pv 1) pe_int (fun _ _ => rfl)) pe_int (fun _ _ => rfl)) (nomark _)) (pw_or (pt_cmpR op_ne (pe_ix (ixt (K := K)) (pv 4) (pe_un un_neg pe_int) (fun _ _ => rfl)) (pv 3) (nomark _)) (pw_or1 (pt_cmpR op_ne (pe_callB (id := "len") (lenS (K := K)) (by rfl) T.z_len PySem.boot_len (pa_cons (pv 5) pa_nil)) (pe_op op_sub (pe_callB (id := "len") (lenS (K := K)) (by rfl) T.z_len PySem.boot_len (pa_cons (pv 0) pa_nil)) pe_int) (nomark _))))))
      (pss_one (ps_ret pe_bl))
      pss_nil)
      (pss_one (ps_for PassesOwn.never rfl (pi_enumT (by rfl) T.z_enumerate (pa_cons (pv 5) pa_nil)) (pg_tup rfl (pgs_cons (pg_name (i := 6) sc_l_rows_right.nd rfl (Or.inl rfl)) (pgs_cons (pg_name (i := 7) sc_l_rows_right.nd rfl (Or.inl rfl)) pgs_nil)))
      (pss_cons (ps_if (pt_cmpR op_ne (pe_meth (pe_ix (ixl (K := K)) (pv 0) (pv 6) (fun _ _ => rfl)) T.cl_Ladder T.me_Ladder_size (ok_Ladder_size (K := K) T) (hr.mono (by decide)) B0 B0v pass0 (pa_cons (pv 7) pa_nil)) (pe_ix (ixt (K := K)) (pv 4) (pv 6) (fun _ _ => rfl)) (nomark _))
      (pss_one (ps_ret pe_bl))
      pss_nil)
      (pss_one (ps_if (pt_cmpR op_ne (pe_meth (pe_ix (ixl (K := K)) (pv 0) (pe_op op_add (pv 6) pe_int) (fun _ _ => rfl)) T.cl_Ladder T.me_Ladder_size (ok_Ladder_size (K := K) T) (hr.mono (by decide)) B0 B0v pass0 (pa_cons (pv 7) pa_nil)) (pe_ix (ixt (K := K)) (pv 4) (pe_op op_add (pv 6) pe_int) (fun _ _ => rfl)) (nomark _))
      (pss_one (ps_ret pe_bl))
      pss_nil))))))))
      (pss_one (ps_ret pe_bl))), ?_⟩
    have cl_Ladder := T.cl_Ladder
    have na_Ladder_marks := T.na_Ladder_marks
    have na_Ladder_rule := T.na_Ladder_rule
    have na_Ladder_least := T.na_Ladder_least
    have na_Ladder_most := T.na_Ladder_most
    have cl_Measure := T.cl_Measure
    have na_Measure_top := T.na_Measure_top
    have na_Measure_bottom := T.na_Measure_bottom
    
    have hRS := SqT.of (K := K) hR
    have lr := pr.1
    have l0 : 0 < rs.length := by have := (List.getElem?_eq_some_iff.mp rp.first).1; omega
    obtain ⟨t0, e0, g0⟩ := pr.2 0 n n rp.first
    obtain ⟨t1, e1, g1⟩ := pr.2 _ a b last
    have j0 : atI ps 0 = some (.ref t0) := atI_nat (j := 0) e0
    have j1 : atI ps (-1) = some (.ref t1) := atI_end (n := rs.length - 1) (by omega) e1
    walk_at "f"
    intro Z H1 s1 hZ
    rw [show cutV [V.str (Str.ofString "comes"), V.ref R, V.ref A, V.ref B] (some 2) none = [V.ref A, V.ref B] from rfl] at hZ
    have hT1 := s1 _ _ hT
    have hRS1 := s1.sqt hRS
    have g11 := SqT.of (K := K) (s1 _ _ g1)
    have hT1S := SqT.of (K := K) hT1
    refine ⟨_, rfl, Td, _, _, _, rfl, rfl, hT1S, rfl, _, rfl, R, _, _, _, rfl, rfl, hRS1, j1, Z, t1, _, _, rfl, .inr ⟨hZ, g11, ?_⟩⟩
    refine for_it (walk_zipT (xs := [V.ref A, V.ref B]) (ys := [V.int (a : Int), V.int (b : Int)]) (n := 2) rfl) (fun j σ H' => ∃ (v2 v3 v4 v5 v6 v7 : Option V), σ = [some (.ref O), some (.ref Td), v2, v3, v4, v5, v6, v7] ∧ Same H1 H') ⟨_, _, _, _, _, _, rfl, Same.refl _⟩ (fun j σ H' _ p => ?_) ?_ ?_
    · obtain ⟨_, _, _, _, _, _, _, s⟩ := p
      exact ⟨s.sqt hZ, s.sqt g11⟩
    · rintro j y σ H2 H3 hj ⟨v2, v3, v4, v5, v6, v7, rfl, s2⟩ yy
      obtain ⟨T2, a0, b0, rfl, nT2, rfl, ha0, hb0⟩ := yy
      obtain ⟨C, c, ra, ea, eb⟩ : ∃ (C : Addr) (c : Nat), RowAt (He.ga K "Measure") H C k ws rs c ∧ a0 = .ref C ∧ b0 = .int (c : Int) := by
        rcases j with _ | _ | j
        · cases ha0
          cases hb0
          exact ⟨A, a, rA, rfl, rfl⟩
        · cases ha0
          cases hb0
          exact ⟨B, b, rB, rfl, rfl⟩
        · omega
      subst ea eb
      have s3 := (s1.trans s2).trans (same1 (u := .tup [V.ref C, V.int (c : Int)]) nT2)
      have s23 := s2.trans (same1 (u := .tup [V.ref C, V.int (c : Int)]) nT2)
      have hT2 : (upd H2 T2 (.tup [V.ref C, V.int (c : Int)])) T2 = some (.tup [V.ref C, V.int (c : Int)]) := upd_same
      generalize upd H2 T2 (.tup [V.ref C, V.int (c : Int)]) = HB at *
      obtain ⟨S, M, ks, ms, hA, hS, hM, Z0, lm, am⟩ := ra.same s3
      have sS := SqT.of (K := K) hS
      have sM := SqT.of (K := K) hM
      have zl := Z0.len
      have zp := Z0.pos
      refine ⟨T2, _, rfl, SqT.of hT2, rfl, _, _, rfl, _, _, rfl, rfl, ?_⟩
      show tSeq _ _ _ _ _
      refine ends_gen rfl fun DE eDE => ?_
      refine ⟨_, rfl, C, _, rfl, SqT.of hA, rfl, _, _, rfl, _, _, rfl, rfl, ?_⟩
      obtain ⟨c0, hk0⟩ : ∃ c, ks[0]? = some c := ⟨_, List.getElem?_eq_getElem zp⟩
      have q := Z0.inr 0 c0 n n hk0 (by rw [Nat.zero_add]; exact rp.first)
      have ek : c0 = n := by omega
      subst ek
      have i0 : atI (ks.map fun k : Nat => V.int k) 0 = some (V.int (c0 : Int)) := atI_nat (j := 0) (by rw [List.getElem?_map, hk0]; rfl)
      have lks : (ks.map fun k : Nat => V.int k).length = ks.length := List.length_map ..
      have i1 : atI (ks.map fun k : Nat => V.int k) (-1) = some (V.int (c : Int)) := atI_end (n := ks.length - 1) (by rw [lks]; omega) (by rw [List.getElem?_map, Z0.last]; rfl)
      walk_at "f"
      intro p np
      have sp := same1 (u := .tup [V.int (c0 : Int)]) np
      have hp : (upd HB p (.tup [V.int (c0 : Int)])) p = some (.tup [V.int (c0 : Int)]) := upd_same
      generalize upd HB p (.tup [V.int (c0 : Int)]) = HC at *
      refine ⟨p, 2, [V.int (c0 : Int)], rfl, rfl, SqT.of hp, by simp, by decide, by decide, Nat.le_of_ble_eq_true rfl, fun p2 np2 => ?_⟩
      have hp2 : (upd HC p2 (.tup (List.replicate (2 : Int).toNat [V.int (c0 : Int)]).flatten)) p2 = some (.tup ([(c0 : Int), (c0 : Int)].map V.int)) := upd_same
      have sC := sp.trans (same1 (u := .tup (List.replicate (2 : Int).toNat [V.int (c0 : Int)]).flatten) np2)
      generalize upd HC p2 (.tup (List.replicate (2 : Int).toNat [V.int (c0 : Int)]).flatten) = HD at *
      have s1D := s23.trans sC
      have s0D := s3.trans sC
      have hT3 := s1D.sqt hT1S
      have hR3 := s1D.sqt hRS1
      have hg3 : HD t0 = some (.tup ([(c0 : Int), (c0 : Int)].map V.int)) := s0D _ _ g0
      refine ⟨_, rfl, Td, _, _, _, rfl, rfl, hT3, rfl, R, _, _, _, rfl, rfl, hR3, j0, ?_⟩
      refine ⟨_, _, dpT hp2, dpT hg3, shInts _, shInts _, _, rfl, ?_⟩
      rw [eqv_intsD, decide_eq_true rfl]
      refine iteF ?_
      have sS3 := sC.sqt sS
      have sM3 := sC.sqt sM
      have hO3 := s0D _ _ hO
      clear sS sM hT2 hp hp2 hg3 hT3 hR3 hA
      walk_at "f"
      rw [decide_eq_true (rfl : V.int (c : Int) = V.int (c : Int))]
      refine iteF ?_
      walk_at "f"
      try rw [decide_eq_true (show V.int ((ms.length : Nat) : Int) = V.int (((os.length : Nat) : Int) - 1) from congrArg V.int (by omega))]
      refine iteF ?_
      walk_at "f"
      refine for_it (walk_enumT (xs := ms)) (fun i σ H' => ∃ (v6 v7 : Option V), σ = [some (.ref O), some (.ref Td), some (.ref C), some (.int (c : Int)), some (.ref S), some (.ref M), v6, v7] ∧ Same HD H') ⟨_, _, rfl, Same.refl _⟩ (fun i σ H' _ p => ?_) ?_ ?_
      · obtain ⟨_, _, _, s⟩ := p
        exact s.sqt sM3
      · rintro i y σ H4 H5 hi ⟨v6, v7, rfl, s4⟩ yy
        obtain ⟨T3, a0, b0, rfl, nT3, rfl, ha0, hb0⟩ := yy
        cases ha0
        obtain ⟨r, z, w, w', ka, kb, rfl, qz, hw, hw', hka, hkb, fz, gz⟩ := am i b0 hb0
        have sT3 := same1 (u := .tup [V.int (i : Int), V.ref r]) nT3
        have hT3 : (upd H4 T3 (.tup [V.int (i : Int), V.ref r])) T3 = some (.tup [V.int (i : Int), V.ref r]) := upd_same
        have s5 := s4.trans sT3
        generalize upd H4 T3 (.tup [V.int (i : Int), V.ref r]) = HE at *
        have s0E := s0D.trans s5
        have q5 := qz.same (sC.trans s5)
        obtain ⟨p1, ep1, B1⟩ := al i w hw
        obtain ⟨p2, ep2, B2⟩ := al (i + 1) w' hw'
        have B1 := B1.same s0E
        have B2 := B2.same s0E
        have hOE := SqL.of (K := K) (s5 _ _ hO3)
        have sSE := s5.sqt sS3
        have ix1 : atI os (i : Int) = some (.ref p1) := atI_nat ep1
        have ix2 : atI os ((i : Int) + 1) = some (.ref p2) := atI_nat (j := i + 1) ep2
        have iy1 : atI (ks.map fun k : Nat => V.int k) (i : Int) = some (V.int (ka : Int)) := atI_nat (by rw [List.getElem?_map, hka]; rfl)
        have iy2 : atI (ks.map fun k : Nat => V.int k) ((i : Int) + 1) = some (V.int (kb : Int)) := atI_nat (j := i + 1) (by rw [List.getElem?_map, hkb]; rfl)
        have zp2 := qz.pos
        refine ⟨T3, _, rfl, SqT.of hT3, rfl, _, _, rfl, _, _, rfl, rfl, ?_⟩
        refine ⟨_, rfl, _, rfl, O, _, _, _, rfl, rfl, hOE, ix1, meth_l B1 (by decide +kernel) (by decide +kernel) (by decide +kernel) (by decide +kernel) ⟨_, rfl, p1, r, k, _, _, _, _, _, rfl, B1, q5, k0, k1, fun H6 s6 => ?_⟩⟩
        rw [sizF_eq (ladq_of B1) zp2, show sizF w.zs w.r w.lo w.hi (toR z) = some ka from fz]
        refine ⟨_, rfl, _, rfl, S, _, _, _, rfl, rfl, s6.sqt sSE, iy1, rfl, _, rfl, ?_⟩
        rw [show decide (optI (some ka) = V.int (ka : Int)) = true from decide_eq_true rfl]
        refine iteF ?_
        have B26 := B2.same s6
        refine ⟨_, rfl, _, rfl, _, _, rfl, rfl, O, _, _, _, rfl, rfl, s6.seq hOE, ix2, meth_l B26 (by decide +kernel) (by decide +kernel) (by decide +kernel) (by decide +kernel) ⟨_, rfl, p2, r, k, _, _, _, _, _, rfl, B26, q5.same s6, k0, k1, fun H7 s7 => ?_⟩⟩
        rw [sizF_eq (ladq_of B26) zp2, show sizF w'.zs w'.r w'.lo w'.hi (toR z) = some kb from gz]
        refine ⟨_, rfl, _, rfl, _, _, rfl, rfl, S, _, _, _, rfl, rfl, (s6.trans s7).sqt sSE, iy2, rfl, _, rfl, ?_⟩
        rw [show decide (optI (some kb) = V.int (kb : Int)) = true from decide_eq_true rfl]
        refine iteF ?_
        exact ⟨_, _, rfl, (s5.trans s6).trans s7⟩
      · rintro σ H4 ⟨v6, v7, rfl, s4⟩
        show DE.nx _ _
        rw [eDE]
        exact ⟨_, _, _, _, _, _, rfl, s1D.trans s4⟩
    · rintro σ H2 ⟨v2, v3, v4, v5, v6, v7, rfl, s2⟩
      walk_at "f"
      exact kk _ (s1.trans s2)
theorem ok_l_start_right {P : Program} {w : World} {K : PySem.W.Frag} {mg : Str → Option Value} {base : Heap} {φ : Fds} (T : Txt K mg φ) : FnOk P w K mg base CX0 14 (He.fAd K ("_law_start_right", none)) φ.l_start_right p_l_start_right (sp_start36 K (He.ga K "Measure") (He.ga K "Ladder")) := by
  obtain ⟨_, B0v, B0⟩ := b_round_from_2 T
  obtain ⟨_, B1v, B1⟩ := b_shows_round_3 T
  obtain ⟨_, B2v, B2⟩ := b_l_rows_right_2 T
  refine T.f_l_start_right.ok sc_l_start_right (fun vs H Q E h => ?_) (fun cdv A outer s H vs Q E hr h => ?_)
  · obtain ⟨W, O, G, os, gs, k, n, ws, w0, rfl, hW, hw0, hn, k0, k1, l20, lq, hO, lo, ao, hG, lg, ag, kk⟩ := h; rfl
  · obtain ⟨W, O, G, os, gs, k, n, ws, w0, rfl, hW, hw0, hn, k0, k1, l20, lq, hO, lo, ao, hG, lg, ag, kk⟩ := h
    refine ⟨_, PSs.nox (pss_cons (ps_par3 (i := 4) (j := 5) (l := 6) rfl sc_l_start_right.nd rfl rfl rfl (by decide) (by decide) (by decide) rfl rfl rfl (pa_cons (pe_call (ok_round_from (K := K) T) (hr.mono (by decide)) rfl T.g_round_from T.f_round_from.kp B0 B0v pass0 (pa_cons (pv 0) (pa_cons (pv 3) pa_nil))) (pa_cons (pe_lst (pa_cons (pv 3) pa_nil)) (pa_cons (pe_lst (pa_cons (pe_tup (pa_cons (pv 3) (pa_cons (pv 3) pa_nil))) pa_nil)) pa_nil))) (by rfl))
      (pss_cons (ps_for PassesOwn.never rfl (pi_list (pv 2)) (pg_name (i := 7) sc_l_start_right.nd rfl (Or.inl rfl))
      (pss_cons (ps_set (i := 8) sc_l_start_right.nd rfl (Or.inl rfl) pe_dnewK)
      (pss_cons (ps_for PassesOwn.never rfl (pi_list (pv 5)) (pg_name (i := 9) sc_l_start_right.nd rfl (Or.inl rfl))
      (pss_one (ps_expr (pe_bm PySem.F.plainAttrs_dict PySem.F.slot_dict_update PySem.F.type_dict_update mt_updD (pv 8) (pa_cons (pe_dgetK hr.units (pv 7) (pv 9) pe_dnewK) pa_nil)))))
      (pss_cons (ps_set (i := 5) sc_l_start_right.nd rfl (Or.inl rfl) (pe_callB (id := "sorted") (cr_sortedDI (by rfl)) (by rfl) T.z_sorted (by decide +kernel) (pa_cons (pv 8) pa_nil)))
      (pss_cons (ps_if (pt_cmpR (eqDK (K := K) hr.units) (pv 5) (pe_lst pa_nil) (nomark _))
      (pss_cons (ps_set (i := 10) sc_l_start_right.nd rfl (Or.inl rfl) (pe_cmpR (eqDK (K := K) hr.units) (pv 4) (pe_tup (pa_cons pe_str (pa_cons (pe_callTy (T := "tuple") (tupleL (K := K)) (by rfl) T.z_tuple (by decide +kernel) (pa_cons (pv 6) pa_nil)) pa_nil))) (nomark _)))
      (pss_one (ps_ret (pe_ifExp (PW.pt (pw_and (pt_val (pv 10)) (pw_and1 (pt_cmpR op_isBl (pe_call (ok_shows_round (K := K) T) (hr.mono (by decide)) rfl T.g_shows_round T.f_shows_round.kp B1 B1v pass0 (pa_cons (pv 0) (pa_cons (pv 3) (pa_cons (pv 4) pa_nil)))) pe_bl (nomark _))))) (pe_lst pa_nil) pe_non))))
      pss_nil)
      (pss_cons (ps_if (pt_cmpR (neDK (K := K) hr.units) (pv 5) (pe_listRg rfl (by rfl) T.z_list (prg_2 (by rfl) T.z_range (pe_ix (ixl (K := K)) (pv 5) pe_int (fun _ _ => rfl)) (pe_op op_add (pe_ix (ixl (K := K)) (pv 5) (pe_un un_neg pe_int) (fun _ _ => rfl)) pe_int))) (nomark _))
      (pss_one (ps_ret pe_non))
      pss_nil)
      (pss_one (ps_expr (pe_bm PySem.F.plainAttrs_list PySem.F.slot_list_append PySem.F.type_list_append mt_append (pv 6) (pa_cons (pe_tup (pa_cons (pe_ix (ixl (K := K)) (pv 5) pe_int (fun _ _ => rfl)) (pa_cons (pe_ix (ixl (K := K)) (pv 5) (pe_un un_neg pe_int) (fun _ _ => rfl)) pa_nil))) pa_nil))))))))))
      (pss_cons (ps_if (PW.pt (pw_or (pt_cmpR (neDK (K := K) hr.units) (pe_slice (slU (K := K)) (pv 4) po_none (po_some pe_int)) (pe_tup (pa_cons pe_str (pa_cons (pe_callTy (T := "tuple") (tupleL (K := K)) (by rfl) T.z_tuple (by decide +kernel) (pa_cons (pv 6) pa_nil)) pa_nil))) (nomark _)) (pw_or (pt_cmpR op_ne (pe_callB (id := "len") (lenS (K := K)) (by rfl) T.z_len PySem.boot_len (pa_cons (pv 4) pa_nil)) pe_int (nomark _)) (pw_or1 (pt_not (pt_val (pe_call (ok_l_rows_right (K := K) T) (hr.mono (by decide)) rfl T.g_l_rows_right T.f_l_rows_right.kp B2 B2v pass0 (pa_cons (pv 1) (pa_cons (pv 4) pa_nil)))))))))
      (pss_one (ps_ret pe_non))
      pss_nil)
      (pss_cons (ps_if (pt_cmpR op_notBl (pe_call (ok_shows_round (K := K) T) (hr.mono (by decide)) rfl T.g_shows_round T.f_shows_round.kp B1 B1v pass0 (pa_cons (pv 0) (pa_cons (pv 3) (pa_cons (pv 4) pa_nil)))) pe_bl (nomark _))
      (pss_one (ps_ret pe_non))
      pss_nil)
      (pss_one (ps_ret (pe_lc (own := [("_law_size", 9)]) (g := gName 9) rfl sc_l_start_right.nd (pi_list (pv 5)) (blkOk_by (own := [("_law_size", 9)]) (N := N_l_start_right) (sc := (defScope s_l_start_right)) (by decide +kernel)) (fun _ _ _ _ _ => (pg_name (i := 9) sc_l_start_right.nd rfl (Or.inl rfl))) (fun _ _ _ _ _ => pts_nil) (fun _ _ _ _ _ => (pe_callB (id := "abs") call_abs (by rfl) T.z_abs (by decide +kernel) (pa_cons (pe_op op_sub (pv 9) (pv 3)) pa_nil)))))))))), ?_⟩
    have cl_Ladder := T.cl_Ladder
    have na_Ladder_marks := T.na_Ladder_marks
    have na_Ladder_rule := T.na_Ladder_rule
    have na_Ladder_least := T.na_Ladder_least
    have na_Ladder_most := T.na_Ladder_most
    have cl_Measure := T.cl_Measure
    have na_Measure_top := T.na_Measure_top
    have na_Measure_bottom := T.na_Measure_bottom
    
    have lw0 := (List.getElem?_eq_some_iff.mp hw0).1
    have lww : (ws ++ ws.take 1).length = ws.length + 1 := by rw [List.length_append, List.length_take]; omega
    walk_at "f"
    all_goals (try refine ⟨ws, w0, n, rfl, hW, hw0, hn, k0, by omega, by omega, fun Td H1 s1 RD => ?_⟩)
    all_goals (try refine ⟨ws, w0, rfl, hW, hw0, hn, k0, by omega, by omega, fun Td H1 s1 RD => ?_⟩)
    walk_at "f"
    intro B0 nB0
    have sB0 := same1 (u := .lst [V.int (n : Int)]) nB0
    have hB0 : (upd H1 B0 (.lst [V.int (n : Int)])) B0 = some (.lst ([(n : Int)].map V.int)) := upd_same
    generalize upd H1 B0 (.lst [V.int (n : Int)]) = H2 at *
    walk_at "f"
    intro t0 nt0
    have st0 := same1 (u := .tup [V.int (n : Int), V.int (n : Int)]) nt0
    have ht0 : (upd H2 t0 (.tup [V.int (n : Int), V.int (n : Int)])) t0 = some (.tup [V.int (n : Int), V.int (n : Int)]) := upd_same
    generalize upd H2 t0 (.tup [V.int (n : Int), V.int (n : Int)]) = H3 at *
    walk_at "f"
    intro R0 nR0
    have sR0 := same1 (u := .lst [V.ref t0]) nR0
    have hR0 : (upd H3 R0 (.lst [V.ref t0])) R0 = some (.lst [V.ref t0]) := upd_same
    have pr0 : PrL (upd H3 R0 (.lst [V.ref t0])) [V.ref t0] [(n, n)] := by
      refine ⟨rfl, fun i a b e => ?_⟩
      cases i with
      | zero => cases e; exact ⟨t0, rfl, sR0 _ _ ht0⟩
      | succ i => simp at e
    have s13 := sB0.trans st0
    have hB3 := sR0 _ _ (st0 _ _ hB0)
    have nR1 : H1 R0 = none := nonS s13 nR0
    have sAll := s13.trans sR0
    generalize upd H3 R0 (.lst [V.ref t0]) = H4 at *
    obtain ⟨Rt, qs, rs, RS, hRt, prt, ans⟩ := id RD
    have lqf : ∀ w ∈ ws ++ ws.take 1, LadQ w.zs w.r w.lo w.hi := fun w hw => (lq w hw).1
    have w0f : (ws ++ ws.take 1)[0]? = some w0 := by rw [List.getElem?_append_left lw0]; exact hw0
    have n0' : ∀ w0', (ws ++ ws.take 1)[0]? = some w0' → n < w0'.zs.length := fun w e => by rw [w0f] at e; cases e; exact hn
    have lrs := RS.len
    have hGS := SqL.of (K := K) ((s1.trans sAll) _ _ hG)
    walk_at "f"
    refine ⟨⟨_, hGS⟩, ?_⟩
    refine for_it (walk_list (K := K) (a := G) (xs := gs)) (fun i σ H' => ∃ (B : Addr) (a b : Nat) (ps : List V) (v7 v8 v9 : Option V), σ = [some (.ref W), some (.ref O), some (.ref G), some (.int n), some (.ref Td), some (.ref B), some (.ref R0), v7, v8, v9, none] ∧ Same H1 H' ∧ H' R0 = some (.lst ps) ∧ PrL H' ps (rs.take (i + 1)) ∧ rs[i]? = some (a, b) ∧ H' B = some (.lst ((rngI a b).map V.int))) ?_ (fun i σ H' _ p => ?_) ?_ ?_
    · refine ⟨B0, n, n, [V.ref t0], _, _, _, rfl, sAll, hR0, ?_, RS.first, ?_⟩
      · have e : rs.take (0 + 1) = [(n, n)] := by
          obtain ⟨x, t, e⟩ : ∃ x t, rs = x :: t := by
            cases rs with
            | nil => have := RS.first; simp at this
            | cons x t => exact ⟨x, t, rfl⟩
          subst e
          have := RS.first
          cases this
          rfl
        rw [e]
        exact pr0
      · rw [show rngI n n = [(n : Int)] by unfold rngI; rw [show n + 1 - n = 1 by omega]; rfl]
        exact hB3
    · obtain ⟨_, _, _, _, _, _, _, _, s, _⟩ := p
      exact (s1.trans s).seq (SqL.of hG)
    · rintro i x σ H5 H5' hi ⟨B, a, b, ps, v7, v8, v9, rfl, s5, hR, pr, hr, hB⟩ yy
      obtain ⟨rfl, hx⟩ := yy
      have hi' : i < ws.length := by omega
      obtain ⟨pe, epe, he⟩ := ag i hi'
      rw [epe] at hx
      cases hx
      obtain ⟨w1, hw1⟩ : ∃ w, (ws ++ ws.take 1)[i]? = some w := ⟨_, List.getElem?_eq_getElem (by omega)⟩
      obtain ⟨w2, hw2⟩ : ∃ w, (ws ++ ws.take 1)[i + 1]? = some w := ⟨_, List.getElem?_eq_getElem (by omega)⟩
      have l2 := (lq w2 (List.mem_of_getElem? hw2)).2
      have l1 := (lq w1 (List.mem_of_getElem? hw1)).2
      have ab := RS.toRunsP.at_ w0f hn hr hw1
      have lri := (List.getElem?_eq_some_iff.mp hr).1
      show tSeq _ _ _ _ _
      refine ends_gen2 (R := Q) rfl rfl fun DE eDE eDR => ?_
      walk_at "f"
      intro E nE
      have hE : (upd H5' E (.dK [])) E = some (.dK []) := upd_same
      have sE := same1 (u := .dK []) nE
      have nEH : H1 E = none := nonS s5 nE
      have nER : R0 ≠ E := fun q => by rw [q, nE] at hR; cases hR
      have nEB : B ≠ E := fun q => by rw [q, nE] at hB; cases hB
      have hR6 := sE _ _ hR
      have hB6 := sE _ _ hB
      have pr6 := pr.nl (Nl.of sE)
      have s6 := s5.trans sE
      generalize upd H5' E (.dK []) = H6 at *
      clear hR hB pr s5 sE nE
      have hBS := SqL.of (K := K) hB6
      walk_at "f"
      refine for_it (walk_list (K := K) (a := B) (xs := (rngI a b).map V.int)) (fun j σ H' => ∃ (kvs : List (Key × V)) (v9 : Option V), σ = [some (.ref W), some (.ref O), some (.ref G), some (.int n), some (.ref Td), some (.ref B), some (.ref R0), some (.ref pe), some (.ref E), v9, none] ∧ Same H1 H' ∧ H' R0 = some (.lst ps) ∧ PrL H' ps (rs.take (i + 1)) ∧ H' B = some (.lst ((rngI a b).map V.int)) ∧ H' E = some (.dK kvs) ∧ KeysZ kvs (fun z => ∃ l : Nat, z = (l : Int) ∧ ∃ t : Nat, t < j ∧ Lnk (ws ++ ws.take 1) i (a + t) l)) ?_ (fun j σ H' _ p => ?_) ?_ ?_
      · exact ⟨[], _, rfl, s6, hR6, pr6, hB6, hE, KeysZ.nil.imp fun z => ⟨fun h => h.elim, fun ⟨l, _, t, h, _⟩ => absurd h (Nat.not_lt_zero _)⟩⟩
      · obtain ⟨_, _, _, _, _, _, hB', _⟩ := p
        exact SqL.of hB'
      · rintro j y σ H7 H7' hj ⟨kvs, v9, rfl, s7, hR7, pr7, hB7, hE7, kz⟩ yy
        obtain ⟨rfl, hy⟩ := yy
        have hj' : j < b + 1 - a := by rw [List.length_map, rngI_len] at hj; exact hj
        rw [List.getElem?_map, rngI_get hj'] at hy
        cases hy
        have lkl : ∀ {k l}, Lnk (ws ++ ws.take 1) i k l → k < 24 ∧ l < 24 := fun {k l} h => by
          obtain ⟨u, u', x, e1, e2, f1, f2⟩ := h
          rw [hw1] at e1
          rw [hw2] at e2
          cases e1
          cases e2
          have := sizeQ_lt f1
          have := sizeQ_lt f2
          exact ⟨by omega, by omega⟩
        walk_at "f"
        refine ⟨.inr (.inr (.inl ⟨rfl, .inl ⟨_, hE7⟩⟩)), ?_⟩
        obtain ⟨kvp, hpe1, kzp, inn⟩ := he.same s1
        have hpe := s7 _ _ hpe1
        walk_at "f"
        refine ⟨.inl ⟨kvp, .inl hpe⟩, ?_⟩
        walk_at "f"
        intro q nq
        have sq := same1 (u := .dK []) nq
        have hq : (upd H7' q (.dK [])) q = some (.dK []) := upd_same
        have hR8 := sq _ _ hR7
        have hB8 := sq _ _ hB7
        have hE8 := sq _ _ hE7
        have pr8 := pr7.nl (Nl.of sq)
        have hpe8 := sq _ _ hpe
        have s8 := s7.trans sq
        generalize upd H7' q (.dK []) = H8 at *
        have nEq : E ≠ q := fun e => by rw [← e, hE7] at nq; cases nq
        have lkvs : kvs.length ≤ 24 := kz.len24 fun z ⟨l, e, t, _, h⟩ => ⟨l, e, (lkl h).2⟩
        obtain ⟨o, G2, kv2, ev, nEG, hG2, kz2, hd⟩ : ∃ (o : Option V) (G2 : Addr) (kv2 : List (Key × V)), o.getD (.ref q) = .ref G2 ∧ E ≠ G2 ∧ H8 G2 = some (.dK kv2) ∧ KeysZ kv2 (fun z => ∃ l : Nat, z = (l : Int) ∧ Lnk (ws ++ ws.take 1) i (a + j) l) ∧ DGet H8 pe (.int ((a + j : Nat) : Int)) o := by
          have hd : DGet H8 pe (.int ((a + j : Nat) : Int)) (valV kvp (Sum.inl ((a + j : Nat) : Int))) := .inl ⟨kvp, Sum.inl ((a + j : Nat) : Int), .inl hpe8, rfl, rfl⟩
          cases e : valV kvp (Sum.inl ((a + j : Nat) : Int)) with
          | none =>
            rw [e] at hd
            refine ⟨none, q, [], rfl, nEq, hq, KeysZ.nil.imp fun z => ⟨fun h => h.elim, fun ⟨l, e2, h⟩ => ?_⟩, hd⟩
            have m := (kzp.iff ((a + j : Nat) : Int)).mpr ⟨a + j, l, rfl, h⟩
            obtain ⟨kv, h1, h2⟩ := List.mem_map.mp m
            exact valV_none e kv h1 h2
          | some v =>
            rw [e] at hd
            obtain ⟨a2, k2, kv2, ekv, ha2, kz2⟩ := inn _ (valV_some e)
            have ek : k2 = a + j := by
              have := Sum.inl.inj (congrArg Prod.fst ekv)
              omega
            subst ek
            have ev : v = .ref a2 := congrArg Prod.snd ekv
            subst ev
            refine ⟨some (.ref a2), a2, kv2, rfl, fun e2 => ?_, s8 _ _ ha2, kz2, hd⟩
            rw [e2, ha2] at nEH
            cases nEH
        refine ⟨o, hd, ?_⟩
        rw [ev]
        have lk2 : kv2.length ≤ 24 := kz2.len24 fun z ⟨l, e, h⟩ => ⟨l, e, (lkl h).2⟩
        refine ⟨E, G2, kvs, kv2, rfl, rfl, nEG, hE8, hG2, Nat.le_of_lt (szs (by omega)), ?_⟩
        have kz3 := kz.merge kz2.al
        refine ⟨mergeK kvs kv2, _, rfl, fun c o e => ?_, ?_, pr8.tup (tup_upd hE8 fun zs h => by cases h), ?_, upd_same, kz3.imp fun z => ?_⟩
        · rw [upd_ne (ne_of_none e nEH)]
          exact s8 _ _ e
        · rw [upd_ne nER]
          exact hR8
        · rw [upd_ne nEB]
          exact hB8
        · rw [kz2.iff z]
          constructor
          · rintro (⟨l, e, t, h, r⟩ | ⟨l, e, h⟩)
            · exact ⟨l, e, t, by omega, r⟩
            · exact ⟨l, e, j, by omega, h⟩
          · rintro ⟨l, e, t, h, r⟩
            by_cases c : t = j
            · subst c
              exact .inr ⟨l, e, r⟩
            · exact .inl ⟨l, e, t, by omega, r⟩
      · rintro σ H7 ⟨kvs, v9, rfl, s7, hR7, pr7, hB7, hE7, kz⟩
        rw [show ((rngI a b).map V.int).length = b + 1 - a by rw [List.length_map, rngI_len]] at kz
        have mem : ∀ z : Int, (∃ l : Nat, z = (l : Int) ∧ ∃ t, t < b + 1 - a ∧ Lnk (ws ++ ws.take 1) i (a + t) l) ↔ ∃ l : Nat, z = (l : Int) ∧ ∃ c d, rs[i + 1]? = some (c, d) ∧ c ≤ l ∧ l ≤ d := fun z => by
          constructor
          · rintro ⟨l, e, t, ht, h⟩
            refine ⟨l, e, (rch_runs RS lqf (i + 1) (by omega) l).mp (rch_lnk.mpr ⟨a + t, (rch_runs RS lqf i (by omega) _).mpr ⟨a, b, hr, by omega, by omega⟩, h⟩)⟩
          · rintro ⟨l, e, h⟩
            obtain ⟨k', hk', lk⟩ := rch_lnk.mp ((rch_runs RS lqf (i + 1) (by omega) l).mpr h)
            obtain ⟨a', b', e', h1, h2⟩ := (rch_runs RS lqf i (by omega) _).mp hk'
            rw [hr] at e'
            cases e'
            exact ⟨l, e, k' - a, by omega, by rw [show a + (k' - a) = k' by omega]; exact lk⟩
        obtain ⟨ks, ek, nd, mk⟩ := (kz.imp mem).ints
        walk_at "f"
        refine ⟨kvs, ks, rfl, hE7, ek, fun ks' p pm srt np => ?_⟩
        have nRp : p ≠ R0 := fun e => by rw [e, hR7] at np; cases np
        have sp := same1 (u := .lst (ks'.map V.int)) np
        have hp : (upd H7 p (.lst (ks'.map V.int))) p = some (.lst (ks'.map V.int)) := upd_same
        have hR8 := sp _ _ hR7
        have pr8 := pr7.nl (Nl.of sp)
        have s8 := s7.trans sp
        generalize upd H7 p (.lst (ks'.map V.int)) = H8 at *
        have mk' : ∀ z, z ∈ ks' ↔ ∃ l : Nat, z = (l : Int) ∧ ∃ c d, rs[i + 1]? = some (c, d) ∧ c ≤ l ∧ l ≤ d := fun z => by rw [pm.mem_iff]; exact mk z
        have pw := pw_ltI srt (pm.nodup_iff.mpr nd)
        clear hR7 pr7 hB7 hE7 kz s7 sp np mk ek nd pm
        walk_at "f"
        intro z0 nz0
        have sz0 := same1 (u := .lst []) nz0
        have hz0 : (upd H8 z0 (.lst [])) z0 = some (.lst []) := upd_same
        have hR9 := sz0 _ _ hR8
        have hp9 := sz0 _ _ hp
        have pr9 := pr8.nl (Nl.of sz0)
        have s9 := s8.trans sz0
        generalize upd H8 z0 (.lst []) = H9 at *
        clear hR8 hp pr8 s8 sz0 nz0
        by_cases cl : i + 1 < rs.length
        · obtain ⟨⟨c, d⟩, hr2⟩ : ∃ r, rs[i + 1]? = some r := ⟨_, List.getElem?_eq_getElem cl⟩
          have cd := RS.toRunsP.at_ w0f hn hr2 hw2
          have eks : ks' = rngI c d := sorted_uniq pw (rngI_pw c d) fun z => by
            rw [mk', rngI_mem]
            constructor
            · rintro ⟨l, e, c', d', e2, h⟩
              rw [hr2] at e2
              cases e2
              exact ⟨l, e, h⟩
            · rintro ⟨l, e, h⟩
              exact ⟨l, e, c, d, hr2, h⟩
          subst eks
          have ec : rngI c d = (c : Int) :: (rngI c d).drop 1 := by
            have h0 := rngI_get (a := c) (b := d) (i := 0) (by omega)
            obtain ⟨x, t, e⟩ : ∃ x t, rngI c d = x :: t := by
              cases e : rngI c d with
              | nil => rw [e] at h0; simp at h0
              | cons x t => exact ⟨x, t, rfl⟩
            rw [e] at h0 ⊢
            cases h0
            rfl
          refine ⟨_, _, dpL hp9, dpN hz0, shL _, rfl, _, rfl, ?_⟩
          rw [ec, eqv_cons]
          clear ec hz0
          have lrg := rngI_len c d
          have lrm : ((rngI c d).map V.int).length = d + 1 - c := by rw [List.length_map, lrg]
          have i0 : atI ((rngI c d).map V.int) 0 = some (V.int (c : Int)) := atI_nat (j := 0) (by rw [List.getElem?_map, rngI_get (by omega)]; rfl)
          have i1 : atI ((rngI c d).map V.int) (-1) = some (V.int (d : Int)) := atI_end (n := d - c) (by omega) (by rw [List.getElem?_map, rngI_get (by omega), show c + (d - c) = d by omega]; rfl)
          have hp9S := SqL.of (K := K) hp9
          refine iteF ?_
          walk_at "f"
          intro q nq
          rw [rgV_rng]
          have sq := same1 (u := .lst ((rngI c d).map V.int)) nq
          have hq : (upd H9 q (.lst ((rngI c d).map V.int))) q = some (.lst ((rngI c d).map V.int)) := upd_same
          have hRq := sq _ _ hR9
          have hpq := sq _ _ hp9
          have hpqS := SqL.of (K := K) hpq
          have prq := pr9.nl (Nl.of sq)
          have s10 := s9.trans sq
          generalize upd H9 q (.lst ((rngI c d).map V.int)) = H10 at *
          clear hR9 hp9 hp9S pr9 s9 sq nq
          refine ⟨_, _, dpL hpq, dpL hq, shL _, shL _, _, rfl, ?_⟩
          rw [eqv_same]
          refine iteF ?_
          walk_at "f"
          intro t nt
          have st := same1 (u := .tup [V.int (c : Int), V.int (d : Int)]) nt
          have ht : (upd H10 t (.tup [V.int (c : Int), V.int (d : Int)])) t = some (.tup [V.int (c : Int), V.int (d : Int)]) := upd_same
          have hRt2 := st _ _ hRq
          have hpt := st _ _ hpq
          have prt2 := prq.nl (Nl.of st)
          have s11 := s10.trans st
          generalize upd H10 t (.tup [V.int (c : Int), V.int (d : Int)]) = H11 at *
          have lps := prt2.1
          rw [List.length_take] at lps
          walk_at "f"
          show DE.nx _ _
          rw [eDE]
          have et : rs.take (i + 1 + 1) = rs.take (i + 1) ++ [(c, d)] := by rw [List.take_succ, hr2]; rfl
          refine ⟨p, c, d, ps ++ [V.ref t], _, _, _, rfl, fun x o e => ?_, upd_same, ?_, hr2, ?_⟩
          · rw [upd_ne (ne_of_none e nR1)]
            exact s11 _ _ e
          · rw [et]
            exact (prt2.snoc ht).tup (tup_upd hRt2 fun zs h => by cases h)
          · rw [upd_ne nRp]
            exact hpt
        · have el : rs.length = i + 1 := by omega
          have eks : ks' = [] := by
            cases e : ks' with
            | nil => rfl
            | cons x t =>
              obtain ⟨l, _, c, d, e2, _⟩ := (mk' x).mp (by rw [e]; simp)
              have := (List.getElem?_eq_some_iff.mp e2).1
              omega
          subst eks
          refine ⟨_, _, dpL hp9, dpN hz0, shL _, rfl, _, rfl, ?_⟩
          rw [eqv_nil]
          have RD9 := RD.same s9
          have hT9 : H9 Td = some (.tup [.str "stops", .ref Rt]) := by
            rcases ans with ⟨_, h⟩ | ⟨h, _⟩
            · exact s9 _ _ h
            · omega
          have hRt9 := s9 _ _ hRt
          have prt9 := prt.nl (Nl.of s9)
          rw [← el, List.take_length] at pr9
          have hR9S := SqL.of (K := K) hR9
          refine iteT ?_
          walk_at "f"
          intro l nl
          have sl := same1 (u := .tup ps) nl
          have hl : (upd H9 l (.tup ps)) l = some (.tup ps) := upd_same
          have RDl := RD9.same sl
          have hTl := sl _ _ hT9
          have hRl := sl _ _ hRt9
          have prl := prt9.nl (Nl.of sl)
          have pr9l := pr9.nl (Nl.of sl)
          have s10 := s9.trans sl
          generalize upd H9 l (.tup ps) = H10 at *
          clear RD9 hT9 hRt9 prt9 pr9 s9 sl nl hR9 hR9S hp9 hz0
          walk_at "f"
          intro p1 np1
          have sp1 := same1 (u := .tup [V.str "stops", V.ref l]) np1
          have hp1 : (upd H10 p1 (.tup [V.str "stops", V.ref l])) p1 = some (.tup [V.str "stops", V.ref l]) := upd_same
          have RDm := RDl.same sp1
          have hTm := sp1 _ _ hTl
          have hRm := sp1 _ _ hRl
          have hlm := sp1 _ _ hl
          have prm := prl.nl (Nl.of sp1)
          have prn := pr9l.nl (Nl.of sp1)
          have s11 := s10.trans sp1
          refine ⟨_, _, dp_pair hTm hRm prm, dp_pair hp1 hlm prn, sh_pair (by decide +kernel) _, sh_pair (by decide +kernel) _, _, rfl, ?_⟩
          rw [eqv_pairR]
          walk_at "f"
          all_goals (try refine ⟨ws, w0, n, rfl, hW.same (s1.trans s11), hw0, hn, k0, k1, by omega, RDm, fun H12 s12 => ?_⟩)
          have s112 := s11.trans s12
          clear RDm hTm hRm hlm prm prn hp1
          walk_at "f"
          intro D nD
          show DE.rt _ _
          rw [eDR]
          refine kk D [] _ (nonS (s1.trans s112) nD) ((s1.trans s112).trans (same1 nD)) upd_same (by decide) fun z => ⟨fun h => by simp at h, fun ⟨l2, _, h⟩ => ?_⟩
          obtain ⟨a', b', e', _⟩ := (rch_runs RS lqf ws.length (by omega) l2).mp h
          have := (List.getElem?_eq_some_iff.mp e').1
          omega
    · rintro σ H5 ⟨B, a, b, ps, v7, v8, v9, rfl, s5, hR, pr, hr, hB⟩
      have lri := (List.getElem?_eq_some_iff.mp hr).1
      have hRS := SqL.of (K := K) hR
      rcases ans with ⟨h, _⟩ | ⟨lr, A, B2, a2, b2, hT, last, rA, rB⟩
      · omega
      have hT5 := s5 _ _ hT
      have hTS := SqT.of (K := K) hT5
      walk_at "f"
      intro Z H6 s6 hZ
      have hZ : SqT K H6 Z [V.str (Str.ofString "comes"), V.ref Rt] := hZ
      have s16 := s5.trans s6
      have hR6 := s6 _ _ hR
      have hR6S := SqL.of (K := K) hR6
      have pr6 := pr.nl (Nl.of s6)
      have hB6 := s6 _ _ hB
      clear hTS hT5 hR hRS pr hB
      walk_at "f"
      intro l nl
      have sl := same1 (u := .tup ps) nl
      have hl : (upd H6 l (.tup ps)) l = some (.tup ps) := upd_same
      have hZ7 := sl.sqt hZ
      have pr7 := pr6.nl (Nl.of sl)
      have hB7 := sl _ _ hB6
      have s17 := s16.trans sl
      generalize upd H6 l (.tup ps) = H7 at *
      clear pr6 hB6 s16 sl nl hR6 hR6S hZ s6
      walk_at "f"
      intro p np
      have sp := same1 (u := .tup [V.str "comes", V.ref l]) np
      have hp : (upd H7 p (.tup [V.str "comes", V.ref l])) p = some (.tup [V.str "comes", V.ref l]) := upd_same
      have hZ8 := sp.sqt hZ7
      have hl8 := sp _ _ hl
      have pr8 := pr7.nl (Nl.of sp)
      have hB8 := sp _ _ hB7
      have s8 := s17.trans sp
      generalize upd H7 p (.tup [V.str "comes", V.ref l]) = H8 at *
      have hRt8 := s8 _ _ hRt
      have prt8 := prt.nl (Nl.of s8)
      rw [lg, show ws.length + 1 = rs.length by omega, List.take_length] at pr8
      refine ⟨_, _, .tup hZ8 (.cons (.str _) (.cons (PrL.dp hRt8 prt8) .nil)), dp_pair hp hl8 pr8, sh_pair (by decide +kernel) _, sh_pair (by decide +kernel) _, _, rfl, ?_⟩
      rw [eqv_pairR]
      refine iteF ?_
      have hT8 := s8 _ _ hT
      have hT8S := SqT.of (K := K) hT8
      clear hZ7 hl pr7 hB7 hZ8 hl8 hp
      have i31 : (ws ++ ws.take 1).length ≤ 31 := by omega
      have ao8 : ∀ (i : Nat) (w : LQ), (ws ++ ws.take 1)[i]? = some w → ∃ p : Addr, os[i]? = some (.ref p) ∧ LadAt K (He.ga K "Measure") (He.ga K "Ladder") H8 p (4 * k + 36) w.zs w.r w.lo w.hi := fun i w e => by
        obtain ⟨p, g1, g2⟩ := ao i w e
        exact ⟨p, g1, g2.same (s1.trans s8)⟩
      have hO8 := (s1.trans s8) _ _ hO
      walk_at "f"
      all_goals (try refine ⟨ws ++ ws.take 1, rs, rfl, hO8, lo, ao8, by omega, by omega, i31, hT8, hRt8, prt8, RS.toRunsP, lr, last, rA.same s8, rB.same s8, fun H9 s9 => ?_⟩)
      have s19 := s8.trans s9
      have RD9 := RD.same s19
      have hB9 := s9 _ _ hB8
      clear ao8 hO8 hT8 hT8S hRt8 prt8 pr8 hB8
      walk_at "f"
      all_goals (try refine ⟨ws, w0, n, rfl, hW.same (s1.trans s19), hw0, hn, k0, k1, by omega, RD9, fun H10 s10 => ?_⟩)
      all_goals (try refine ⟨ws, w0, rfl, hW.same (s1.trans s19), hw0, hn, k0, k1, by omega, RD9, fun H10 s10 => ?_⟩)
      have hB10 := s10 _ _ hB9
      have hB10S := SqL.of (K := K) hB10
      have s110 := (s1.trans s19).trans s10
      clear RD9 hB9
      walk_at "f"
      intro D nD
      have nDH := nonS s110 nD
      have lrg := rngI_len a b
      obtain ⟨wl, hwl⟩ : ∃ w, (ws ++ ws.take 1)[gs.length]? = some w := ⟨_, List.getElem?_eq_getElem (by omega)⟩
      have lwl := (lq wl (List.mem_of_getElem? hwl)).2
      have ab := RS.toRunsP.at_ w0f hn hr hwl
      have lnn : ((rngI a b).map V.int).length = (rngI a b).length := List.length_map ..
      refine lcz (n := (rngI a b).length) (lnn ▸ walk_list (xs := (rngI a b).map V.int)) (fun _ _ g s => s.seq g) ((rngI a b).map fun z => some (V.int (if z - (n : Int) < 0 then -(z - (n : Int)) else z - (n : Int)))) (List.length_map ..) (szs (by omega)) hB10S nD (fun j x H4 H5 o N M2 hj ho s4 yy hN hM => ?_) (fun H4 s4 hE => ?_)
      · obtain ⟨rfl, hx⟩ := yy
        obtain ⟨z, hz⟩ : ∃ z, (rngI a b)[j]? = some z := ⟨_, List.getElem?_eq_getElem hj⟩
        rw [List.getElem?_map, hz] at hx ho
        cases hx
        cases ho
        refine ⟨rfl, yesT ?_⟩
        walk_at "f"
        exact hN _ _ rfl (Same.refl _)
      have eq : ((rngI a b).map fun z => some (V.int (if z - (n : Int) < 0 then -(z - (n : Int)) else z - (n : Int)))).filterMap id = ((rngI a b).map fun z => if z - (n : Int) < 0 then -(z - (n : Int)) else z - (n : Int)).map V.int := by
        rw [List.filterMap_map, List.map_map]
        show List.filterMap (some ∘ (V.int ∘ fun z => if z - (n : Int) < 0 then -(z - (n : Int)) else z - (n : Int))) (rngI a b) = _
        rw [List.filterMap_eq_map]
      rw [eq] at hE
      refine kk D _ _ nDH (s110.trans s4) hE (by rw [List.length_map]; omega) fun z => ?_
      rw [List.mem_map]
      constructor
      · rintro ⟨y, hy, e⟩
        obtain ⟨k', rfl, h1, h2⟩ := rngI_mem.mp hy
        rw [dr_abs] at e
        exact ⟨k', e.symm, (rch_runs RS lqf ws.length (by omega) k').mpr ⟨a, b, by rw [← lg]; exact hr, h1, h2⟩⟩
      · rintro ⟨k', e, hk⟩
        obtain ⟨a', b', e', h1, h2⟩ := (rch_runs RS lqf ws.length (by omega) k').mp hk
        rw [← lg, hr] at e'
        cases e'
        exact ⟨(k' : Int), rngI_mem.mpr ⟨k', rfl, h1, h2⟩, by rw [dr_abs, e]⟩
theorem ok_l_right {P : Program} {w : World} {K : PySem.W.Frag} {mg : Str → Option Value} {base : Heap} {φ : Fds} (T : Txt K mg φ) : FnOk P w K mg base CX0 16 (He.fAd K ("_law_right", none)) φ.l_right p_l_right sp_lright36 := by
  obtain ⟨_, B0v, B0⟩ := b_l_made_1 T
  obtain ⟨_, B1v, B1⟩ := b_l_tried_1 T
  obtain ⟨_, B2v, B2⟩ := b_Ladder_size_2 T
  obtain ⟨_, B3v, B3⟩ := b_l_leads_2 T
  obtain ⟨_, B4v, B4⟩ := b_Ladder_len_1 T
  obtain ⟨_, B5v, B5⟩ := b_l_start_right_4 T
  obtain ⟨_, B6v, B6⟩ := b_most_drift_1 T
  obtain ⟨_, B7v, B7⟩ := b_led_3 T
  refine T.f_l_right.ok sc_l_right (fun vs H Q E h => ?_) (fun cdv A outer s H vs Q E hr h => ?_)
  · obtain ⟨D, ps, ds, rfl, hD, lps, al, l2, l4, kk⟩ := h; rfl
  · obtain ⟨D, ps, ds, rfl, hD, lps, al, l2, l4, kk⟩ := h
    refine ⟨_, PSs.nox (pss_cons (ps_set (i := 1) sc_l_right.nd rfl (Or.inl rfl) (pe_callTy (T := "tuple") (tupleL (K := K)) (by rfl) T.z_tuple (by decide +kernel) (pa_cons (pe_lc (own := [("_law_ladder", 13)]) (g := gName 13) rfl sc_l_right.nd (pi_list (pv 0)) (blkOk_by (own := [("_law_ladder", 13)]) (N := N_l_right) (sc := (defScope s_l_right)) (by decide +kernel)) (fun _ _ _ _ _ => (pg_name (i := 13) sc_l_right.nd rfl (Or.inl rfl))) (fun _ _ _ _ _ => pts_nil) (fun _ _ _ _ _ => (pe_call (ok_l_made (K := K) T) (hr.mono (by decide)) rfl T.g_l_made T.f_l_made.kp B0 B0v pass0 (pa_cons (pv 13) pa_nil)))) pa_nil)))
      (pss_cons (ps_asg (pe_tup (pa_cons (pe_op op_cat (pe_callTy (T := "list") (listOf (K := K)) (by rfl) T.z_list (by decide +kernel) (pa_cons (pv 1) pa_nil)) (pe_lst (pa_cons (pe_ix (ixt (K := K)) (pv 1) pe_int (fun _ _ => rfl)) pa_nil))) (pa_cons (pe_call (ok_l_tried (K := K) T) (hr.mono (by decide)) rfl T.g_l_tried T.f_l_tried.kp B1 B1v pass0 (pa_cons (pv 0) pa_nil)) pa_nil))) (pg_tup rfl (pgs_cons (pg_name (i := 2) sc_l_right.nd rfl (Or.inl rfl)) (pgs_cons (pg_name (i := 3) sc_l_right.nd rfl (Or.inr rfl)) pgs_nil))))
      (pss_cons (ps_set (i := 4) sc_l_right.nd rfl (Or.inl rfl) (pe_lst pa_nil))
      (pss_cons (ps_setLcD (i := 5) (s0 := s) (H0 := H) (own := [("_law_one", 14)]) (g := gName 14) rfl sc_l_right.nd rfl rfl (sw_true rfl rfl rfl (by decide +kernel)) (pi_tup (pv 1)) (blkOk_by (own := [("_law_one", 14)]) (N := N_l_right) (sc := (defScope s_l_right)) (by decide +kernel)) pts_nil (pe_lc (own := [("_law_measure", 15)]) (g := gName 15) rfl sc_l_right.nd (pi_listK (K := K) (pv 3)) (blkOk_by (own := [("_law_measure", 15)]) (N := N_l_right) (sc := (relS _ (defScope s_l_right))) (by decide +kernel)) (fun _ _ _ _ _ => (pg_name (i := 15) sc_l_right.nd rfl (Or.inl rfl))) (fun _ _ _ _ _ => pts_nil) (fun _ _ _ _ _ => (pe_meth (pv 14) T.cl_Ladder T.me_Ladder_size (ok_Ladder_size (K := K) T) (hr.mono (by decide)) B2 B2v pass0 (pa_cons (pv 15) pa_nil)))) (fun _ _ _ _ _ => (pg_name (i := 14) sc_l_right.nd rfl (Or.inr rfl))) (fun _ _ _ _ _ => pts_nil) (fun _ _ _ _ _ => (pe_lc (own := [("_law_measure", 15)]) (g := gName 15) rfl sc_l_right.nd (pi_listK (K := K) (pv 3)) (blkOk_by (own := [("_law_measure", 15)]) (N := N_l_right) (sc := (relS _ (defScope s_l_right))) (by decide +kernel)) (fun _ _ _ _ _ => (pg_name (i := 15) sc_l_right.nd rfl (Or.inl rfl))) (fun _ _ _ _ _ => pts_nil) (fun _ _ _ _ _ => (pe_meth (pv 14) T.cl_Ladder T.me_Ladder_size (ok_Ladder_size (K := K) T) (hr.mono (by decide)) B2 B2v pass0 (pa_cons (pv 15) pa_nil))))))
      (pss_cons (ps_set (i := 6) sc_l_right.nd rfl (Or.inl rfl) (pe_lst pa_nil))
      (pss_cons (ps_for PassesOwn.never rfl (pi_range1 rfl T.z_range (pa_cons (pe_callB (id := "len") (lenS (K := K)) (by rfl) T.z_len PySem.boot_len (pa_cons (pv 5) pa_nil)) pa_nil)) (pg_name (i := 7) sc_l_right.nd rfl (Or.inl rfl))
      (pss_one (ps_expr (pe_bm PySem.F.plainAttrs_list PySem.F.slot_list_append PySem.F.type_list_append mt_append (pv 6) (pa_cons (pe_call (ok_l_leads (K := K) T) (hr.mono (by decide)) rfl T.g_l_leads T.f_l_leads.kp B3 B3v pass0 (pa_cons (pe_ix (ixl (K := K)) (pv 5) (pv 7) (fun _ _ => rfl)) (pa_cons (pe_ix (ixl (K := K)) (pv 5) (pe_op op_mod (pe_op op_add (pv 7) pe_int) (pe_callB (id := "len") (lenS (K := K)) (by rfl) T.z_len PySem.boot_len (pa_cons (pv 5) pa_nil))) (fun _ _ => rfl)) pa_nil))) pa_nil)))))
      (pss_cons (ps_for PassesOwn.never rfl (pi_range1 rfl T.z_range (pa_cons (pe_callB (id := "len") (call_lenO (ok_Ladder_len (K := K) T) T.me_Ladder_len (bnil B4v B4) pass0 (hr.mono (by decide))) (by rfl) T.z_len PySem.boot_len (pa_cons (pe_ix (ixt (K := K)) (pv 1) pe_int (fun _ _ => rfl)) pa_nil)) pa_nil)) (pg_name (i := 8) sc_l_right.nd rfl (Or.inl rfl))
      (pss_cons (ps_set (i := 9) sc_l_right.nd rfl (Or.inl rfl) (pe_call (ok_l_start_right (K := K) T) (hr.mono (by decide)) rfl T.g_l_start_right T.f_l_start_right.kp B5 B5v pass0 (pa_cons (pv 1) (pa_cons (pv 2) (pa_cons (pv 6) (pa_cons (pv 8) pa_nil))))))
      (pss_cons (ps_if (pt_cmpR op_isN (pv 9) pe_non (nomark _))
      (pss_one (ps_ret pe_bl))
      pss_nil)
      (pss_one (ps_set (i := 4) sc_l_right.nd rfl (Or.inl rfl) (pe_op op_cat (pv 4) (pv 9)))))))
      (pss_cons (ps_set (i := 10) sc_l_right.nd rfl (Or.inl rfl) (pe_call (ok_most_drift (K := K) T) (hr.mono (by decide)) rfl T.g_most_drift T.f_most_drift.kp B6 B6v pass0 (pa_cons (pv 1) pa_nil)))
      (pss_cons (ps_if (pt_cmpR (eqDK (K := K) hr.units) (pv 4) (pe_lst pa_nil) (nomark _))
      (pss_one (ps_ret (pe_cmpR op_isN (pv 10) pe_non (nomark _))))
      pss_nil)
      (pss_cons (ps_asg (pe_ix (ixt (K := K)) (pv 10) pe_int (fun _ _ => rfl)) (pg_tup rfl (pgs_cons (pg_name (i := 5) sc_l_right.nd rfl (Or.inl rfl)) (pgs_cons (pg_name (i := 3) sc_l_right.nd rfl (Or.inr rfl)) pgs_nil))))
      (pss_cons (ps_if (PW.pt (pw_or (pt_cmpR op_ne (pe_ix (ixt (K := K)) (pv 10) pe_int (fun _ _ => rfl)) (pe_callB (id := "max") (maxL (K := K)) (by rfl) T.z_max (by decide +kernel) (pa_cons (pv 4) pa_nil)) (nomark _)) (pw_or1 (pt_cmpR op_ne (pe_callB (id := "abs") call_abs (by rfl) T.z_abs (by decide +kernel) (pa_cons (pe_op op_sub (pe_ix (ixt (K := K)) (pv 5) (pe_un un_neg pe_int) (fun _ _ => rfl)) (pe_ix (ixt (K := K)) (pv 5) pe_int (fun _ _ => rfl))) pa_nil)) (pe_ix (ixt (K := K)) (pv 10) pe_int (fun _ _ => rfl)) (nomark _)))))
      (pss_one (ps_ret pe_bl))
      pss_nil)
      (pss_cons (ps_for PassesOwn.never rfl (pi_range1 rfl T.z_range (pa_cons (pe_op op_sub (pe_callB (id := "len") (lenS (K := K)) (by rfl) T.z_len PySem.boot_len (pa_cons (pv 5) pa_nil)) pe_int) pa_nil)) (pg_name (i := 7) sc_l_right.nd rfl (Or.inl rfl))
      (pss_cons (ps_set (i := 11) sc_l_right.nd rfl (Or.inl rfl) (pe_call (ok_led (K := K) T) (hr.mono (by decide)) rfl T.g_led T.f_led.kp B7 B7v pass0 (pa_cons (pe_ix (ixl (K := K)) (pv 2) (pv 7) (fun _ _ => rfl)) (pa_cons (pe_ix (ixt (K := K)) (pv 5) (pv 7) (fun _ _ => rfl)) (pa_cons (pe_ix (ixl (K := K)) (pv 2) (pe_op op_add (pv 7) pe_int) (fun _ _ => rfl)) pa_nil)))))
      (pss_one (ps_if (PW.pt (pw_or (pt_cmpR op_isN (pv 11) pe_non (nomark _)) (pw_or1 (pt_not (pt_chain op_le op_le (pe_ix (ixt (K := K)) (pv 11) pe_int (fun _ _ => rfl)) (pe_ix (ixt (K := K)) (pv 5) (pe_op op_add (pv 7) pe_int) (fun _ _ => rfl)) (pe_ix (ixt (K := K)) (pv 11) pe_int (fun _ _ => rfl)))))))
      (pss_one (ps_ret pe_bl))
      pss_nil))))
      (pss_cons (ps_set (i := 12) sc_l_right.nd rfl (Or.inl rfl) (pe_call (ok_most_drift (K := K) T) (hr.mono (by decide)) rfl T.g_most_drift T.f_most_drift.kp B6 B6v pass0 (pa_cons (pe_tup (pa_cons (pe_ix (ixt (K := K)) (pv 1) pe_int (fun _ _ => rfl)) (pa_cons (pe_ix (ixt (K := K)) (pv 1) pe_int (fun _ _ => rfl)) pa_nil))) pa_nil)))
      (pss_one (ps_ret (pe_or (pe_cmpR op_isN (pv 12) pe_non (nomark _)) (pe_one (pe_cmpR op_eq (pe_ix (ixt (K := K)) (pv 12) pe_int (fun _ _ => rfl)) pe_int (nomark _))))))))))))))))))), ?_⟩
    have cl_Ladder := T.cl_Ladder
    have na_Ladder_marks := T.na_Ladder_marks
    have na_Ladder_rule := T.na_Ladder_rule
    have na_Ladder_least := T.na_Ladder_least
    have na_Ladder_most := T.na_Ladder_most
    have cl_Measure := T.cl_Measure
    have na_Measure_top := T.na_Measure_top
    have na_Measure_bottom := T.na_Measure_bottom
    
    have hDS := SqL.of (K := K) hD
    walk_at "f"
    intro E nE
    refine lcr (n := ps.length) walk_list (fun _ _ g s => s.seq g) (fun i H v => ∃ (q : Addr) (d : LD), v = .ref q ∧ ds[i]? = some d ∧ LadAt K (He.ga K "Measure") (He.ga K "Ladder") H q 140 (zR d.ms) d.r (oR d.lo) (oR d.hi)) (fun i H H' v ⟨q, d, e1, e2, e3⟩ n => ⟨q, d, e1, e2, e3.nl n⟩) (szs (by omega)) hDS nE (fun j x H4 H5 N M hj s4 yy hN => ?_) (fun H4 ys s4 hE ly hy => ?_)
    · obtain ⟨rfl, hx⟩ := yy
      obtain ⟨d, hd⟩ : ∃ d, ds[j]? = some d := ⟨_, List.getElem?_eq_getElem (by omega)⟩
      obtain ⟨p, e1, e2, gd⟩ := al j d hd
      rw [e1] at hx
      cases hx
      refine ⟨rfl, yesT ?_⟩
      exact ⟨_, rfl, p, d, 140, rfl, e2.same s4, gd.ok, gd.sz, by decide, by decide, fun q H6 s6 L6 => hN _ _ s6 ⟨q, d, rfl, hd, L6⟩⟩
    walk_at "f"
    intro TT nTT
    have sT := s4.trans (same1 (u := .tup ys) nTT)
    have hTT : (upd H4 TT (.tup ys)) TT = some (.tup ys) := upd_same
    have aw : ∀ (i : Nat) (d : LD), ds[i]? = some d → ∃ q : Addr, ys[i]? = some (.ref q) ∧ LadAt K (He.ga K "Measure") (He.ga K "Ladder") (upd H4 TT (.tup ys)) q 140 (zR d.ms) d.r (oR d.lo) (oR d.hi) := fun i d e => by
      obtain ⟨y, ey⟩ : ∃ y, ys[i]? = some y := ⟨_, List.getElem?_eq_getElem (by have := (List.getElem?_eq_some_iff.mp e).1; omega)⟩
      obtain ⟨q, d', rfl, ed, L⟩ := hy i y ey
      rw [e] at ed
      cases ed
      exact ⟨q, ey, L.same (same1 nTT)⟩
    generalize upd H4 TT (.tup ys) = H5 at *
    have hTS := SqT.of (K := K) hTT
    clear hy hE nE nTT s4
    obtain ⟨d0, h0⟩ : ∃ d, ds[0]? = some d := ⟨_, List.getElem?_eq_getElem (by omega)⟩
    obtain ⟨p0, e0, A0⟩ := aw 0 d0 h0
    have i0 : atI ys 0 = some (V.ref p0) := atI_nat (j := 0) e0
    walk_at "f"
    intro L0 nL0
    have hL0 : (upd H5 L0 (.lst ys)) L0 = some (.lst ys) := upd_same
    have sL0 := same1 (u := .lst ys) nL0
    have hTS0 := sL0.sqt hTS
    generalize upd H5 L0 (.lst ys) = H6 at *
    walk_at "f"
    intro L1 nL1
    have hL1 : (upd H6 L1 (.lst [V.ref p0])) L1 = some (.lst [V.ref p0]) := upd_same
    have sL1 := same1 (u := .lst [V.ref p0]) nL1
    have hL01 := sL1 _ _ hL0
    generalize upd H6 L1 (.lst [V.ref p0]) = H7 at *
    refine ⟨L0, L1, _, _, rfl, rfl, hL01, hL1, szl (by rw [ly]; show _ + 1 ≤ 1000; omega), fun O nO => ?_⟩
    have sO := same1 (u := .lst (ys ++ [V.ref p0])) nO
    have hO : (upd H7 O (.lst (ys ++ [V.ref p0]))) O = some (.lst (ys ++ [V.ref p0])) := upd_same
    have s57 := (sL0.trans sL1).trans sO
    generalize upd H7 O (.lst (ys ++ [V.ref p0])) = H8 at *
    clear sL0 sL1 sO hL0 hL01 hL1 nL0 nL1 nO hTS0
    have s8 := sT.trans s57
    have al8 : ∀ (i : Nat) (d : LD), ds[i]? = some d → ∃ p : Addr, ps[i]? = some (.ref p) ∧ LdAt H8 p d ∧ LdG d := fun i d e => by
      obtain ⟨p, g1, g2, g3⟩ := al i d e
      exact ⟨p, g1, g2.same s8, g3⟩
    have hD8 := s8 _ _ hD
    walk_at "f"
    all_goals (try refine ⟨ds, rfl, hD8, lps, al8, by omega, by omega, fun M ms E a b H9 s9 hM lms am pw ha hb ae l6 => ?_⟩)
    walk_at "f"
    intro L4 nL4
    have hL4 : (upd H9 L4 (.tup [V.ref O, V.ref M])) L4 = some (.tup [V.ref O, V.ref M]) := upd_same
    have sL4 := same1 (u := .tup [V.ref O, V.ref M]) nL4
    have hL4S := SqT.of (K := K) hL4
    have s510 := s57.trans (s9.trans sL4)
    have hM10 := sL4 _ _ hM
    have hO10 := (s9.trans sL4) _ _ hO
    have am10 : ∀ (i : Nat) (x : Rat), (triedR E a b)[i]? = some x → ∃ m : Addr, ms[i]? = some (.ref m) ∧ QAt (He.ga K "Measure") (upd H9 L4 (.tup [V.ref O, V.ref M])) m 600 (ofR x) := fun i x e => by
      obtain ⟨m, g1, g2⟩ := am i x e
      exact ⟨m, g1, g2.same sL4⟩
    generalize upd H9 L4 (.tup [V.ref O, V.ref M]) = H10 at *
    generalize etr : triedR E a b = tr at *
    clear hL4 sL4 nL4 s9 am hM hD8 al8 s57 hO hTS
    have hTS := s510.sqt (SqT.of (K := K) hTT)
    walk_at "f"
    intro L5 nL5
    have hL5 : (upd H10 L5 (.lst [])) L5 = some (.lst []) := upd_same
    have sL5 := same1 (u := .lst []) nL5
    have s511 := s510.trans sL5
    have hM11 := sL5 _ _ hM10
    have hO11 := sL5 _ _ hO10
    have am11 : ∀ (i : Nat) (x : Rat), tr[i]? = some x → ∃ m : Addr, ms[i]? = some (.ref m) ∧ QAt (He.ga K "Measure") (upd H10 L5 (.lst [])) m 600 (ofR x) := fun i x e => by
      obtain ⟨m, g1, g2⟩ := am10 i x e
      exact ⟨m, g1, g2.same sL5⟩
    generalize upd H10 L5 (.lst []) = H11 at *
    clear sL5 nL5 am10 hM10 hO10 hTS s510
    have hTS := s511.sqt (SqT.of (K := K) hTT)
    walk_at "f"
    refine ⟨⟨_, hTS⟩, ?_⟩
    intro S0 nS0
    refine lcd (n := ys.length) walk_tup (fun _ _ g s => s.sqt g) (fun i H v => ∃ (S : Addr) (us : List V) (d : LD), v = .ref S ∧ S ≠ S0 ∧ ds[i]? = some d ∧ H S = some (.lst us) ∧ us.length = tr.length ∧ ∀ (j : Nat) (x : Rat), tr[j]? = some x → us[j]? = some (optI (d.F x))) (fun i H H' v ⟨S, us, d, e1, e2, e3, e4, e5⟩ n => ⟨S, us, d, e1, e2, e3, n _ _ e4 e2, e5⟩) (szs (by omega)) hTS nS0 (fun j x H12 H13 N M2 hj s12 hacc yy hN => ?_) (fun H12 zs s12 hS0 lz hz => ?_)
    · obtain ⟨rfl, hx⟩ := yy
      obtain ⟨d, hd⟩ : ∃ d, ds[j]? = some d := ⟨_, List.getElem?_eq_getElem (by omega)⟩
      obtain ⟨p, e1, A⟩ := aw j d hd
      have e1 : ys[j]? = some (.ref p) := e1
      have hx : ys[j]? = some x := hx
      rw [e1] at hx
      cases hx
      have A12 := (A.same (s511.trans s12)).mono (show 140 ≤ 600 by decide)
      have hM12 := SqL.of (K := K) (s12 _ _ hM11)
      refine ⟨rfl, yesT ?_⟩
      walk_at "f"
      refine ⟨⟨_, hM12⟩, fun S nS => ?_⟩
      refine lcz (n := ms.length) walk_list (fun _ _ g s => s.seq g) (tr.map fun x => some (optI (d.F x))) (by rw [List.length_map]; omega) (szs (by omega)) hM12 nS (fun t x HA HB z N3 M3 ht hz sA yy hN3 hM3 => ?_) (fun HF sF hSF => ?_)
      · obtain ⟨rfl, hx⟩ := yy
        obtain ⟨q, hq⟩ : ∃ q, tr[t]? = some q := ⟨_, List.getElem?_eq_getElem (by omega)⟩
        obtain ⟨m, em, qm⟩ := am11 t q hq
        rw [em] at hx
        cases hx
        rw [List.getElem?_map, hq] at hz
        cases hz
        have qm2 := qm.same (s12.trans sA)
        refine ⟨rfl, yesT ?_⟩
        refine ⟨_, rfl, meth_l (A12.same sA) (by decide +kernel) (by decide +kernel) (by decide +kernel) (by decide +kernel) ⟨_, rfl, p, m, 600, _, _, _, _, _, rfl, A12.same sA, qm2, by decide, by decide, fun H7 s7 => ?_⟩⟩
        exact hN3 _ _ rfl s7
      · rw [show (tr.map fun x => some (optI (d.F x))).filterMap _root_.id = tr.map fun x => optI (d.F x) from by
          rw [List.filterMap_map]
          show List.filterMap (some ∘ fun x => optI (d.F x)) tr = _
          rw [List.filterMap_eq_map]] at hSF
        obtain ⟨acc, hac⟩ := hacc
        refine hN _ _ sF ⟨S, _, d, rfl, (fun q => by rw [q, hac] at nS; cases nS), hd, hSF, by rw [List.length_map], fun t x e => by rw [List.getElem?_map, e]; rfl⟩
    · walk_at "f"
      intro G0 nG0
      have hG0 : (upd H12 G0 (.lst [])) G0 = some (.lst []) := upd_same
      have sG0 := same1 (u := .lst []) nG0
      have lzs : zs.length = ds.length := by omega
      have hS0S := SqL.of (K := K) (sG0 _ _ hS0)
      generalize upd H12 G0 (.lst []) = H13 at *
      walk_at "f"
      refine for_range (fun i σ H' => ∃ (gs : List V) (v7 : Option V), σ = [some (.ref D), some (.ref TT), some (.ref O), some (.ref M), some (.ref L5), some (.ref S0), some (.ref G0), v7, none, none, none, none, none, none, none, none] ∧ Same H12 H' ∧ H' G0 = some (.lst gs) ∧ gs.length = i ∧ ∀ t, t < i → ∃ p : Addr, gs[t]? = some (.ref p) ∧ EdgeAt H' p (Lnk (wayL ds) t)) ?_ ?_ ?_
      · exact ⟨[], _, rfl, sG0, hG0, rfl, fun t h => absurd h (Nat.not_lt_zero _)⟩
      · rintro i σ H14 hi ⟨gs, v7, rfl, s14, hG, lg, ag⟩
        have hi' : i < ds.length := by omega
        obtain ⟨d1, hd1⟩ : ∃ d, ds[i]? = some d := ⟨_, List.getElem?_eq_getElem hi'⟩
        obtain ⟨v1, ev1⟩ : ∃ v, zs[i]? = some v := ⟨_, List.getElem?_eq_getElem (by omega)⟩
        obtain ⟨S1, us1, d1', rfl, nS1, ed1, hS1, lu1, au1⟩ := hz i v1 ev1
        rw [hd1] at ed1
        cases ed1
        obtain ⟨i2, d2, hi2, hd2, hw2, ej2⟩ : ∃ (i2 : Nat) (d2 : LD), i2 < ds.length ∧ ds[i2]? = some d2 ∧ (ds ++ ds.take 1)[i + 1]? = some d2 ∧ (0 + (i : Int) + 1) % ((zs.length : Nat) : Int) = (i2 : Int) := by
          by_cases c : i + 1 < ds.length
          · obtain ⟨d2, hd2⟩ : ∃ d, ds[i + 1]? = some d := ⟨_, List.getElem?_eq_getElem c⟩
            refine ⟨i + 1, d2, c, hd2, by rw [List.getElem?_append_left c]; exact hd2, ?_⟩
            rw [Int.emod_eq_of_lt (by omega) (by omega)]
            omega
          · refine ⟨0, d0, by omega, h0, ?_, ?_⟩
            · rw [List.getElem?_append_right (by omega), show i + 1 - ds.length = 0 by omega, List.getElem?_take, if_pos (by decide)]
              exact h0
            · rw [show 0 + (i : Int) + 1 = ((zs.length : Nat) : Int) by omega, Int.emod_self]
              rfl
        obtain ⟨v2, ev2⟩ : ∃ v, zs[i2]? = some v := ⟨_, List.getElem?_eq_getElem (by omega)⟩
        obtain ⟨S2, us2, d2', rfl, nS2, ed2, hS2, lu2, au2⟩ := hz i2 v2 ev2
        rw [hd2] at ed2
        cases ed2
        have hw1 : (ds ++ ds.take 1)[i]? = some d1 := by rw [List.getElem?_append_left hi']; exact hd1
        have ix1 : atI zs (0 + (i : Int)) = some (.ref S1) := by rw [Int.zero_add]; exact atI_nat ev1
        have ix2 : atI zs ((0 + (i : Int) + 1) % ((zs.length : Nat) : Int)) = some (.ref S2) := by rw [ej2]; exact atI_nat ev2
        have hS14 := SqL.of (K := K) (s14 _ _ hS0)
        have hA := s14 _ _ hS1
        have hB := s14 _ _ hS2
        have pz : 0 < ((zs.length : Nat) : Int) := by omega
        obtain ⟨_, _, _, g1⟩ := al i d1 hd1
        obtain ⟨_, _, _, g2⟩ := al i2 d2 hd2
        have l1 := g1.ok.len1
        have l2 := g2.ok.len1
        walk_at "f"
        refine ⟨(fun t => tr[t]?.bind d1.F), (fun t => tr[t]?.bind d2.F), rfl, hA, hB, lu1, lu2, l6, fun t ht => ?_, fun t k e => ?_, fun t k e => ?_, fun Dj kvs H15 s15 LJ => ?_⟩
        · obtain ⟨x, hx⟩ : ∃ x, tr[t]? = some x := ⟨_, List.getElem?_eq_getElem ht⟩
          rw [au1 t x hx, au2 t x hx]
          show _ = some (optI (tr[t]?.bind d1.F)) ∧ _ = some (optI (tr[t]?.bind d2.F))
          rw [hx]
          exact ⟨rfl, rfl⟩
        · have e : tr[t]?.bind d1.F = some k := e
          cases hx : tr[t]? with
          | none => rw [hx] at e; cases e
          | some x =>
            rw [hx] at e
            have := LD.F_lt (show d1.F x = some k from e)
            omega
        · have e : tr[t]?.bind d2.F = some k := e
          cases hx : tr[t]? with
          | none => rw [hx] at e; cases e
          | some x =>
            rw [hx] at e
            have := LD.F_lt (show d2.F x = some k from e)
            omega
        have hG15 := s15 _ _ hG
        have EA : EdgeAt H15 Dj (Lnk (wayL ds) i) := LJ.edge.imp fun k l => by
          have q1 : (wayL ds)[i]? = some (LD.q d1) := by
            show ((ds ++ ds.take 1).map LD.q)[i]? = _
            rw [List.getElem?_map, hw1]
            rfl
          have q2 : (wayL ds)[i + 1]? = some (LD.q d2) := by
            show ((ds ++ ds.take 1).map LD.q)[i + 1]? = _
            rw [List.getElem?_map, hw2]
            rfl
          constructor
          · rintro ⟨t, ht, e1, e2⟩
            obtain ⟨x, hx⟩ : ∃ x, tr[t]? = some x := ⟨_, List.getElem?_eq_getElem ht⟩
            have e1 : tr[t]?.bind d1.F = some k := e1
            have e2 : tr[t]?.bind d2.F = some l := e2
            rw [hx] at e1 e2
            exact ⟨_, _, x, q1, q2, e1, e2⟩
          · rintro ⟨w, w', x, e1, e2, f1, f2⟩
            rw [q1] at e1
            rw [q2] at e2
            cases e1
            cases e2
            obtain ⟨p, hp, same⟩ := tried_ok pw ha hb x
            rw [etr] at hp
            obtain ⟨t, ht⟩ := List.mem_iff_getElem?.mp hp
            refine ⟨t, (List.getElem?_eq_some_iff.mp ht).1, ?_, ?_⟩
            · show tr[t]?.bind d1.F = some k
              rw [ht]
              show d1.F p = some k
              rw [same d1 g1.ok fun z hz => ae i d1 z hd1 hz]
              exact f1
            · show tr[t]?.bind d2.F = some l
              rw [ht]
              show d2.F p = some l
              rw [same d2 g2.ok fun z hz => ae i2 d2 z hd2 hz]
              exact f2
        clear LJ hA hB hS14 au1 au2
        walk_at "f"
        refine ⟨_, rfl, fun b o e => ?_, upd_same, by rw [List.length_append, lg]; rfl, fun t ht => ?_⟩
        · rw [upd_ne (ne_of_none e nG0)]
          exact (s14.trans s15) _ _ e
        · by_cases c : t < i
          · obtain ⟨p, g3, g4⟩ := ag t c
            exact ⟨p, by rw [List.getElem?_append_left (by omega)]; exact g3, (g4.same s15).upd hG15⟩
          · have : t = i := by omega
            subst this
            exact ⟨Dj, by rw [List.getElem?_append_right (by omega), show t - gs.length = 0 by omega]; rfl, EA.upd hG15⟩
      · rintro σ H14 ⟨gs, v7, rfl, s14, hG, lg, ag⟩
        have s514 := s511.trans (s12.trans s14)
        have hTT14 := s514 _ _ hTT
        have hTS14 := SqT.of (K := K) hTT14
        have hO14 := (s12.trans s14) _ _ hO11
        have hL514 : H14 L5 = some (.lst (([] : List Int).map V.int)) := (s12.trans s14) _ _ hL5
        have A14 := A0.same s514
        obtain ⟨⟨dx, T', mps, lo', hi', hp, _⟩, _⟩ := id A14
        have g0 := (al 0 d0 h0).choose_spec.2.2
        have l24 := g0.ok.len1
        have aw14 : ∀ (i : Nat) (d : LD), ds[i]? = some d → ∃ q : Addr, ys[i]? = some (.ref q) ∧ LadAt K (He.ga K "Measure") (He.ga K "Ladder") H14 q 140 (zR d.ms) d.r (oR d.lo) (oR d.hi) := fun i d e => by
          obtain ⟨q, g1, g2⟩ := aw i d e
          exact ⟨q, g1, g2.same s514⟩
        have lg' : gs.length = ds.length := by omega
        have ag' : ∀ t, t < ds.length → ∃ p : Addr, gs[t]? = some (.ref p) ∧ EdgeAt H14 p (Lnk (wayL ds) t) := fun t h => ag t (by omega)
        have hsz : ∀ d ∈ ds, LdG d := fun d hd => by
          obtain ⟨j, hj⟩ := List.mem_iff_getElem?.mp hd
          exact (al j d hj).choose_spec.2.2
        have sH14 : Same H H14 := sT.trans s514
        clear ag lg hz hS0S hS0 s14 s12 hG0 sG0 nG0 hL5 hTS am11 hM11 hO11 A0 aw s511 hTT s8 etr pw ha hb ae l6 lms i0 lz lzs s514 hDS al
        have lzr : (zR d0.ms).length = d0.ms.length := zR_len
        walk_at "f"
        refine ⟨zR d0.ms, d0.r, oR d0.lo, oR d0.hi, rfl, A14, d0.ms.length, congrArg (fun n : Nat => V.int (n : Int)) lzr, by omega, ?_⟩
        walk_at "f"
        have w00 : (ds.map LD.q)[0]? = some (LD.q d0) := by rw [List.getElem?_map, h0]; rfl
        have hW : WayAt K (He.ga K "Measure") (He.ga K "Ladder") H14 TT 140 (ds.map LD.q) := ⟨ys, hTS14, by rw [List.length_map]; omega, fun j w e => by
          rw [List.getElem?_map] at e
          cases e1 : ds[j]? with
          | none => rw [e1] at e; cases e
          | some d =>
            rw [e1] at e
            cases e
            exact aw14 j d e1⟩
        have wd : ∀ (w : LQ), w ∈ ds.map LD.q ++ (ds.map LD.q).take 1 → LadQ w.zs w.r w.lo w.hi ∧ w.zs.length ≤ 24 := fun w hw => by
          rw [← wayL_eq] at hw
          obtain ⟨d, hd, rfl⟩ := List.mem_map.mp hw
          have hd2 : d ∈ ds := by
            rcases List.mem_append.mp hd with hd | hd
            · exact hd
            · exact List.mem_of_mem_take hd
          have g := hsz d hd2
          exact ⟨g.ok.lq, by show (zR d.ms).length ≤ 24; rw [zR_len]; exact g.ok.len1⟩
        have lww : (ds.map LD.q ++ (ds.map LD.q).take 1).length = ds.length + 1 := by rw [List.length_append, List.length_take, List.length_map]; omega
        have aO : ∀ (i : Nat) (w : LQ), (ds.map LD.q ++ (ds.map LD.q).take 1)[i]? = some w → ∃ p : Addr, (ys ++ [V.ref p0])[i]? = some (.ref p) ∧ LadAt K (He.ga K "Measure") (He.ga K "Ladder") H14 p 140 w.zs w.r w.lo w.hi := fun i w e => by
          by_cases c : i < ds.length
          · rw [List.getElem?_append_left (by rw [List.length_map]; exact c), List.getElem?_map] at e
            cases e1 : ds[i]? with
            | none => rw [e1] at e; cases e
            | some d =>
              rw [e1] at e
              cases e
              obtain ⟨q, g1, g2⟩ := aw14 i d e1
              exact ⟨q, by rw [List.getElem?_append_left (by omega)]; exact g1, g2⟩
          · have hi := (List.getElem?_eq_some_iff.mp e).1
            have ei : i = ds.length := by omega
            subst ei
            rw [List.getElem?_append_right (by rw [List.length_map]; exact Nat.le_refl _), List.length_map, Nat.sub_self, List.getElem?_take, if_pos (by decide), w00] at e
            cases e
            exact ⟨p0, by rw [List.getElem?_append_right (by omega), show ds.length - ys.length = 0 by omega]; rfl, A14⟩
        have ly2 : (ys ++ [V.ref p0]).length = (ds.map LD.q ++ (ds.map LD.q).take 1).length := by rw [lww, List.length_append, List.length_singleton]; omega
        rw [wayL_eq] at ag'
        clear aw14
        generalize eW : ds.map LD.q ++ (ds.map LD.q).take 1 = way at *
        refine for_range (fun i σ H' => ∃ (B4 : Addr) (ns : List Int) (v7 v8 v9 : Option V), σ = [some (.ref D), some (.ref TT), some (.ref O), some (.ref M), some (.ref B4), some (.ref S0), some (.ref G0), v7, v8, v9, none, none, none, none, none, none] ∧ Same H14 H' ∧ H' B4 = some (.lst (ns.map V.int)) ∧ ns.length ≤ 24 * i ∧ ∀ z, z ∈ ns ↔ ∃ (n k : Nat), n < i ∧ Rch way n ds.length k ∧ z = drI k n) ?_ ?_ ?_
        · exact ⟨L5, [], _, _, _, rfl, Same.refl _, hL514, Nat.zero_le _, fun z => ⟨fun h => by simp at h, fun ⟨n, k, h, _⟩ => absurd h (Nat.not_lt_zero _)⟩⟩
        · rintro i σ H15 hi ⟨B4, ns, v7, v8, v9, rfl, s15, hB, ln, mem⟩
          have hi' : i < d0.ms.length := by omega
          walk_at "f"
          have hW15 := hW.same s15
          have aO15 : ∀ (j : Nat) (w : LQ), way[j]? = some w → ∃ p : Addr, (ys ++ [V.ref p0])[j]? = some (.ref p) ∧ LadAt K (He.ga K "Measure") (He.ga K "Ladder") H15 p (4 * 140 + 36) w.zs w.r w.lo w.hi := fun j w e => by
            obtain ⟨p, g1, g2⟩ := aO j w e
            exact ⟨p, g1, (g2.same s15).mono (by decide)⟩
          have ag15 : ∀ t, t < (ds.map LD.q).length → ∃ p : Addr, gs[t]? = some (.ref p) ∧ EdgeAt H15 p (Lnk way t) := fun t h => by
            obtain ⟨p, g1, g2⟩ := ag' t (by rw [List.length_map] at h; exact h)
            exact ⟨p, g1, g2.same s15⟩
          have lmq : (ds.map LD.q).length = ds.length := List.length_map ..
          refine ⟨ds.map LD.q, LD.q d0, by show [V.ref TT, V.ref O, V.ref G0, V.int (0 + (i : Int))] = _; rw [Int.zero_add], hW15, w00, by show i < (zR d0.ms).length; omega, by decide, by decide, by omega, by rw [eW]; exact wd, s15 _ _ hO14, by rw [eW]; exact ly2, by rw [eW]; exact aO15, s15 _ _ hG, by omega, by rw [eW]; exact ag15, fun Dn zs2 H16 nD s16 hD2 lz2 mem2 => ?_⟩
          rw [eW, lmq] at mem2
          have hB16 := s16 _ _ hB
          have s1416 := s15.trans s16
          clear hW15 aO15 ag15 hB s15 s16
          have hB16S := SqL.of (K := K) hB16
          have hD2S := SqL.of (K := K) hD2
          walk_at "f"
          refine ⟨szl (by rw [List.length_map, List.length_map]; omega), fun q nq => ?_⟩
          refine ⟨q, ns ++ zs2, _, _, _, rfl, s1416.trans (same1 nq), by rw [List.map_append]; exact upd_same, by rw [List.length_append]; omega, fun z => ?_⟩
          rw [List.mem_append, mem, mem2]
          constructor
          · rintro (⟨n, k, h, r, e⟩ | ⟨l, e, r⟩)
            · exact ⟨n, k, by omega, r, e⟩
            · exact ⟨i, l, by omega, r, e⟩
          · rintro ⟨n, k, h, r, e⟩
            by_cases c : n = i
            · subst c
              exact .inr ⟨k, e, r⟩
            · exact .inl ⟨n, k, by omega, r, e⟩
        · rintro σ H15 ⟨B4, ns, v7, v8, v9, rfl, s15, hB, ln, mem⟩
          have eN : ((d0.ms.length : Nat) : Int).toNat = d0.ms.length := by omega
          rw [eN] at mem ln
          have lmq : (ds.map LD.q).length = ds.length := List.length_map ..
          have hW15 := hW.same s15
          walk_at "f"
          refine ⟨ds.map LD.q, LD.q d0, rfl, hW15, w00, by decide, by decide, by omega, fun v H16 s16 DA => ?_⟩
          have lq0 : (LD.q d0).zs.length = d0.ms.length := zR_len
          rw [eW, lq0] at DA
          have hB16 := s16 _ _ hB
          have s1416 := s15.trans s16
          clear hW15 hB
          have aO16 : ∀ (j : Nat) (w : LQ), way[j]? = some w → ∃ p : Addr, (ys ++ [V.ref p0])[j]? = some (.ref p) ∧ LadAt K (He.ga K "Measure") (He.ga K "Ladder") H16 p 140 w.zs w.r w.lo w.hi := fun j w e => by
            obtain ⟨p, g1, g2⟩ := aO j w e
            exact ⟨p, g1, g2.same s1416⟩
          have hO16 := s1416 _ _ hO14
          have hTS16 := s1416.sqt hTS14
          have A16 := A14.same s1416
          have lqw : ∀ w ∈ way, LadQ w.zs w.r w.lo w.hi := fun w hw => (wd w hw).1
          have sH16 := sH14.trans s1416
          clear aO ag' hW hTT14 hO14 A14 hTS14 hL514 hp s1416 s15 s16 hG
          walk_at "f"
          intro z0 nz0
          have sz0 := same1 (u := .lst []) nz0
          have hz0 : (upd H16 z0 (.lst [])) z0 = some (.lst []) := upd_same
          have hB17 := sz0 _ _ hB16
          have aO17 : ∀ (j : Nat) (w : LQ), way[j]? = some w → ∃ p : Addr, (ys ++ [V.ref p0])[j]? = some (.ref p) ∧ LadAt K (He.ga K "Measure") (He.ga K "Ladder") (upd H16 z0 (.lst [])) p 140 w.zs w.r w.lo w.hi := fun j w e => by
            obtain ⟨p, g1, g2⟩ := aO16 j w e
            exact ⟨p, g1, g2.same sz0⟩
          have hO17 := sz0 _ _ hO16
          have hTS17 := sz0.sqt hTS16
          have A17 := A16.same sz0
          have DA17 : DriftAt (He.ga K "Measure") (upd H16 z0 (.lst [])) (4 * 140 + 36) way d0.ms.length v := DA.nl36 (Nl.of sz0)
          have sH17 := sH16.trans sz0
          generalize upd H16 z0 (.lst []) = H17 at *
          clear hB16 aO16 hO16 hTS16 A16 DA sz0 nz0 sH16
          cases ens : ns with
          | nil =>
            subst ens
            refine ⟨_, _, dpL hB17, dpN hz0, shL _, rfl, _, rfl, ?_⟩
            rw [eqv_nil]
            have MS : MnyS way ds.length d0.ms.length (-1) := ⟨Int.le_refl _, .inl rfl, fun n k h r => by
              have := (mem (drI k n)).mpr ⟨n, k, h, r, rfl⟩
              simp at this⟩
            have dr := drift_is lqw lww DA17 MS
            rcases dr with ⟨rfl, _⟩ | ⟨T1, x, m0, _⟩
            · refine iteT ?_
              walk_at "f"
              exact kk _ sH17
            · omega
          | cons n1 nt =>
            refine ⟨_, _, dpL hB17, dpN hz0, shL _, rfl, _, rfl, ?_⟩
            rw [ens, eqv_cons]
            obtain ⟨m, hm, mx⟩ := max_of n1 nt
            rw [← ens] at hm mx
            have MS : MnyS way ds.length d0.ms.length m := by
              obtain ⟨n, k, hn, hk, e⟩ := (mem m).mp hm
              refine ⟨by rw [e]; exact Int.le_trans (by decide) (Int.natCast_nonneg _), .inr ⟨n, k, hn, hk, e⟩, fun n k hn hk => mx _ ((mem _).mpr ⟨n, k, hn, hk, rfl⟩)⟩
            have dr := drift_is lqw lww DA17 MS
            rcases dr with ⟨_, em⟩ | ⟨T1, x, m0, rfl, hT, rE⟩
            · exfalso
              obtain ⟨n, k, hn, hk, e⟩ := (mem m).mp hm
              have : 0 ≤ m := by rw [e]; exact Int.natCast_nonneg _
              omega
            · have hT1 := SqT.of (K := K) hT
              refine iteF ?_
              obtain ⟨A, n, last, a', b', rs, rfl, hn, R, lrs, e1, ho, rA, ez⟩ := rE
              obtain ⟨S, M1, ks, mes, hA, hS, hM1, Z, lm, al1⟩ := id rA
              have sA := SqT.of (K := K) hA
              have sS := SqT.of (K := K) hS
              have zl := Z.len
              have zp := Z.pos
              have lks : (ks.map fun k : Nat => V.int k).length = ks.length := List.length_map ..
              obtain ⟨k0, hk0⟩ : ∃ c, ks[0]? = some c := ⟨_, List.getElem?_eq_getElem zp⟩
              have q := Z.inr 0 k0 n n hk0 (by rw [Nat.zero_add]; exact R.first)
              have ek : k0 = n := by omega
              subst ek
              have j0 : atI (ks.map fun k : Nat => V.int k) 0 = some (V.int (k0 : Int)) := atI_nat (j := 0) (by rw [List.getElem?_map, hk0]; rfl)
              have j1 : atI (ks.map fun k : Nat => V.int k) (-1) = some (V.int (last : Int)) := atI_end (n := ks.length - 1) (by omega) (by rw [List.getElem?_map, Z.last]; rfl)
              have hBS := SqL.of (K := K) hB17
              have ln0 : 0 < ns.length := by rw [ens]; exact Nat.zero_lt_succ _
              clear e1 hz0 hB17 MS
              walk_at "f"
              refine ⟨ns, rfl, hBS, ln0, fun m' hm' hx' => ?_⟩
              have emm : m' = m := Int.le_antisymm (mx _ hm') (hx' _ hm)
              rw [emm]
              clear hm' hx' hBS
              walk_at "f"
              rw [decide_eq_true (rfl : V.int m = V.int m)]
              refine iteF ?_
              walk_at "f"
              rw [dr_abs, ← ez, decide_eq_true (rfl : V.int m = V.int m)]
              refine iteF ?_
              walk_at "f"
              refine for_range (fun i σ H' => ∃ (v7 v11 : Option V), σ = [some (.ref D), some (.ref TT), some (.ref O), some (.ref M1), some (.ref B4), some (.ref S), some (.ref G0), v7, v8, v9, some (.ref T1), v11, none, none, none, none] ∧ Same H17 H') ?_ ?_ ?_
              · exact ⟨_, _, rfl, Same.refl _⟩
              · rintro i σ H18 hi ⟨v7, v11, rfl, s18⟩
                have hi' : i < mes.length := by omega
                obtain ⟨y, hy⟩ : ∃ y, mes[i]? = some y := ⟨_, List.getElem?_eq_getElem hi'⟩
                obtain ⟨r, z, w, w', ka, kb, rfl, qz, hw, hw', hka, hkb, fz, gz⟩ := al1 i y hy
                obtain ⟨p1, ep1, B1⟩ := aO17 i w hw
                obtain ⟨p2, ep2, B2⟩ := aO17 (i + 1) w' hw'
                have B1 := B1.same s18
                have B2 := B2.same s18
                have hOS := SqL.of (K := K) (s18 _ _ hO17)
                have hSS := s18.sqt sS
                have ix1 : atI (ys ++ [V.ref p0]) (0 + (i : Int)) = some (.ref p1) := by rw [Int.zero_add]; exact atI_nat ep1
                have ix2 : atI (ys ++ [V.ref p0]) (0 + (i : Int) + 1) = some (.ref p2) := by rw [Int.zero_add]; exact atI_nat (j := i + 1) ep2
                have iy1 : atI (ks.map fun k : Nat => V.int k) (0 + (i : Int)) = some (V.int (ka : Int)) := by rw [Int.zero_add]; exact atI_nat (by rw [List.getElem?_map, hka]; rfl)
                have iy2 : atI (ks.map fun k : Nat => V.int k) (0 + (i : Int) + 1) = some (V.int (kb : Int)) := by rw [Int.zero_add]; exact atI_nat (j := i + 1) (by rw [List.getElem?_map, hkb]; rfl)
                have lka : ka < w.zs.length := sizeQ_lt fz
                show tSeq _ _ _ _ _
                refine ends_gen rfl fun DE eDE => ?_
                walk_at "f"
                refine ⟨w.zs, w'.zs, w.r, w'.r, w.lo, w.hi, w'.lo, w'.hi, ka, rfl, B1, B2, lka, by decide, by decide, fun u1 u H19 s19 lv ls => ?_⟩
                have s1719 := s18.trans s19
                have hSS9 := s19.sqt hSS
                cases u with
                | none => exact (ls kb (sizeQ_lt gz) (toR z) fz gz).elim
                | some cl =>
                  obtain ⟨c, l⟩ := cl
                  obtain ⟨T2, rfl, hT2⟩ := lv
                  have bd := ls.2.2.2.2.2 kb (toR z) fz gz
                  have sT2 := SqT.of (K := K) hT2
                  clear B1 B2 hOS hSS s18 s19
                  walk_at "f"
                  show DE.nx _ _
                  rw [eDE]
                  exact ⟨_, _, rfl, s1719⟩
              · rintro σ H18 ⟨v7, v11, rfl, s18⟩
                have hTS18 := s18.sqt hTS17
                have A18 := A17.same s18
                have i0 : atI ys 0 = some (V.ref p0) := atI_nat (j := 0) e0
                walk_at "f"
                intro T2 nT2
                have hT2 : (upd H18 T2 (.tup [V.ref p0, V.ref p0])) T2 = some (.tup [V.ref p0, V.ref p0]) := upd_same
                have sT2 := same1 (u := .tup [V.ref p0, V.ref p0]) nT2
                have A19 := A18.same sT2
                have sH19 := (sH17.trans s18).trans sT2
                generalize upd H18 T2 (.tup [V.ref p0, V.ref p0]) = H19 at *
                have hW2 : WayAt K (He.ga K "Measure") (He.ga K "Ladder") H19 T2 140 [LD.q d0, LD.q d0] := ⟨_, SqT.of hT2, rfl, fun i w e => by
                  rcases i with _ | _ | i
                  · cases e; exact ⟨p0, rfl, A19⟩
                  · cases e; exact ⟨p0, rfl, A19⟩
                  · simp at e⟩
                clear hT2 sT2 nT2 hTS18 A18
                walk_at "f"
                refine ⟨[LD.q d0, LD.q d0], LD.q d0, rfl, hW2, rfl, by decide, by decide, Nat.le_of_ble_eq_true rfl, fun v2 H20 s20 DB => ?_⟩
                have sH20 := sH19.trans s20
                have DB : DriftAt (He.ga K "Measure") H20 (4 * 140 + 36) [LD.q d0, LD.q d0, LD.q d0] (zR d0.ms).length v2 := DB
                rcases DB with ⟨rfl, _⟩ | ⟨T3, x3, z3, rfl, hT3, rE3, _⟩
                · walk_at "f"
                  rw [if_pos (decide_eq_true rfl)]
                  exact kk _ sH20
                · obtain ⟨A3, n3, last3, a3, b3, rs3, rfl, hn3, R3, lr3, e3, ho3, _, ez3⟩ := rE3
                  have lq3 : ∀ w ∈ [LD.q d0, LD.q d0, LD.q d0], LadQ w.zs w.r w.lo w.hi := fun w hw => by
                    have : w = LD.q d0 := by simpa using hw
                    subst this
                    exact g0.ok.lq
                  have ab3 := R3.toRunsP.at_ (w0 := LD.q d0) (w := LD.q d0) rfl hn3 (i := 2) (by rw [lr3] at e3; exact e3) rfl
                  have rc : Rch [LD.q d0, LD.q d0, LD.q d0] n3 2 last3 := (rch_runs R3 lq3 2 (Nat.le_of_ble_eq_true rfl) last3).mpr ⟨a3, b3, (by rw [lr3] at e3; exact e3), by omega, by omega⟩
                  obtain ⟨k1, u, u', x1, ⟨k2, u2, u3, x2, hk2, e4, e5, f4, f5⟩, e6, e7, f6, f7⟩ := rc
                  cases e4
                  cases e5
                  cases e6
                  cases e7
                  have : k2 = n3 := hk2
                  rw [f6] at f7
                  rw [f4] at f5
                  have := Option.some.inj f7
                  have := Option.some.inj f5
                  have el3 : last3 = n3 := by omega
                  subst el3
                  have z30 : z3 = 0 := by
                    rw [ez3]
                    show (((last3 : Int) - (last3 : Int)).natAbs : Int) = 0
                    omega
                  subst z30
                  have sT3 := SqT.of (K := K) hT3
                  walk_at "f"
                  show Q (.bl (decide (V.int 0 = V.int 0))) H20
                  rw [decide_eq_true rfl]
                  exact kk _ sH20
theorem ok_law {P : Program} {w : World} {K : PySem.W.Frag} {mg : Str → Option Value} {base : Heap} {φ : Fds} (T : Txt K mg φ) : FnOk P w K mg base CX0 17 (He.fAd K ("law", none)) φ.law p_law (sp_law K) := by
  obtain ⟨_, B0v, B0⟩ := b_l_begin_1 T
  obtain ⟨_, B1v, B1⟩ := b_l_right_1 T
  obtain ⟨_, B2v, B2⟩ := b_l_ladders_3 T
  obtain ⟨_, B3v, B3⟩ := b_l_pick_2 T
  refine T.f_law.ok sc_law (fun vs H Q E h => ?_) (fun cdv A outer s H vs Q E hr h => ?_)
  · obtain ⟨a, ns, rfl, hS, hn, kk⟩ := h; rfl
  · obtain ⟨a, ns, rfl, hS, hn, kk⟩ := h
    refine ⟨_, PSs.nox (pss_cons (ps_set (i := 1) sc_law.nd rfl (Or.inl rfl) (pe_call (ok_l_begin (K := K) T) (hr.mono (by decide)) rfl T.g_l_begin T.f_l_begin.kp B0 B0v pass0 (pa_cons (pv 0) pa_nil)))
      (pss_cons (ps_for PassesOwn.never rfl (pi_range1 rfl T.z_range (pa_cons (pe_op op_add pe_int (pe_callB (id := "min") (call_min2 rfl) (by rfl) T.z_min (by decide +kernel) (pa_cons (pe_callB (id := "len") (lenS (K := K)) (by rfl) T.z_len PySem.boot_len (pa_cons (pv 0) pa_nil)) (pa_cons pe_int pa_nil)))) pa_nil)) (pg_name (i := 2) sc_law.nd rfl (Or.inl rfl))
      (pss_one (ps_if (pt_not (pt_val (pe_call (ok_l_right (K := K) T) (hr.mono (by decide)) rfl T.g_l_right T.f_l_right.kp B1 B1v pass0 (pa_cons (pe_call (ok_l_ladders (K := K) T) (hr.mono (by decide)) rfl T.g_l_ladders T.f_l_ladders.kp B2 B2v pass0 (pa_cons (pv 1) (pa_cons (pe_op op_add pe_int (pe_call (ok_l_pick (K := K) T) (hr.mono (by decide)) rfl T.g_l_pick T.f_l_pick.kp B3 B3v pass0 (pa_cons (pv 1) (pa_cons pe_int pa_nil)))) (pa_cons pe_int pa_nil)))) pa_nil))))
      (pss_one (ps_ret pe_bl))
      pss_nil)))
      (pss_one (ps_ret pe_bl)))), ?_⟩
    walk_at "f"
    all_goals (try refine ⟨ns, rfl, hS, hn, fun h g H1 s1 nh ng pt => ?_⟩)
    have hS1 := s1.seq hS
    walk_at "f"
    refine for_range (fun i σ H' => (∃ v2, σ = [some (.ref a), some (.ref h), v2]) ∧ PotAt H' h g (400 * i)) ⟨⟨_, rfl⟩, pt⟩ ?_ ?_
    · rintro i σ H2 hi ⟨⟨v2, rfl⟩, pt2⟩
      have hi3 : i < 2 := by
        refine Nat.lt_of_lt_of_le hi ?_
        split <;> omega
      clear hi hS hS1 nh ng pt s1
      walk_at "f"
      intro c0 H4 c00 c01 pt4 k4
      obtain ⟨c, rfl⟩ := Int.eq_ofNat_of_zero_le c00
      refine ⟨_, _, rfl, rfl, ?_⟩
      refine ⟨h, g, 400 * i + 1, 2 + c, 5, rfl, pt4, by omega, by omega, by decide, by decide, fun D ys H5 nD k5 pt5 hD ly al => ?_⟩
      obtain ⟨ds, ld, a1⟩ := lds_of36 al
      walk_at "f"
      all_goals (try refine ⟨D, ys, ds, rfl, hD, ld, a1, by omega, by omega, fun H6 s6 => ?_⟩)
      all_goals (try refine ⟨ys, ds, rfl, hD, ld, a1, by omega, by omega, fun H6 s6 => ?_⟩)
      all_goals (try refine ⟨ds, rfl, hD, ld, a1, by omega, by omega, fun H6 s6 => ?_⟩)
      walk_at "f"
      exact ⟨⟨_, rfl⟩, (pt5.same s6).mono (by omega)⟩
    · rintro σ H2 ⟨⟨v2, rfl⟩, pt2⟩
      walk_at "f"
      exact kk _
end K36

open PySem PySem.W PySem.Calls PyProof.Rows
set_option maxRecDepth 100000 in
set_option maxHeartbeats 0 in
theorem PySem.Challenge.cw_sizeladders_k36_whole_rounds_by_measures_holds : PySem.Challenge.rw_sizeladders_k36_whole_rounds_by_measures.Holds := by
  exact K36.pre fun T => K36.ok_law T
