import PyProof.Rows.All
import Wide.All
import OpenK.AllK
import Wide.FinOn
import KE.KStateDown
import HandS.ForMost
import HandS.More
import HandS.WordsExc
import HandS.Defaults
import HandS.MakeKw
import HandS.MakeKwOnly
import HandS.Wide
import HandS.IsInst
import HandS.Flow
import HandS.Style
import HandS.OwnEq
import HandS.Head0
import HandS.Head1
import HandS.Head2
import HandS.HeadEnd
import HandS.HeadHook1
import HandS.HeadHook2
import HandS.ExcIs
import HandS.ExcOwn
import HandS.TryOnly
import HandS.ExcBuiltin
import HandS.FStr
import HandS.Text
import HandS.Codes
import HandS.StrMore
import HandS.Walk
import HandS.Zip
import HandS.Conv
import HandS.Iter
import KE.GoesEnum
import KE.DataMinMax
import HandS.SortKw
import HandS.TupAny
import HandS.FStrTup
import HandS.Deep
import HandS.SetFor
import HandS.Strs
import PyProof.ReprHeadsTuple
import PyProof.ReprNest
import KE.KFmtOwn
import HandS.RevRange
import HandS.ExcInit
import HandS.Nested
import KE.KExcSuper
import HandS.ExcField
import HandS.ExcValue
import PyProof.RowDictHeap
import HandS.TupLe
import KE.KSortKeyAny
import PyProof.Rows.SortShellAny
import KE.KMinKey
import KE.KItemsList
import PyProof.DictUpdate
import HandS.Small
import PySem.Challenge.RW_sizeladders_k29_whole_a_measure_in_commo
set_option Elab.async false
set_option linter.all false
set_option maxRecDepth 100000
set_option maxHeartbeats 4000000
namespace My
open PySem PySem.Spec PyProof.Rows L2
/-! ### operators of great numbers -/
section
variable {X : Cx}
theorem op_fd : OpR X (binaryOp .FloorDiv) (rI (fun _ j => j ≠ 0 ∧ j.natAbs.log2 < 9000) fun i j => .int (i.fdiv j)) :=
  opI fun _ _ _ _ _ _ _ hc q => floordiv_int hc.1 q (.inl (PyProof.noPylong_of_log2 hc.2))
theorem op_mulA : OpR X (binaryOp .Mult) (rI (fun i j => CMul i j ∨ CMulW i j) fun i j => .int (i * j)) :=
  opI fun _ _ _ _ _ _ _ hc q => mul_int q (hc.elim (fun h => h.ok) (fun h => h.ok))
/-! ### cuts: what is wanted behind a piece, said by a word of one's own -/
def tCutS (t : TS) : TS := fun D σ H => ∃ J : L2.St → Hp → Prop, t { D with nx := J } σ H ∧ ∀ σ' H', J σ' H' → D.nx σ' H'
theorem ps_cut {st : Stmt} {t : TS} (h : PS X st t) : PS X st (tCutS t) := by
  refine ⟨fun pins s σ H D I hw => ?_⟩
  obtain ⟨J, h1, h2⟩ := hw
  refine thn (h.run pins s σ H _ I h1) fun f s' q => ?_
  cases f with
  | next => obtain ⟨σ', H', I', q'⟩ := q; exact ⟨σ', H', I', h2 _ _ q'⟩
  | brk => exact q
  | cont => exact q
  | ret u => exact q
def tCutE (t : TE) : TE := fun σ H Q => ∃ J : V → Hp → Prop, t σ H J ∧ ∀ v H', J v H' → Q v H'
theorem pe_cut {e : Expr} {t : TE} (h : PE X e t) : PE X e (tCutE t) := by
  refine ⟨fun pins s σ H Q I hw => ?_⟩
  obtain ⟨J, h1, h2⟩ := hw
  exact thn (h.run pins s σ H _ I h1) fun u s' ⟨v, H', I', r, q'⟩ => ⟨v, H', I', r, h2 _ _ q'⟩
/-! ### calls by keywords -/
variable {CX : CXT} {k n : Nat} {f C : Addr} {fd : FuncData} {ps ks : List Str} {sp : Sp} {E : XK} {x m : Str} {p pos apos : Pos} {o e : Expr} {es : List Expr} {kws : List Keyword} {ta : TE} {t tk : TA} {g : List Value → List Value → List Value} {gV : List V → List V → List V}
end
/-! ### heaps -/
theorem up1 {H : Hp} {p x : Addr} {o u : HO} (hp : H p = none) (hx : H x = some o) : upd H p u x = some o := by
  rw [upd_ne (ne_of_none hx hp)]; exact hx
theorem same1 {H : Hp} {p : Addr} {u : HO} (hp : H p = none) : Same H (upd H p u) := fun _ _ e => up1 hp e
theorem _root_.L2.Same.sqt {K : PySem.W.Frag} {H H' : Hp} {a : Addr} {xs : List V} (e : Same H H') (h : SqT K H a xs) : SqT K H' a xs := by
  rcases h with (h | ⟨o, h⟩) | h
  · exact .inl (.inl (e _ _ h))
  · exact .inl (.inr ⟨o, e _ _ h⟩)
  · exact .inr h
/-- all stays but what stands at h -/
def Kp (h : Addr) (H H' : Hp) : Prop := ∀ b o, H b = some o → b ≠ h → H' b = some o
theorem Kp.refl (h : Addr) (H : Hp) : Kp h H H := fun _ _ e _ => e
theorem Kp.trans {h : Addr} {H H1 H2 : Hp} (a : Kp h H H1) (b : Kp h H1 H2) : Kp h H H2 := fun c o e n => b c o (a c o e n) n
theorem Kp.same {h : Addr} {H H1 : Hp} (a : Same H H1) : Kp h H H1 := fun c o e _ => a c o e
theorem Kp.up {h p : Addr} {H H1 : Hp} {u : HO} (a : Kp h H H1) (hp : H1 p = none) : Kp h H (upd H1 p u) := fun c o e n => up1 hp (a c o e n)
theorem Kp.set {h : Addr} {H H1 : Hp} {u : HO} (a : Kp h H H1) : Kp h H (upd H1 h u) := fun c o e n => by
  rw [upd_ne n]; exact a c o e n
/-- a list other than that at h, the script among them -/
theorem Kp.seq {K : PySem.W.Frag} {h a : Addr} {H H1 : Hp} {xs : List V} (k : Kp h H H1) (n : a ≠ h) (s : SqL K H a xs) : SqL K H1 a xs := by
  rcases s with (s | ⟨o, s⟩) | s
  · exact .inl (.inl (k _ _ s n))
  · exact .inl (.inr ⟨o, k _ _ s n⟩)
  · exact .inr s
/-! ### the hand: a list of three ints, drawn from -/
def HandAt (H : Hp) (h : Addr) (n : Nat) : Prop := ∃ a b c : Int, H h = some (.lst [.int a, .int b, .int c]) ∧ 0 ≤ a ∧ 0 ≤ b ∧ b < 4611686018427387904 ∧ 0 ≤ c ∧ c ≤ n
theorem HandAt.mono {H : Hp} {h : Addr} {n m : Nat} (a : HandAt H h n) (l : n ≤ m) : HandAt H h m := by
  obtain ⟨x, y, z, h1, h2, h3, h4, h5, h6⟩ := a
  exact ⟨x, y, z, h1, h2, h3, h4, h5, by omega⟩
theorem HandAt.same {H H' : Hp} {h : Addr} {n : Nat} (a : HandAt H h n) (s : Same H H') : HandAt H' h n := by
  obtain ⟨x, y, z, h1, h2⟩ := a
  exact ⟨x, y, z, s _ _ h1, h2⟩
theorem HandAt.up {H : Hp} {h p : Addr} {u : HO} {n : Nat} (a : HandAt H h n) (hp : H p = none) : HandAt (upd H p u) h n := a.same (same1 hp)
theorem HandAt.ne {H : Hp} {h p : Addr} {n : Nat} (a : HandAt H h n) (hp : H p = none) : p ≠ h := by
  obtain ⟨x, y, z, h1, _⟩ := a
  exact (ne_of_none h1 hp).symm
def notHand : HO → Bool
  | .lst _ => false
  | _ => true
theorem HandAt.apart {H : Hp} {h p : Addr} {o : HO} {n : Nat} (a : HandAt H h n) (hp : H p = some o) (ho : notHand o = true) : p ≠ h := by
  obtain ⟨x, y, z, h1, _⟩ := a
  exact ne_of hp h1 (by intro e; rw [e] at ho; cases ho)
/-! ### numbers -/
abbrev Sz (k : Nat) (z : Int) : Prop := z.natAbs < 2 ^ k
theorem Sz.mono {a b : Nat} {z : Int} (h : Sz a z) (l : a ≤ b) : Sz b z := Nat.lt_of_lt_of_le h (Nat.pow_le_pow_right (by decide) l)
theorem Sz.mul {a b : Nat} {x y : Int} (h : Sz a x) (g : Sz b y) : Sz (a + b) (x * y) := wide_lt h g
theorem Sz.add {a : Nat} {x y : Int} (h : Sz a x) (g : Sz a y) : Sz (a + 1) (x + y) := by
  show (x + y).natAbs < 2 ^ (a + 1)
  have h1 : x.natAbs < 2 ^ a := h
  have h2 : y.natAbs < 2 ^ a := g
  rw [Nat.pow_succ]; omega
theorem Sz.sub {a : Nat} {x y : Int} (h : Sz a x) (g : Sz a y) : Sz (a + 1) (x - y) := by
  show (x - y).natAbs < 2 ^ (a + 1)
  have h1 : x.natAbs < 2 ^ a := h
  have h2 : y.natAbs < 2 ^ a := g
  rw [Nat.pow_succ]; omega
theorem Sz.le {a : Nat} {x y : Int} (h : Sz a x) (l : y.natAbs ≤ x.natAbs) : Sz a y := Nat.lt_of_le_of_lt l h
theorem Sz.cmul {a b : Nat} {x y : Int} (h : Sz a x) (g : Sz b y) (h0 : 0 < a) (h1 : 0 < b) (l : a + b ≤ 1000000) : CMul x y ∨ CMulW x y := .inr (wide_mul h g h0 h1 l)
theorem Sz.log {a : Nat} {x : Int} (h : Sz a x) (h0 : 0 < a) (l : a ≤ 9000) : x.natAbs.log2 < 9000 := Nat.lt_of_lt_of_le (PySem.Flt.log2_lt_of h0 h) l
theorem dI {i j : Int} : decide (V.int i = V.int j) = decide (i = j) := by
  rw [dec_int, Bool.beq_eq_decide_eq]
/-- t / u is a / b in lowest terms -/
structure Fr (t u a b : Int) : Prop where
  pos : 0 < u
  eq : t * b = a * u
  co : Int.gcd t u = 1
  lt : t.natAbs ≤ a.natAbs
  lu : u.natAbs ≤ b.natAbs
def sgn (b : Int) : Int := if 0 < b then 1 else -1
theorem gcd_step {g s : Int} (hs : 0 < s) (hg : 0 ≤ g) : Int.gcd s (g % s) = Int.gcd g s := by
  obtain ⟨m, rfl⟩ := Int.eq_ofNat_of_zero_le hg
  obtain ⟨n, rfl⟩ := Int.eq_ofNat_of_zero_le (Int.le_of_lt hs)
  show Nat.gcd n (m % n) = Nat.gcd m n
  rw [Nat.gcd_comm m n, Nat.gcd_comm n (m % n), ← Nat.gcd_rec]
theorem fr_mk {a b c : Int} (hb : b ≠ 0) (hc : c = sgn b * (Int.gcd a b : Int)) : c ≠ 0 ∧ c.natAbs ≤ b.natAbs ∧ Fr (a.fdiv c) (b.fdiv c) a b := by
  have g0 : 0 < Int.gcd a b := Int.gcd_pos_of_ne_zero_right a hb
  have gd : (Int.gcd a b : Int) ∣ a := Int.gcd_dvd_left ..
  have gb : (Int.gcd a b : Int) ∣ b := Int.gcd_dvd_right ..
  have hs : sgn b = 1 ∨ sgn b = -1 := by unfold sgn; split <;> simp
  have cd : c ∣ a := by
    rcases hs with e | e <;> rw [hc, e]
    · rw [Int.one_mul]; exact gd
    · rw [Int.neg_one_mul]; exact (Int.neg_dvd).mpr gd
  have cb : c ∣ b := by
    rcases hs with e | e <;> rw [hc, e]
    · rw [Int.one_mul]; exact gb
    · rw [Int.neg_one_mul]; exact (Int.neg_dvd).mpr gb
  have cn : c.natAbs = Int.gcd a b := by
    rcases hs with e | e <;> rw [hc, e]
    · rw [Int.one_mul, Int.natAbs_natCast]
    · rw [Int.neg_one_mul, Int.natAbs_neg, Int.natAbs_natCast]
  have c0 : c ≠ 0 := by
    intro e; rw [e] at cn; simp at cn; omega
  have ta : a.fdiv c * c = a := Int.fdiv_mul_cancel cd
  have tb : b.fdiv c * c = b := Int.fdiv_mul_cancel cb
  have c1 : 1 ≤ c.natAbs := by omega
  have na : a.natAbs = (a.fdiv c).natAbs * c.natAbs := by rw [← Int.natAbs_mul, ta]
  have nb : b.natAbs = (b.fdiv c).natAbs * c.natAbs := by rw [← Int.natAbs_mul, tb]
  refine ⟨c0, ?_, ?_, ?_, ?_, ?_, ?_⟩
  · rw [cn]
    exact Nat.le_of_dvd (by omega) (Int.gcd_dvd_natAbs_right a b)
  · rcases Int.lt_trichotomy b 0 with h | h | h
    · have e : sgn b = -1 := by unfold sgn; rw [if_neg (by omega)]
      have cneg : c < 0 := by rw [hc, e]; omega
      rcases Int.lt_or_le 0 (b.fdiv c) with z | z
      · exact z
      · have : 0 ≤ b.fdiv c * c := Int.mul_nonneg_of_nonpos_of_nonpos z (by omega)
        omega
    · exact absurd h hb
    · have e : sgn b = 1 := by unfold sgn; rw [if_pos h]
      have cpos : 0 < c := by rw [hc, e]; omega
      rcases Int.lt_or_le 0 (b.fdiv c) with z | z
      · exact z
      · have : b.fdiv c * c ≤ 0 := Int.mul_nonpos_of_nonpos_of_nonneg z (by omega)
        omega
  · have : a.fdiv c * (b.fdiv c * c) = a.fdiv c * c * b.fdiv c := by
      rw [Int.mul_assoc, Int.mul_comm c]
    rw [tb, ta] at this
    exact this
  · have e : Int.gcd a b = Int.gcd (a.fdiv c) (b.fdiv c) * c.natAbs := by
      have := Int.gcd_mul_right (a.fdiv c) c (b.fdiv c)
      rw [ta, tb] at this
      exact this
    rw [← cn] at e
    have e2 : 1 * c.natAbs = Int.gcd (a.fdiv c) (b.fdiv c) * c.natAbs := by rw [Nat.one_mul]; exact e
    exact (Nat.eq_of_mul_eq_mul_right (by omega) e2).symm
  · rw [na]; exact Nat.le_mul_of_pos_right _ (by omega)
  · rw [nb]; exact Nat.le_mul_of_pos_right _ (by omega)
/-! ### a Measure -/
def mf (t u : Int) : List (Str × V) := [("top", .int t), ("bottom", .int u)]
theorem ne_tb : ¬ (("top" : Str) = "bottom") := by decide +kernel
theorem mf_put (t u : Int) : putF "bottom" (.int u) (putF "top" (.int t) []) = mf t u := by
  show (if ("top" : Str) = "bottom" then [(("top" : Str), V.int u)] else (("top" : Str), V.int t) :: putF "bottom" (V.int u) []) = mf t u
  rw [if_neg ne_tb] <;> rfl
theorem mf_top (t u : Int) : (mf t u).lookup ("top" : Str) = some (.int t) := by
  rw [← mf_put, lookup_putF, if_neg ne_tb, lookup_putF, if_pos rfl]
theorem mf_bottom (t u : Int) : (mf t u).lookup ("bottom" : Str) = some (.int u) := by
  rw [← mf_put, lookup_putF, if_pos rfl]
theorem mf_no (t u : Int) {m : Str} (h1 : ¬ m = "top") (h2 : ¬ m = "bottom") : (mf t u).lookup m = none := by
  rw [← mf_put, lookup_putF, if_neg h2, lookup_putF, if_neg h1] <;> rfl
def MAt (C : Addr) (H : Hp) (p : Addr) (t u : Int) : Prop := ∃ dx, H p = some (.ins C dx (mf t u))
theorem MAt.same {C p : Addr} {H H' : Hp} {t u : Int} (m : MAt C H p t u) (s : Same H H') : MAt C H' p t u := by
  obtain ⟨dx, h⟩ := m; exact ⟨dx, s _ _ h⟩
theorem MAt.kp {C p h : Addr} {H H' : Hp} {t u : Int} {n : Nat} (m : MAt C H p t u) (hh : HandAt H h n) (s : Kp h H H') : MAt C H' p t u := by
  obtain ⟨dx, e⟩ := m; exact ⟨dx, s _ _ e (hh.apart e rfl)⟩
def sp_minit (C : Addr) : Sp := fun vs H Q _ => ∃ (p dx : Addr) (a b : Int), vs = [.ref p, .int a, .int b] ∧ H p = some (.ins C dx []) ∧ b ≠ 0 ∧ b.natAbs.log2 < 9000 ∧
  ∀ (t u : Int) (H' : Hp), Fr t u a b → H' p = some (.ins C dx (mf t u)) → (∀ c o, H c = some o → c ≠ p → H' c = some o) → Q .non H'
theorem made {C : Addr} {H : Hp} {Q : VK} {E : XK} {a b : Int} (hb : b ≠ 0) (hl : b.natAbs.log2 < 9000) (k : ∀ (p : Addr) (t u : Int) (H' : Hp), H p = none → Same H H' → MAt C H' p t u → Fr t u a b → Q (.ref p) H') :
    ∀ x dx, H x = none → H dx = none → dx ≠ x → sp_minit C [.ref x, .int a, .int b] (upd (upd H dx (.own x)) x (.ins C dx [])) (fun v H2 => v = .non ∧ Q (.ref x) H2) E := by
  intro x dx nx nd ne
  refine ⟨x, dx, a, b, rfl, upd_same, hb, hl, fun t u H' fr hx kp => ⟨rfl, ?_⟩⟩
  refine k x t u H' nx (fun c o e => ?_) ⟨dx, hx⟩ fr
  have n1 : c ≠ x := ne_of_none e nx
  refine kp c o ?_ n1
  rw [upd_ne n1]
  exact up1 nd e
def sp_whole : Sp := fun vs H Q _ => ∃ n : Int, vs = [.int n] ∧ Q (.bl true) H
def sp_common : Sp := fun vs H Q _ => ∃ a b : Int, vs = [.int a, .int b] ∧ Q (.int (Int.gcd a b : Int)) H
def lessA (t u t' u' : Int) (al : Bool) : Bool := decide (t * u' < t' * u) || (al && decide (t * u' = t' * u))
def sp_below (C : Addr) : Sp := fun vs H Q _ => ∃ (p q : Addr) (t u t' u' : Int) (al : Bool), vs = [.ref p, .ref q, .bl al] ∧ MAt C H p t u ∧ MAt C H q t' u' ∧ Sz 9000 t ∧ Sz 9000 u ∧ Sz 9000 t' ∧ Sz 9000 u' ∧ Q (.bl (lessA t u t' u' al)) H
theorem Kp.get {h q : Addr} {H H' : Hp} {o : HO} {n : Nat} (k : Kp h H H') (hh : HandAt H h n) (e : H q = some o) (no : notHand o = true) : H' q = some o := k _ _ e (hh.apart e no)
theorem _root_.L2.Same.get {q : Addr} {H H' : Hp} {o : HO} (k : Same H H') (e : H q = some o) : H' q = some o := k _ _ e
theorem _root_.L2.Same.ofKp {h : Addr} {H H1 H2 : Hp} (s : Same H H1) (nh : H h = none) (k : Kp h H1 H2) : Same H H2 := fun c o e => k c o (s c o e) (ne_of_none e nh)
theorem _root_.L2.Same.up {p : Addr} {H H1 : Hp} {u : HO} (s : Same H H1) (hp : H1 p = none) : Same H (upd H1 p u) := s.trans (same1 hp)
theorem isTrueN {b : Bool} (h : ¬ b = true) : b = false := by cases b <;> simp_all
theorem sgn_cases (b : Int) : sgn b = 1 ∨ sgn b = -1 := by unfold sgn; split <;> simp
/-! ### rules with the written part by its name (for the blocks of comprehensions) -/
section
variable {X : Cx} {K : PySem.W.Frag}
theorem ixl (hK : X.K = K := by rfl) : IxR X (rIxL K) := by subst hK; exact ix_list
theorem ixt (hK : X.K = K := by rfl) : IxR X (rIxT K) := by subst hK; exact ix_tup
theorem isi (hK : X.K = K := by rfl) : CallR X (.builtin "isinstance") (rIsi K) := by subst hK; exact call_isi
def rLenS (K : PySem.W.Frag) : List V → Hp → VK → Prop := fun xs H Q => ∃ p ys, xs = [.ref p] ∧ (SqL K H p ys ∨ SqT K H p ys) ∧ Q (.int (ys.length : Int)) H
theorem lenS (hK : X.K = K := by rfl) : CallR X (.builtin "len") (rLenS K) := by subst hK; exact call_len_seq
theorem allK (hK : X.K = K := by rfl) (hc : X.calm = true := by rfl) : CallR X (.builtin "all") (rAll K) := by subst hK; exact cr_all hc
theorem eqDK (hu : X.A.units + 64 < cLine) (hK : X.K = K := by rfl) : OpR X (compareOp .Eq) (rEqD K) := by subst hK; exact op_eqD hu
theorem neDK (hu : X.A.units + 64 < cLine) (hK : X.K = K := by rfl) : OpR X (compareOp .NotEq) (rNeD K) := by subst hK; exact op_neD hu
theorem inK (hK : X.K = K := by rfl) : OpR X (compareOp .In) (rIn K false) := by subst hK; exact op_in_seq
theorem slL (hK : X.K = K := by rfl) : SlR X (rSlL K) := by subst hK; exact sl_list
theorem fldK {e : Expr} {f : Str} {pos : Pos} {ta : TE} (he : PE X e ta) (hb : attributeBase e f X.env (eval e X.env) = eval e X.env) (hK : X.K = K := by rfl) : PE X (.Attribute e f pos) (tFld K ta f) := by subst hK; exact pe_fld he hb
end
theorem yesT {te : TE} {σ : L2.St} {H : Hp} {N : VK} {M : Hp → Prop} (h : te σ H N) : tYes σ H (fun b H3 => if b = true then te σ H3 N else M H3) := by
  show (if true = true then te σ H N else M H)
  rw [if_pos rfl]; exact h
theorem made_same {H H' : Hp} {x dx C : Addr} (nx : H x = none) (nd : H dx = none) (kp : ∀ c o, (upd (upd H dx (.own x)) x (.ins C dx [])) c = some o → c ≠ x → H' c = some o) : Same H H' := fun c o e => by
  have n1 : c ≠ x := ne_of_none e nx
  refine kp c o ?_ n1
  rw [upd_ne n1]
  exact up1 nd e
/-! ### the head's facts, and more of them -/
theorem ex_at {ex : List (PySem.W.Frag → Bool)} {K : PySem.W.Frag} (c : (ex.all fun f => f K) = true) (i : Nat) {f : PySem.W.Frag → Bool} (h : ex[i]? = some f) : f K = true := List.all_eq_true.mp c f (List.mem_of_getElem? h)
/-- what isinstance asks of an own class -/
structure IsC (K : PySem.W.Frag) (C : Addr) : Prop where
  ha : PySem.W.findIn K (.ref C) "__class__" = some (some (.builtin "object.__class__"))
  hn : PySem.W.specialIn K (.builtin "object.__class__") "__get__" = some (some (.builtin "getset_descriptor.__get__"))
  htk : PySem.W.takesIn K (.builtin "object.__class__") = some true
  hm : PySem.W.mroIn K C (.type "object") = some true
def isCB (x : Str) : PySem.W.Frag → Bool := fun K => He.eqO (PySem.W.findIn K (.ref (He.ga K x)) "__class__") (some (some (.builtin "object.__class__"))) && (He.eqO (PySem.W.specialIn K (.builtin "object.__class__") "__get__") (some (some (.builtin "getset_descriptor.__get__"))) &&
  (decide (PySem.W.takesIn K (.builtin "object.__class__") = some true) && decide (PySem.W.mroIn K (He.ga K x) (.type "object") = some true)))
theorem isC_ok {x : Str} {K : PySem.W.Frag} (c : isCB x K = true) : IsC K (He.ga K x) := by
  obtain ⟨c1, c⟩ := He.ba c
  obtain ⟨c2, c⟩ := He.ba c
  obtain ⟨c3, c4⟩ := He.ba c
  exact ⟨He.eqO_ok c1, He.eqO_ok c2, of_decide_eq_true c3, of_decide_eq_true c4⟩
/-- a class by name: an own one, a built-in one -/
def cv (K : PySem.W.Frag) : Str ⊕ String → Value
  | .inl x => .ref (He.ga K x)
  | .inr n => .type n
def kitF (a b : Str ⊕ String) (r : Bool) : PySem.W.Frag → Bool := fun K => decide (PySem.W.kitOne K (cv K a) (cv K b) = some r)
theorem kitF_ok {a b : Str ⊕ String} {r : Bool} {K : PySem.W.Frag} (c : kitF a b r K = true) : PySem.W.kitOne K (cv K a) (cv K b) = some r := of_decide_eq_true c
theorem tyM {K : PySem.W.Frag} {H : Hp} {a C dx : Addr} {fs : List (Str × V)} (e : H a = some (.ins C dx fs)) (cl : Cls K C) (i : IsC K C) : TyX K H (.ref a) (.ref C) := .base (.ins e cl i.ha i.hn i.htk i.hm)
/-! ### sums and parts of Measures -/
/-- the same fraction once more -/
theorem Fr.of {t u a b c d : Int} (f : Fr t u a b) (hb : b ≠ 0) (e : a * d = c * b) : t * d = c * u := by
  have h1 := f.eq
  have h2 : (t * d) * b = (c * u) * b := by
    calc (t * d) * b = (t * b) * d := by simp only [Int.mul_assoc, Int.mul_comm, Int.mul_left_comm]
      _ = (a * u) * d := by rw [h1]
      _ = (a * d) * u := by simp only [Int.mul_assoc, Int.mul_comm, Int.mul_left_comm]
      _ = (c * b) * u := by rw [e]
      _ = (c * u) * b := by simp only [Int.mul_assoc, Int.mul_comm, Int.mul_left_comm]
  exact Int.eq_of_mul_eq_mul_right hb h2
/-- what stood at the start stands (by another name than the steps') -/
structure Old (H H' : Hp) : Prop where
  s : Same H H'
theorem Old.refl (H : Hp) : Old H H := ⟨Same.refl _⟩
theorem Old.up {p : Addr} {H H1 : Hp} {u : HO} (a : Old H H1) (hp : H1 p = none) : Old H (upd H1 p u) := ⟨a.s.up hp⟩
theorem Old.then {H H1 H2 : Hp} (a : Old H H1) (b : Same H1 H2) : Old H H2 := ⟨a.s.trans b⟩
theorem Old.kp {h : Addr} {H H1 H2 : Hp} (a : Old H H1) (nh : H h = none) (k : Kp h H1 H2) : Old H H2 := ⟨a.s.ofKp nh k⟩
theorem Old.put {h : Addr} {H H1 : Hp} {u : HO} (a : Old H H1) (nh : H h = none) : Old H (upd H1 h u) := ⟨fun c o e => by rw [upd_ne (ne_of_none e nh)]; exact a.s _ _ e⟩
/-- a list is changed, what is no list stays -/
theorem up2 {H : Hp} {l x : Addr} {xs : List V} {o u : HO} (hl : H l = some (.lst xs)) (hx : H x = some o) (no : notHand o = true) : upd H l u x = some o := by
  rw [upd_ne (ne_of hx hl (by intro e; rw [e] at no; cases no))]; exact hx
end My
namespace My
open PySem PySem.Spec PyProof.Rows L2
/-! ### fractions as pairs, stretches as ends -/
abbrev Q2 := Int × Int
def ltq (a b : Q2) : Bool := decide (a.1 * b.2 < b.1 * a.2)
def eqq (a b : Q2) : Bool := decide (a.1 * b.2 = b.1 * a.2)
def someB : Option Q2 → Option Q2 → Bool → Bool → Bool
  | some a, some b, ia, ib => ltq a b || (eqq a b && ia && ib)
  | _, _, _, _ => true
def Re (a b : Q2) : Prop := 0 < a.2 ∧ 0 < b.2 ∧ a.1 * b.2 = b.1 * a.2
def ReO : Option Q2 → Option Q2 → Prop
  | none, none => True
  | some a, some b => Re a b
  | _, _ => False
theorem Re.symm {a b : Q2} (h : Re a b) : Re b a := ⟨h.2.1, h.1, h.2.2.symm⟩
theorem Re.refl {a : Q2} (h : 0 < a.2) : Re a a := ⟨h, h, rfl⟩
theorem ReO.symm : ∀ {a b : Option Q2}, ReO a b → ReO b a
  | none, none, _ => trivial
  | some _, some _, h => Re.symm h
  | none, some _, h => h.elim
  | some _, none, h => h.elim
theorem pos_key {a b c d : Q2} (h : Re a c) (g : Re b d) : (a.1 * b.2) * (c.2 * d.2) = (c.1 * d.2) * (a.2 * b.2) := by
  have := h.2.2
  grind
theorem pos_key' {a b c d : Q2} (h : Re a c) (g : Re b d) : (b.1 * a.2) * (c.2 * d.2) = (d.1 * c.2) * (a.2 * b.2) := by
  have := g.2.2
  grind
theorem ltq_congr {a b c d : Q2} (h : Re a c) (g : Re b d) : ltq a b = ltq c d := by
  unfold ltq
  have k1 := pos_key h g
  have k2 := pos_key' h g
  have p1 : 0 < c.2 * d.2 := Int.mul_pos h.2.1 g.2.1
  have p2 : 0 < a.2 * b.2 := Int.mul_pos h.1 g.1
  refine decide_eq_decide.mpr ⟨fun x => ?_, fun x => ?_⟩
  · have := Int.mul_lt_mul_of_pos_right x p1
    rw [k1, k2] at this
    exact Int.lt_of_mul_lt_mul_right this (Int.le_of_lt p2)
  · have := Int.mul_lt_mul_of_pos_right x p2
    rw [← k1, ← k2] at this
    exact Int.lt_of_mul_lt_mul_right this (Int.le_of_lt p1)
theorem eqq_congr {a b c d : Q2} (h : Re a c) (g : Re b d) : eqq a b = eqq c d := by
  unfold eqq
  have k1 := pos_key h g
  have k2 := pos_key' h g
  have p1 : 0 < c.2 * d.2 := Int.mul_pos h.2.1 g.2.1
  have p2 : 0 < a.2 * b.2 := Int.mul_pos h.1 g.1
  refine decide_eq_decide.mpr ⟨fun x => ?_, fun x => ?_⟩
  · rw [x] at k1
    rw [k1] at k2
    exact Int.eq_of_mul_eq_mul_right (by omega) k2
  · rw [x] at k1
    rw [← k2] at k1
    exact Int.eq_of_mul_eq_mul_right (by omega) k1
theorem someB_congr : ∀ {a b c d : Option Q2} {i j : Bool}, ReO a c → ReO b d → someB a b i j = someB c d i j
  | some a, some b, some c, some d, i, j, h, g => by
    show (ltq a b || (eqq a b && i && j)) = (ltq c d || (eqq c d && i && j))
    rw [ltq_congr h g, eqq_congr h g]
  | none, some _, none, some _, _, _, _, _ => rfl
  | none, none, none, none, _, _, _, _ => rfl
  | some _, none, some _, none, _, _, _, _ => rfl
  | some _, _, none, _, _, _, h, _ => h.elim
  | none, _, some _, _, _, _, h, _ => h.elim
  | some _, some _, some _, none, _, _, _, g => g.elim
  | some _, none, some _, some _, _, _, _, g => g.elim
  | none, some _, none, none, _, _, _, g => g.elim
  | none, none, none, some _, _, _, _, g => g.elim
theorem lt_tri (a b : Q2) : (ltq a b = true ∧ eqq a b = false ∧ ltq b a = false) ∨ (ltq a b = false ∧ eqq a b = true ∧ ltq b a = false) ∨ (ltq a b = false ∧ eqq a b = false ∧ ltq b a = true) := by
  unfold ltq eqq
  rcases Int.lt_trichotomy (a.1 * b.2) (b.1 * a.2) with h | h | h
  · exact .inl ⟨decide_eq_true h, decide_eq_false (by omega), decide_eq_false (by omega)⟩
  · exact .inr (.inl ⟨decide_eq_false (by omega), decide_eq_true h, decide_eq_false (by omega)⟩)
  · exact .inr (.inr ⟨decide_eq_false (by omega), decide_eq_false (by omega), decide_eq_true h⟩)
/-- in lowest terms, its numbers of less than four thousand bits -/
structure Low (a : Q2) : Prop where
  pos : 0 < a.2
  co : Int.gcd a.1 a.2 = 1
  s1 : Sz 4000 a.1
  s2 : Sz 4000 a.2
def LowO : Option Q2 → Prop
  | none => True
  | some a => Low a
theorem dvd_co {a b c : Int} (h : a ∣ b * c) (g : Int.gcd a b = 1) : a ∣ c := by
  have h1 : a.natAbs ∣ b.natAbs * c.natAbs := by rw [← Int.natAbs_mul]; exact Int.natAbs_dvd_natAbs.mpr h
  exact Int.natAbs_dvd_natAbs.mp (Nat.Coprime.dvd_of_dvd_mul_left g h1)
theorem low_eq {a b : Q2} (h : Low a) (g : Low b) (e : a.1 * b.2 = b.1 * a.2) : a = b := by
  have h1 := h.pos
  have g1 := g.pos
  have d1 : a.2 ∣ b.2 := by
    have : a.2 ∣ a.1 * b.2 := ⟨b.1, by rw [e, Int.mul_comm]⟩
    exact dvd_co this (by rw [Int.gcd_comm]; exact h.co)
  have d2 : b.2 ∣ a.2 := by
    have : b.2 ∣ b.1 * a.2 := ⟨a.1, by rw [← e, Int.mul_comm]⟩
    exact dvd_co this (by rw [Int.gcd_comm]; exact g.co)
  have e2 : a.2 = b.2 := Int.le_antisymm (Int.le_of_dvd g1 d1) (Int.le_of_dvd h1 d2)
  rw [e2] at e
  exact Prod.ext (Int.eq_of_mul_eq_mul_right (by omega) e) e2
theorem low_eqq {a b : Q2} (h : Low a) (g : Low b) : (decide (a.1 = b.1) && decide (a.2 = b.2)) = eqq a b := by
  unfold eqq
  by_cases e : a.1 * b.2 = b.1 * a.2
  · rw [decide_eq_true e, low_eq h g e]; simp
  · rw [decide_eq_false e]
    cases z1 : decide (a.1 = b.1) with
    | false => rfl
    | true =>
      cases z2 : decide (a.2 = b.2) with
      | false => rfl
      | true =>
        exact absurd (by rw [of_decide_eq_true z1, of_decide_eq_true z2]) e
/-! ### their values -/
/-- None, or the tuple of an end's two numbers -/
def EndV (k : Nat) (H : Hp) (v : V) : Option Q2 → Prop
  | none => v = .non
  | some a => ∃ p, v = .ref p ∧ H p = some (.tup [.int a.1, .int a.2]) ∧ 0 < a.2 ∧ Sz k a.1 ∧ Sz k a.2
theorem EndV.mono {k j : Nat} (l : k ≤ j) {H : Hp} {v : V} : ∀ {e : Option Q2}, EndV k H v e → EndV j H v e
  | none, h => h
  | some _, ⟨p, h1, h2, h3, h4, h5⟩ => ⟨p, h1, h2, h3, h4.mono l, h5.mono l⟩
def MsV (C : Addr) (H : Hp) (v : V) : Option Q2 → Prop
  | none => v = .non
  | some a => ∃ p, v = .ref p ∧ MAt C H p a.1 a.2
theorem EndV.same {k : Nat} {H H' : Hp} {v : V} : ∀ {e : Option Q2}, EndV k H v e → Same H H' → EndV k H' v e
  | none, h, _ => h
  | some _, ⟨p, h1, h2, h3⟩, s => ⟨p, h1, s _ _ h2, h3⟩
theorem EndV.kp {j : Nat} {H H' : Hp} {h : Addr} {n : Nat} {v : V} : ∀ {e : Option Q2}, EndV j H v e → HandAt H h n → Kp h H H' → EndV j H' v e
  | none, h, _, _ => h
  | some _, ⟨p, h1, h2, h3⟩, hh, k => ⟨p, h1, k.get hh h2 rfl, h3⟩
theorem MsV.same {C : Addr} {H H' : Hp} {v : V} : ∀ {e : Option Q2}, MsV C H v e → Same H H' → MsV C H' v e
  | none, h, _ => h
  | some _, ⟨p, h1, h2⟩, s => ⟨p, h1, h2.same s⟩
theorem MsV.kp {C : Addr} {H H' : Hp} {h : Addr} {n : Nat} {v : V} : ∀ {e : Option Q2}, MsV C H v e → HandAt H h n → Kp h H H' → MsV C H' v e
  | none, h, _, _ => h
  | some _, ⟨p, h1, h2⟩, hh, k => ⟨p, h1, h2.kp hh k⟩
/-! ### a Stretch -/
def sf (l h : V) (li hi : Bool) : List (Str × V) := [("low", l), ("high", h), ("low_in", .bl li), ("high_in", .bl hi)]
theorem sf_put (l h : V) (li hi : Bool) : putF "high_in" (.bl hi) (putF "low_in" (.bl li) (putF "high" h (putF "low" l []))) = sf l h li hi := by
  have e1 : putF ("high" : Str) h (putF ("low" : Str) l []) = ([("low", l), ("high", h)] : List (Str × V)) := by
    show (if ("low" : Str) = "high" then [(("low" : Str), h)] else (("low" : Str), l) :: putF "high" h []) = _
    rw [if_neg (by decide +kernel)] <;> rfl
  have e2 : putF ("low_in" : Str) (.bl li) [("low", l), ("high", h)] = ([("low", l), ("high", h), ("low_in", .bl li)] : List (Str × V)) := by
    show (if ("low" : Str) = "low_in" then _ else (("low" : Str), l) :: (if ("high" : Str) = "low_in" then _ else (("high" : Str), h) :: putF "low_in" (V.bl li) [])) = _
    rw [if_neg (by decide +kernel), if_neg (by decide +kernel)] <;> rfl
  have e3 : putF ("high_in" : Str) (.bl hi) [("low", l), ("high", h), ("low_in", .bl li)] = sf l h li hi := by
    show (if ("low" : Str) = "high_in" then _ else (("low" : Str), l) :: (if ("high" : Str) = "high_in" then _ else (("high" : Str), h) :: (if ("low_in" : Str) = "high_in" then _ else (("low_in" : Str), V.bl li) :: putF "high_in" (V.bl hi) []))) = _
    rw [if_neg (by decide +kernel), if_neg (by decide +kernel), if_neg (by decide +kernel)] <;> rfl
  rw [e1, e2, e3]
theorem sf_low (l h : V) (li hi : Bool) : (sf l h li hi).lookup ("low" : Str) = some l := by
  rw [← sf_put, lookup_putF, if_neg (by decide +kernel), lookup_putF, if_neg (by decide +kernel), lookup_putF, if_neg (by decide +kernel), lookup_putF, if_pos rfl]
theorem sf_high (l h : V) (li hi : Bool) : (sf l h li hi).lookup ("high" : Str) = some h := by
  rw [← sf_put, lookup_putF, if_neg (by decide +kernel), lookup_putF, if_neg (by decide +kernel), lookup_putF, if_pos rfl]
theorem sf_low_in (l h : V) (li hi : Bool) : (sf l h li hi).lookup ("low_in" : Str) = some (.bl li) := by
  rw [← sf_put, lookup_putF, if_neg (by decide +kernel), lookup_putF, if_pos rfl]
theorem sf_high_in (l h : V) (li hi : Bool) : (sf l h li hi).lookup ("high_in" : Str) = some (.bl hi) := by
  rw [← sf_put, lookup_putF, if_pos rfl]
theorem sf_no (l h : V) (li hi : Bool) {m : Str} (h1 : ¬ m = "low") (h2 : ¬ m = "high") (h3 : ¬ m = "low_in") (h4 : ¬ m = "high_in") : (sf l h li hi).lookup m = none := by
  rw [← sf_put, lookup_putF, if_neg h4, lookup_putF, if_neg h3, lookup_putF, if_neg h2, lookup_putF, if_neg h1] <;> rfl
/-- a Stretch at p: its ends, whether they are in -/
structure StAt (CM CS : Addr) (H : Hp) (p : Addr) (lo hi : Option Q2) (li hj : Bool) : Prop where
  ob : ∃ dx l h, H p = some (.ins CS dx (sf l h li hj)) ∧ MsV CM H l lo ∧ MsV CM H h hi
  l1 : LowO lo
  l2 : LowO hi
  n1 : lo = none → li = false
  n2 : hi = none → hj = false
theorem StAt.same {CM CS p : Addr} {H H' : Hp} {lo hi : Option Q2} {li hj : Bool} (a : StAt CM CS H p lo hi li hj) (s : Same H H') : StAt CM CS H' p lo hi li hj := by
  obtain ⟨⟨dx, l, h, h1, h2, h3⟩, a1, a2, a3, a4⟩ := a
  exact ⟨⟨dx, l, h, s _ _ h1, h2.same s, h3.same s⟩, a1, a2, a3, a4⟩
theorem StAt.kp {CM CS p h : Addr} {H H' : Hp} {n : Nat} {lo hi : Option Q2} {li hj : Bool} (a : StAt CM CS H p lo hi li hj) (hh : HandAt H h n) (s : Kp h H H') : StAt CM CS H' p lo hi li hj := by
  obtain ⟨⟨dx, l, h, h1, h2, h3⟩, a1, a2, a3, a4⟩ := a
  exact ⟨⟨dx, l, h, s.get hh h1 rfl, h2.kp hh s, h3.kp hh s⟩, a1, a2, a3, a4⟩
theorem cmpBack_of {X : Cx} {pins : List (Addr × Obj)} {σ : L2.St} {Q : VK} {u : Value} {s' : Shared} (h : EP X pins σ Q u s') : PySem.W.CmpBack (EP X pins σ Q) u s' := by
  have h0 := h
  obtain ⟨v, H', I', r, q⟩ := h
  cases v with
  | non => cases r; exact h0
  | bl _ => cases r; exact h0
  | int _ => obtain ⟨t, rfl⟩ := r; exact h0
  | str _ => obtain ⟨t, rfl⟩ := r; exact h0
  | byt _ => obtain ⟨t, rfl⟩ := r; exact h0
  | flt _ => obtain ⟨t, rfl⟩ := r; exact h0
  | ref _ => cases r; exact h0
  | ty _ => cases r; exact h0
/-- == by an own __eq__, of two instances of one class -/
theorem op_eqI {X : Cx} {CX : CXT} {n : Nat} {C f : Addr} {fd : FuncData} {ps : List Str} {sp : Sp} {E : XK} (F : FnOk X.prog X.w X.K X.mg X.base CX n f fd ps sp) (hr : Room n X.A) {ds : List Value} (hm : Meth X.K C "__eq__" f) (hb : Binds X.K fd ps ds) (hd : Vals [] ds) (hx : Passes CX X E) :
    OpR X (compareOp .Eq) (fun x y H Q => ∃ a b dx dy fs gs, x = .ref a ∧ y = .ref b ∧ H a = some (.ins C dx fs) ∧ H b = some (.ins C dy gs) ∧ sp [.ref a, .ref b] H Q E) := by
  intro pins s σ H x y v u Q I rx ry hq
  obtain ⟨a, b, dx, dy, fs, gs, rfl, rfl, ha, hb', hsp⟩ := hq
  cases rx
  cases ry
  show wpAny (model X.prog X.w) X.A (richCompare .Eq (.ref a) (.ref b)) (EP X pins σ Q) X.xe s
  obtain ⟨mA, J, _⟩ := ins_get I.hok ha
  obtain ⟨mB, J', _⟩ := ins_get I.hok hb'
  obtain ⟨od, J, _⟩ := J.look
  obtain ⟨od', J', _⟩ := J'.look
  obtain ⟨m, hF⟩ := I.fr
  refine PySem.W.cmp_K (op := .Eq) (tb := .ref C) hr.units0 hF I.ok.mod.kin J J'.type (by simp [PySem.W.notFirst]) hm.at_ hm.fn ?_
  refine thn ?_ fun u s' => cmpBack_of
  exact run_fn (us := [.ref a, .ref b]) (vs := [.ref a, .ref b]) F hr hb hd hx I (.cons rfl (.cons rfl .nil)) hsp
/-! ### promises -/
/-- the tuple of two ends and two truths, between which something is -/
structure EndsAt (H : Hp) (p : Addr) (ea eb : Option Q2) (ia ib : Bool) : Prop where
  ob : ∃ va vb, H p = some (.tup [va, vb, .bl ia, .bl ib]) ∧ EndV 140 H va ea ∧ EndV 140 H vb eb
  so : someB ea eb ia ib = true
theorem EndsAt.same {H H' : Hp} {p : Addr} {ea eb : Option Q2} {ia ib : Bool} (a : EndsAt H p ea eb ia ib) (s : Same H H') : EndsAt H' p ea eb ia ib := by
  obtain ⟨⟨va, vb, h1, h2, h3⟩, h4⟩ := a
  exact ⟨⟨va, vb, s _ _ h1, h2.same s, h3.same s⟩, h4⟩
theorem EndsAt.kp {H H' : Hp} {p h : Addr} {n : Nat} {ea eb : Option Q2} {ia ib : Bool} (a : EndsAt H p ea eb ia ib) (hh : HandAt H h n) (s : Kp h H H') : EndsAt H' p ea eb ia ib := by
  obtain ⟨⟨va, vb, h1, h2, h3⟩, h4⟩ := a
  exact ⟨⟨va, vb, s.get hh h1 rfl, h2.kp hh s, h3.kp hh s⟩, h4⟩
def sp_isend (CM : Addr) : Sp := fun vs H Q _ => ∃ (v : V) (m : Option Q2), vs = [v] ∧ MsV CM H v m ∧ Q (.bl true) H
def sp_meq (CM : Addr) : Sp := fun vs H Q _ => ∃ (p q : Addr) (a b : Q2), vs = [.ref p, .ref q] ∧ MAt CM H p a.1 a.2 ∧ MAt CM H q b.1 b.2 ∧ Q (.bl (decide (a.1 = b.1) && decide (a.2 = b.2))) H
def sp_empty (CM : Addr) : Sp := fun vs H Q _ => ∃ (l h : V) (lo hi : Option Q2) (li hj : Bool), vs = [l, h, .bl li, .bl hj] ∧ MsV CM H l lo ∧ MsV CM H h hi ∧ LowO lo ∧ LowO hi ∧ Q (.bl (!someB lo hi li hj)) H
def sp_sinit (CM CS : Addr) : Sp := fun vs H Q _ => ∃ (p dx : Addr) (l h : V) (lo hi : Option Q2) (li hj : Bool), vs = [.ref p, l, h, .bl li, .bl hj] ∧ H p = some (.ins CS dx []) ∧ MsV CM H l lo ∧ MsV CM H h hi ∧ LowO lo ∧ LowO hi ∧ someB lo hi li hj = true ∧
  ∀ H', H' p = some (.ins CS dx (sf l h (li && lo.isSome) (hj && hi.isSome))) → (∀ q o, H q = some o → q ≠ p → H' q = some o) → Q .non H'
theorem MsV.put {CM p C dx : Addr} {H : Hp} {v : V} {o : HO} (hp : H p = some (.ins C dx [])) : ∀ {m : Option Q2}, MsV CM H v m → MsV CM (upd H p o) v m
  | none, h => h
  | some _, ⟨q, h1, ⟨dy, h2⟩⟩ => ⟨q, h1, ⟨dy, by
      rw [upd_ne (ne_of h2 hp (by intro e; injection e with _ _ e; cases e))]; exact h2⟩⟩
theorem StAt.mk' {CM CS p dx : Addr} {H H' : Hp} {l h : V} {lo hi : Option Q2} {li hj : Bool} (h1 : H' p = some (.ins CS dx (sf l h (li && lo.isSome) (hj && hi.isSome)))) (s : Same H H') (ml : MsV CM H l lo) (mh : MsV CM H h hi) (l1 : LowO lo) (l2 : LowO hi) :
    StAt CM CS H' p lo hi (li && lo.isSome) (hj && hi.isSome) :=
  ⟨⟨dx, l, h, h1, ml.same s, mh.same s⟩, l1, l2, fun e => by rw [e]; simp, fun e => by rw [e]; simp⟩
theorem ReO.isS : ∀ {a b : Option Q2}, ReO a b → a.isSome = b.isSome
  | none, none, _ => rfl
  | some _, some _, _ => rfl
  | none, some _, h => h.elim
  | some _, none, h => h.elim
theorem Fr.re {t u a b : Int} (f : Fr t u a b) (hb : 0 < b) : Re (t, u) (a, b) := ⟨f.pos, hb, f.eq⟩
/-! ### what two stretches have in common -/
def cutLo : Option Q2 → Bool → Option Q2 → Bool → Option Q2 × Bool
  | none, _, n, j => (n, j)
  | some a, i, none, _ => (some a, i)
  | some a, i, some b, j => if ltq a b then (some b, j) else if eqq a b then (some a, i && j) else (some a, i)
def cutHi : Option Q2 → Bool → Option Q2 → Bool → Option Q2 × Bool
  | none, _, n, j => (n, j)
  | some a, i, none, _ => (some a, i)
  | some a, i, some b, j => if ltq b a then (some b, j) else if eqq a b then (some a, i && j) else (some a, i)
/-- the same end, and in or not alike where there is one -/
def Alike (x y : Option Q2 × Bool) : Prop := ReO x.1 y.1 ∧ (x.1.isSome = true → x.2 = y.2)
theorem Alike.flag {x y : Option Q2 × Bool} (h : Alike x y) : (x.2 && x.1.isSome) = (y.2 && y.1.isSome) := by
  obtain ⟨h1, h2⟩ := h
  rw [← h1.isS]
  cases e : x.1.isSome with
  | true => rw [h2 e]
  | false => simp
theorem Alike.someB {x y z w : Option Q2 × Bool} (h : Alike x y) (g : Alike z w) : My.someB x.1 z.1 x.2 z.2 = My.someB y.1 w.1 y.2 w.2 := by
  obtain ⟨x, i⟩ := x
  obtain ⟨y, j⟩ := y
  obtain ⟨z, k⟩ := z
  obtain ⟨w, l⟩ := w
  obtain ⟨h1, h2⟩ := h
  obtain ⟨g1, g2⟩ := g
  rw [someB_congr h1 g1]
  cases x with
  | none => cases y with
    | none => rfl
    | some _ => exact h1.elim
  | some a => cases z with
    | none => cases w with
      | none => cases y <;> rfl
      | some _ => exact g1.elim
    | some b =>
      have e1 : i = j := h2 rfl
      have e2 : k = l := g2 rfl
      rw [e1, e2]
theorem Alike.norm {a b : Option Q2} {i : Bool} (h : ReO a b) : Alike (a, i && b.isSome) (b, i) := ⟨h, fun e => by
  have e1 : a.isSome = true := e
  rw [h.isS] at e1
  show (i && b.isSome) = i
  rw [e1]; simp⟩
theorem cutLo_alike {x y z w : Option Q2 × Bool} (h : Alike x y) (g : Alike z w) : Alike (cutLo x.1 x.2 z.1 z.2) (cutLo y.1 y.2 w.1 w.2) := by
  obtain ⟨x, i⟩ := x
  obtain ⟨y, j⟩ := y
  obtain ⟨z, k⟩ := z
  obtain ⟨w, l⟩ := w
  obtain ⟨h1, h2⟩ := h
  obtain ⟨g1, g2⟩ := g
  cases x with
  | none => cases y with
    | none => exact ⟨g1, g2⟩
    | some _ => exact h1.elim
  | some a => cases y with
    | none => exact h1.elim
    | some a' => cases z with
      | none => cases w with
        | none => exact ⟨h1, h2⟩
        | some _ => exact g1.elim
      | some b => cases w with
        | none => exact g1.elim
        | some b' =>
          have e1 : i = j := h2 rfl
          have e2 : k = l := g2 rfl
          show Alike (if ltq a b then (some b, k) else if eqq a b then (some a, i && k) else (some a, i)) (if ltq a' b' then (some b', l) else if eqq a' b' then (some a', j && l) else (some a', j))
          rw [ltq_congr h1 g1, eqq_congr h1 g1, e1, e2]
          split
          · exact ⟨g1, fun _ => rfl⟩
          · split
            · exact ⟨h1, fun _ => rfl⟩
            · exact ⟨h1, fun _ => rfl⟩
theorem cutHi_alike {x y z w : Option Q2 × Bool} (h : Alike x y) (g : Alike z w) : Alike (cutHi x.1 x.2 z.1 z.2) (cutHi y.1 y.2 w.1 w.2) := by
  obtain ⟨x, i⟩ := x
  obtain ⟨y, j⟩ := y
  obtain ⟨z, k⟩ := z
  obtain ⟨w, l⟩ := w
  obtain ⟨h1, h2⟩ := h
  obtain ⟨g1, g2⟩ := g
  cases x with
  | none => cases y with
    | none => exact ⟨g1, g2⟩
    | some _ => exact h1.elim
  | some a => cases y with
    | none => exact h1.elim
    | some a' => cases z with
      | none => cases w with
        | none => exact ⟨h1, h2⟩
        | some _ => exact g1.elim
      | some b => cases w with
        | none => exact g1.elim
        | some b' =>
          have e1 : i = j := h2 rfl
          have e2 : k = l := g2 rfl
          show Alike (if ltq b a then (some b, k) else if eqq a b then (some a, i && k) else (some a, i)) (if ltq b' a' then (some b', l) else if eqq a' b' then (some a', j && l) else (some a', j))
          rw [ltq_congr g1 h1, eqq_congr h1 g1, e1, e2]
          split
          · exact ⟨g1, fun _ => rfl⟩
          · split
            · exact ⟨h1, fun _ => rfl⟩
            · exact ⟨h1, fun _ => rfl⟩
theorem cutLo_low {a b : Option Q2} {i j : Bool} (h : LowO a) (g : LowO b) : LowO (cutLo a i b j).1 := by
  cases a with
  | none => exact g
  | some a => cases b with
    | none => exact h
    | some b =>
      show LowO (if ltq a b then (some b, j) else if eqq a b then (some a, i && j) else (some a, i)).1
      split
      · exact g
      · split <;> exact h
theorem cutHi_low {a b : Option Q2} {i j : Bool} (h : LowO a) (g : LowO b) : LowO (cutHi a i b j).1 := by
  cases a with
  | none => exact g
  | some a => cases b with
    | none => exact h
    | some b =>
      show LowO (if ltq b a then (some b, j) else if eqq a b then (some a, i && j) else (some a, i)).1
      split
      · exact g
      · split <;> exact h
def sp_cutEnd (CM CS : Addr) (f : Option Q2 → Option Q2 → Bool → Bool → Option Q2 → Option Q2 → Bool → Bool → Option Q2 × Bool) : Sp := fun vs H Q _ => ∃ (p q : Addr) (m1 m2 n1 n2 : Option Q2) (i1 i2 j1 j2 : Bool), vs = [.ref p, .ref q] ∧ StAt CM CS H p m1 m2 i1 i2 ∧ StAt CM CS H q n1 n2 j1 j2 ∧
  ∀ (r : Addr) (v : V) (H' : Hp), Same H H' → H' r = some (.tup [v, .bl (f m1 m2 i1 i2 n1 n2 j1 j2).2]) → MsV CM H' v (f m1 m2 i1 i2 n1 n2 j1 j2).1 → Q (.ref r) H'
/-- a Stretch, or None where nothing is between -/
def CutV (CM CS : Addr) (H : Hp) (v : V) (lo hi : Option Q2 × Bool) : Prop :=
  (someB lo.1 hi.1 lo.2 hi.2 = true ∧ ∃ r, v = .ref r ∧ StAt CM CS H r lo.1 hi.1 (lo.2 && lo.1.isSome) (hi.2 && hi.1.isSome)) ∨ (someB lo.1 hi.1 lo.2 hi.2 = false ∧ v = .non)
def sp_cutS (CM CS : Addr) : Sp := fun vs H Q _ => ∃ (p q : Addr) (m1 m2 n1 n2 : Option Q2) (i1 i2 j1 j2 : Bool), vs = [.ref p, .ref q] ∧ StAt CM CS H p m1 m2 i1 i2 ∧ StAt CM CS H q n1 n2 j1 j2 ∧
  ∀ (v : V) (H' : Hp), Same H H' → CutV CM CS H' v (cutLo m1 i1 n1 j1) (cutHi m2 i2 n2 j2) → Q v H'
/-- the law's own: a tuple of four, or None -/
def DueV (H : Hp) (v : V) (lo hi : Option Q2 × Bool) : Prop :=
  (someB lo.1 hi.1 lo.2 hi.2 = true ∧ ∃ r, v = .ref r ∧ EndsAt H r lo.1 hi.1 lo.2 hi.2) ∨ (someB lo.1 hi.1 lo.2 hi.2 = false ∧ v = .non)
theorem DueV.same {H H' : Hp} {v : V} {lo hi : Option Q2 × Bool} (h : DueV H v lo hi) (s : Same H H') : DueV H' v lo hi := by
  rcases h with ⟨h1, r, h2, h3⟩ | h
  · exact .inl ⟨h1, r, h2, h3.same s⟩
  · exact .inr h
theorem CutV.same {CM CS : Addr} {H H' : Hp} {v : V} {lo hi : Option Q2 × Bool} (h : CutV CM CS H v lo hi) (s : Same H H') : CutV CM CS H' v lo hi := by
  rcases h with ⟨h1, r, h2, h3⟩ | h
  · exact .inl ⟨h1, r, h2, h3.same s⟩
  · exact .inr h
/-- what is told is what is due -/
def Match (CM CS : Addr) (H : Hp) (found due : V) : Prop :=
  (found = .non ∧ due = .non) ∨ ∃ (r d : Addr) (lo hi ea eb : Option Q2) (ia ib : Bool), found = .ref r ∧ due = .ref d ∧ EndsAt H d ea eb ia ib ∧ StAt CM CS H r lo hi (ia && ea.isSome) (ib && eb.isSome) ∧ ReO lo ea ∧ ReO hi eb
theorem Match.same {CM CS : Addr} {H H' : Hp} {f d : V} (h : Match CM CS H f d) (s : Same H H') : Match CM CS H' f d := by
  rcases h with h | ⟨r, d, lo, hi, ea, eb, ia, ib, h1, h2, h3, h4, h5, h6⟩
  · exact .inl h
  · exact .inr ⟨r, d, lo, hi, ea, eb, ia, ib, h1, h2, h3.same s, h4.same s, h5, h6⟩
theorem Re.trans {a b c : Q2} (h : Re a b) (g : Re b c) : Re a c := by
  obtain ⟨h1, h2, h3⟩ := h
  obtain ⟨g1, g2, g3⟩ := g
  refine ⟨h1, g2, Int.eq_of_mul_eq_mul_right (show b.2 ≠ 0 by omega) ?_⟩
  grind
theorem ReO.trans : ∀ {a b c : Option Q2}, ReO a b → ReO b c → ReO a c
  | none, none, none, _, _ => trivial
  | some _, some _, some _, h, g => Re.trans h g
  | none, some _, _, h, _ => h.elim
  | some _, none, _, h, _ => h.elim
  | none, none, some _, _, g => g.elim
  | some _, some _, none, _, g => g.elim
def PosO : Option Q2 → Prop
  | none => True
  | some a => 0 < a.2
theorem LowO.posO : ∀ {a : Option Q2}, LowO a → PosO a
  | none, _ => trivial
  | some _, h => Low.pos h
theorem ReO.refl : ∀ {a : Option Q2}, PosO a → ReO a a
  | none, _ => trivial
  | some _, h => Re.refl h
theorem Alike.trans {x y z : Option Q2 × Bool} (h : Alike x y) (g : Alike y z) : Alike x z := ⟨h.1.trans g.1, fun e => (h.2 e).trans (g.2 (by rw [← h.1.isS]; exact e))⟩
theorem StAt.raw {CM CS p : Addr} {H : Hp} {lo hi : Option Q2} {li hj : Bool} (a : StAt CM CS H p lo hi li hj) {m : Str} (h1 : ¬ m = "low") (h2 : ¬ m = "high") (h3 : ¬ m = "low_in") (h4 : ¬ m = "high_in") : ∃ dx fs, H p = some (.ins CS dx fs) ∧ fs.lookup m = none := by
  obtain ⟨⟨dx, l, h, e, _⟩, _⟩ := a
  exact ⟨dx, _, e, sf_no _ _ _ _ h1 h2 h3 h4⟩
theorem EndsAt.due {H : Hp} {p : Addr} {ea eb : Option Q2} {ia ib : Bool} (a : EndsAt H p ea eb ia ib) : DueV H (.ref p) (ea, ia) (eb, ib) := .inl ⟨a.so, p, rfl, a⟩
/-! ### what a stretch holds -/
def loIn : Option Q2 → Bool → Q2 → Bool
  | none, _, _ => true
  | some a, i, x => ltq a x || (i && eqq a x)
def hiIn : Option Q2 → Bool → Q2 → Bool
  | none, _, _ => true
  | some b, j, x => ltq x b || (j && eqq x b)
theorem ltq_trans {a b c : Q2} (hb : 0 < b.2) (ha : 0 < a.2) (hc : 0 < c.2) (h : ltq a b = true) (g : ltq b c = true) : ltq a c = true := by
  unfold ltq at *
  have h := of_decide_eq_true h
  have g := of_decide_eq_true g
  refine decide_eq_true ?_
  have h2 := Int.mul_lt_mul_of_pos_right h hc
  have g2 := Int.mul_lt_mul_of_pos_right g ha
  have e1 : b.1 * a.2 * c.2 = b.1 * c.2 * a.2 := by simp only [Int.mul_assoc, Int.mul_comm, Int.mul_left_comm]
  rw [e1] at h2
  have k := Int.lt_trans h2 g2
  have e2 : a.1 * b.2 * c.2 = a.1 * c.2 * b.2 := by simp only [Int.mul_assoc, Int.mul_comm, Int.mul_left_comm]
  have e3 : c.1 * b.2 * a.2 = c.1 * a.2 * b.2 := by simp only [Int.mul_assoc, Int.mul_comm, Int.mul_left_comm]
  rw [e2, e3] at k
  exact Int.lt_of_mul_lt_mul_right k (Int.le_of_lt hb)
theorem eqq_re {a b : Q2} (ha : 0 < a.2) (hb : 0 < b.2) (h : eqq a b = true) : Re a b := ⟨ha, hb, of_decide_eq_true h⟩
theorem loIn_alike {x y : Option Q2 × Bool} {q r : Q2} (h : Alike x y) (g : Re q r) : loIn x.1 x.2 q = loIn y.1 y.2 r := by
  obtain ⟨x, i⟩ := x
  obtain ⟨y, j⟩ := y
  obtain ⟨h1, h2⟩ := h
  cases x with
  | none => cases y with
    | none => rfl
    | some _ => exact h1.elim
  | some a => cases y with
    | none => exact h1.elim
    | some b =>
      have e : i = j := h2 rfl
      show (ltq a q || (i && eqq a q)) = (ltq b r || (j && eqq b r))
      rw [ltq_congr h1 g, eqq_congr h1 g, e]
theorem hiIn_alike {x y : Option Q2 × Bool} {q r : Q2} (h : Alike x y) (g : Re q r) : hiIn x.1 x.2 q = hiIn y.1 y.2 r := by
  obtain ⟨x, i⟩ := x
  obtain ⟨y, j⟩ := y
  obtain ⟨h1, h2⟩ := h
  cases x with
  | none => cases y with
    | none => rfl
    | some _ => exact h1.elim
  | some a => cases y with
    | none => exact h1.elim
    | some b =>
      have e : i = j := h2 rfl
      show (ltq q a || (i && eqq q a)) = (ltq r b || (j && eqq r b))
      rw [ltq_congr g h1, eqq_congr g h1, e]
theorem loIn_up {a b x : Q2} {i j : Bool} (ha : 0 < a.2) (hb : 0 < b.2) (hx : 0 < x.2) (h : ltq a b = true) (g : (ltq b x || (j && eqq b x)) = true) : (ltq a x || (i && eqq a x)) = true := by
  have e : ltq a x = true := by
    cases e1 : ltq b x with
    | true => exact ltq_trans hb ha hx h e1
    | false =>
      rw [e1, Bool.false_or] at g
      have e2 := (Bool.and_eq_true_iff.mp g).2
      rw [← ltq_congr (Re.refl ha) (eqq_re hb hx e2)]
      exact h
  rw [e]; rfl
theorem hiIn_up {a b x : Q2} {i j : Bool} (ha : 0 < a.2) (hb : 0 < b.2) (hx : 0 < x.2) (h : ltq b a = true) (g : (ltq x b || (j && eqq x b)) = true) : (ltq x a || (i && eqq x a)) = true := by
  have e : ltq x a = true := by
    cases e1 : ltq x b with
    | true => exact ltq_trans hb hx ha e1 h
    | false =>
      rw [e1, Bool.false_or] at g
      have e2 := (Bool.and_eq_true_iff.mp g).2
      rw [ltq_congr (eqq_re hx hb e2) (Re.refl ha)]
      exact h
  rw [e]; rfl
theorem cutLo_in {a b : Option Q2} {i j : Bool} {x : Q2} (ha : PosO a) (hb : PosO b) (hx : 0 < x.2) : loIn (cutLo a i b j).1 (cutLo a i b j).2 x = (loIn a i x && loIn b j x) := by
  cases a with
  | none => rfl
  | some a => cases b with
    | none => exact (Bool.and_true _).symm
    | some b =>
      show loIn (if ltq a b then (some b, j) else if eqq a b then (some a, i && j) else (some a, i)).1 (if ltq a b then (some b, j) else if eqq a b then (some a, i && j) else (some a, i)).2 x = ((ltq a x || (i && eqq a x)) && (ltq b x || (j && eqq b x)))
      rcases lt_tri a b with ⟨h1, h2, h3⟩ | ⟨h1, h2, h3⟩ | ⟨h1, h2, h3⟩
      · rw [h1]
        show (ltq b x || (j && eqq b x)) = _
        cases e : (ltq b x || (j && eqq b x)) with
        | false => simp
        | true => rw [loIn_up ha hb hx h1 e]; rfl
      · rw [h1, h2]
        show (ltq a x || (i && j && eqq a x)) = _
        have r := eqq_re ha hb h2
        rw [← ltq_congr r (Re.refl hx), ← eqq_congr r (Re.refl hx)]
        cases ltq a x <;> cases eqq a x <;> cases i <;> cases j <;> rfl
      · rw [h1, h2]
        show (ltq a x || (i && eqq a x)) = _
        cases e : (ltq a x || (i && eqq a x)) with
        | false => rfl
        | true => rw [loIn_up hb ha hx h3 e]; rfl
theorem cutHi_in {a b : Option Q2} {i j : Bool} {x : Q2} (ha : PosO a) (hb : PosO b) (hx : 0 < x.2) : hiIn (cutHi a i b j).1 (cutHi a i b j).2 x = (hiIn a i x && hiIn b j x) := by
  cases a with
  | none => rfl
  | some a => cases b with
    | none => exact (Bool.and_true _).symm
    | some b =>
      show hiIn (if ltq b a then (some b, j) else if eqq a b then (some a, i && j) else (some a, i)).1 (if ltq b a then (some b, j) else if eqq a b then (some a, i && j) else (some a, i)).2 x = ((ltq x a || (i && eqq x a)) && (ltq x b || (j && eqq x b)))
      rcases lt_tri a b with ⟨h1, h2, h3⟩ | ⟨h1, h2, h3⟩ | ⟨h1, h2, h3⟩
      · rw [h3, h2]
        show (ltq x a || (i && eqq x a)) = _
        cases e : (ltq x a || (i && eqq x a)) with
        | false => rfl
        | true => rw [hiIn_up hb ha hx h1 e]; rfl
      · rw [h3, h2]
        show (ltq x a || (i && j && eqq x a)) = _
        have r := eqq_re ha hb h2
        rw [← ltq_congr (Re.refl hx) r, ← eqq_congr (Re.refl hx) r]
        cases ltq x a <;> cases eqq x a <;> cases i <;> cases j <;> rfl
      · rw [h3]
        show (ltq x b || (j && eqq x b)) = _
        cases e : (ltq x b || (j && eqq x b)) with
        | false => simp
        | true => rw [hiIn_up ha hb hx h3 e]; rfl
/-! ### sums, once more, by the size of the new bottom -/
def sp_bin2 (C : Addr) (f g : Int → Int → Int → Int → Int) : Sp := fun vs H Q _ => ∃ (p q : Addr) (t u t' u' : Int), vs = [.ref p, .ref q] ∧ MAt C H p t u ∧ MAt C H q t' u' ∧ 0 < u ∧ 0 < u' ∧ Sz 100000 t ∧ Sz 100000 u ∧ Sz 100000 t' ∧ Sz 100000 u' ∧ Sz 9000 (u * u') ∧
  ∀ (r : Addr) (t2 u2 : Int) (H' : Hp), H r = none → Same H H' → MAt C H' r t2 u2 → Fr t2 u2 (f t u t' u') (g t u t' u') → Q (.ref r) H'
def sp_part2 (C : Addr) : Sp := fun vs H Q _ => ∃ (p : Addr) (t u m : Int), vs = [.ref p, .int m] ∧ MAt C H p t u ∧ 0 < u ∧ m ≠ 0 ∧ Sz 100000 t ∧ Sz 100000 u ∧ Sz 100000 m ∧ Sz 9000 (u * m) ∧
  ∀ (r : Addr) (t2 u2 : Int) (H' : Hp), H r = none → Same H H' → MAt C H' r t2 u2 → Fr t2 u2 t (u * m) → Q (.ref r) H'
/-- a Measure that the stretch holds -/
structure Held (CM : Addr) (H : Hp) (r : Addr) (x : Q2) (lo hi : Option Q2) (li hj : Bool) : Prop where
  at_ : MAt CM H r x.1 x.2
  pos : 0 < x.2
  s1 : Sz 15000 x.1
  s2 : Sz 15000 x.2
  low : loIn lo li x = true
  high : hiIn hi hj x = true
/-- a Measure in both, or None -/
def ShV (CM : Addr) (H : Hp) (v : V) (m1 m2 n1 n2 : Option Q2) (i1 i2 j1 j2 : Bool) : Prop :=
  (someB (cutLo m1 i1 n1 j1).1 (cutHi m2 i2 n2 j2).1 (cutLo m1 i1 n1 j1).2 (cutHi m2 i2 n2 j2).2 = true ∧ ∃ r x, v = .ref r ∧ Held CM H r x m1 m2 i1 i2 ∧ Held CM H r x n1 n2 j1 j2) ∨
  (someB (cutLo m1 i1 n1 j1).1 (cutHi m2 i2 n2 j2).1 (cutLo m1 i1 n1 j1).2 (cutHi m2 i2 n2 j2).2 = false ∧ v = .non)
theorem Held.same {CM r : Addr} {H H' : Hp} {x : Q2} {lo hi : Option Q2} {li hj : Bool} (a : Held CM H r x lo hi li hj) (s : Same H H') : Held CM H' r x lo hi li hj := ⟨a.at_.same s, a.pos, a.s1, a.s2, a.low, a.high⟩
theorem ShV.same {CM : Addr} {H H' : Hp} {v : V} {m1 m2 n1 n2 : Option Q2} {i1 i2 j1 j2 : Bool} (a : ShV CM H v m1 m2 n1 n2 i1 i2 j1 j2) (s : Same H H') : ShV CM H' v m1 m2 n1 n2 i1 i2 j1 j2 := by
  rcases a with ⟨e, r, x, h1, h2, h3⟩ | h
  · exact .inl ⟨e, r, x, h1, h2.same s, h3.same s⟩
  · exact .inr h
theorem eqq_self (a : Q2) : eqq a a = true := decide_eq_true rfl
/-! ### lists of points, made in comprehensions -/
/-- all but lists stays -/
def Nl (H H' : Hp) : Prop := ∀ c o, H c = some o → notHand o = true → H' c = some o
theorem Nl.of {H H' : Hp} (s : Same H H') : Nl H H' := fun c o e _ => s c o e
theorem Nl.put {H : Hp} {l : Addr} {xs : List V} {u : HO} (h : H l = some (.lst xs)) : Nl H (upd H l u) := fun c o e no => up2 h e no
theorem EndV.nl {k : Nat} {H H' : Hp} {v : V} : ∀ {e : Option Q2}, EndV k H v e → Nl H H' → EndV k H' v e
  | none, h, _ => h
  | some _, ⟨p, h1, h2, h3⟩, s => ⟨p, h1, s _ _ h2 rfl, h3⟩
def PtV (k : Nat) (H : Hp) (v : V) : Prop := ∃ a : Q2, EndV k H v (some a)
theorem PtV.nl {k : Nat} {H H' : Hp} {v : V} (h : PtV k H v) (s : Nl H H') : PtV k H' v := by
  obtain ⟨a, h⟩ := h
  exact ⟨a, h.nl s⟩
end My
namespace My
open PySem PySem.Spec PyProof.Rows L2
/-! ### errors -/
section
variable {P : Program} {w : World} {K : PySem.W.Frag} {mg : Str → Option Value} {base : Heap} {k : Nat} {f : Addr} {fd : FuncData} {ps : List Str}
/-- a def that lets nothing out keeps its promise where more may be let out -/
theorem lift {CX : CXT} {sp : Sp} (F : FnOk P w K mg base CX0 k f fd ps sp) : FnOk P w K mg base CX k f fd ps sp :=
  ⟨F.len, fun A outer s H args us vs Q E hr he hb hv hs => codeAny_mono (F.run A outer s H args us vs Q E hr he hb hv hs) fun r s' hq => by
    cases r with
    | error e => exact False.elim hq
    | ok fl => cases fl <;> exact hq⟩
end
section
variable {X : Cx} {CX : CXT} {k : Nat} {f C : Addr} {fd : FuncData} {ps : List Str} {sp : Sp} {dvs : List V} {ds : List Value} {x : Str} {p pos : Pos} {e : Expr} {es : List Expr} {t : TA} {E : L2.St → XK}
end
/-! ### several clauses, each with the error by the same name; nothing leaves -/
/-! ### facts of error classes -/
/-! ### things of any kind -/
/-- a thing that is no Measure and no Stretch; h: not the hand -/
def Thing (h : Addr) (H : Hp) (v : V) : Prop := v = .non ∨ (∃ b, v = .bl b) ∨ (∃ i, v = .int i) ∨ (∃ z, v = .str z) ∨ (∃ a xs, v = .ref a ∧ a ≠ h ∧ H a = some (.lst xs)) ∨ (∃ a xs, v = .ref a ∧ H a = some (.tup xs)) ∨ (∃ a kvs, v = .ref a ∧ H a = some (.dK kvs))
theorem Thing.same {h : Addr} {H H' : Hp} {v : V} (t : Thing h H v) (s : Same H H') : Thing h H' v := by
  rcases t with t | t | t | t | ⟨a, xs, e, n, t⟩ | ⟨a, xs, e, t⟩ | ⟨a, xs, e, t⟩
  · exact .inl t
  · exact .inr (.inl t)
  · exact .inr (.inr (.inl t))
  · exact .inr (.inr (.inr (.inl t)))
  · exact .inr (.inr (.inr (.inr (.inl ⟨a, xs, e, n, s _ _ t⟩))))
  · exact .inr (.inr (.inr (.inr (.inr (.inl ⟨a, xs, e, s _ _ t⟩)))))
  · exact .inr (.inr (.inr (.inr (.inr (.inr ⟨a, xs, e, s _ _ t⟩)))))
theorem Thing.kp {h : Addr} {n : Nat} {H H' : Hp} {v : V} (t : Thing h H v) (hh : HandAt H h n) (s : Kp h H H') : Thing h H' v := by
  rcases t with t | t | t | t | ⟨a, xs, e, n, t⟩ | ⟨a, xs, e, t⟩ | ⟨a, xs, e, t⟩
  · exact .inl t
  · exact .inr (.inl t)
  · exact .inr (.inr (.inl t))
  · exact .inr (.inr (.inr (.inl t)))
  · exact .inr (.inr (.inr (.inr (.inl ⟨a, xs, e, n, s _ _ t n⟩))))
  · exact .inr (.inr (.inr (.inr (.inr (.inl ⟨a, xs, e, s.get hh t rfl⟩)))))
  · exact .inr (.inr (.inr (.inr (.inr (.inr ⟨a, xs, e, s.get hh t rfl⟩)))))
/-- its class, as isinstance asks it -/
theorem Thing.ty {K : PySem.W.Frag} {h : Addr} {H : Hp} {v : V} (t : Thing h H v) : ∃ n : String, TyX K H v (.type n) ∧ (n = "NoneType" ∨ n = "bool" ∨ n = "int" ∨ n = "str" ∨ n = "list" ∨ n = "tuple" ∨ n = "dict") := by
  rcases t with rfl | ⟨b, rfl⟩ | ⟨i, rfl⟩ | ⟨z, rfl⟩ | ⟨a, xs, rfl, n, t⟩ | ⟨a, xs, rfl, t⟩ | ⟨a, xs, rfl, t⟩
  · exact ⟨_, .base .non, .inl rfl⟩
  · exact ⟨_, .base (.bl b), .inr (.inl rfl)⟩
  · exact ⟨_, .base (.int i), .inr (.inr (.inl rfl))⟩
  · exact ⟨_, .base (.str z), .inr (.inr (.inr (.inl rfl)))⟩
  · exact ⟨_, .base (.lst t), .inr (.inr (.inr (.inr (.inl rfl))))⟩
  · exact ⟨_, .base (.tup t), .inr (.inr (.inr (.inr (.inr (.inl rfl)))))⟩
  · exact ⟨_, .base (.dK t), .inr (.inr (.inr (.inr (.inr (.inr rfl)))))⟩
end My
namespace My
open PySem PySem.Spec PyProof.Rows L2
/-! ### == and != by an own __eq__, beside things of any kind -/
section
open AutoSeq1 (wpAny_loadPart')
variable {prog : Program} {w : World} {A : Around} {E : Value → Shared → Prop} {s : Shared}
end
/-- a value of a built-in kind -/
inductive Bk (H : Hp) : V → String → Prop where
  | non : Bk H .non "NoneType"
  | bl (b : Bool) : Bk H (.bl b) "bool"
  | int (i : Int) : Bk H (.int i) "int"
  | str (z : Str) : Bk H (.str z) "str"
  | lst {a : Addr} {xs : List V} (e : H a = some (.lst xs)) : Bk H (.ref a) "list"
  | tup {a : Addr} {xs : List V} (e : H a = some (.tup xs)) : Bk H (.ref a) "tuple"
theorem Bk.ty {K : PySem.W.Frag} {H : Hp} {x : V} {T : String} (b : Bk H x T) : TyX K H x (.type T) := by
  cases b with
  | non => exact .base .non
  | bl b => exact .base (.bl b)
  | int i => exact .base (.int i)
  | str z => exact .base (.str z)
  | lst e => exact .base (.lst e)
  | tup e => exact .base (.tup e)
theorem Bk.same {H H' : Hp} {x : V} {T : String} (b : Bk H x T) (s : Same H H') : Bk H' x T := by
  cases b with
  | non => exact .non
  | bl b => exact .bl b
  | int i => exact .int i
  | str z => exact .str z
  | lst e => exact .lst (s _ _ e)
  | tup e => exact .tup (s _ _ e)
/-- the kinds that no own class stands under -/
def kinds : List String := ["NoneType", "bool", "int", "str", "list", "tuple"]
theorem Bk.mem {H : Hp} {x : V} {T : String} (b : Bk H x T) : T ∈ kinds := by
  cases b <;> simp [kinds]
/-- what == and != ask of a class with an own __eq__ and no own __ne__ -/
structure EqC (K : PySem.W.Frag) (C : Addr) : Prop where
  ne : PySem.W.findIn K (.ref C) "__ne__" = some (some (.builtin "object.__ne__"))
  ob : PySem.W.mroIn K C (.type "object") = some true
  sub : ∀ T, T ∈ kinds → PySem.W.subIn K (.ref C) (.type T) = some false
  nf : ∀ T, T ∈ kinds → PySem.W.notFirst K C (.type T) = true
  kit : ∀ T, T ∈ kinds → PySem.W.kitOne K (.type T) (.ref C) = some false
def eqCB (x : Str) : PySem.W.Frag → Bool := fun K => He.eqO (PySem.W.findIn K (.ref (He.ga K x)) "__ne__") (some (some (.builtin "object.__ne__"))) && (decide (PySem.W.mroIn K (He.ga K x) (.type "object") = some true) &&
  ((kinds.all fun T => decide (PySem.W.subIn K (.ref (He.ga K x)) (.type T) = some false)) && ((kinds.all fun T => PySem.W.notFirst K (He.ga K x) (.type T)) && (kinds.all fun T => decide (PySem.W.kitOne K (.type T) (.ref (He.ga K x)) = some false)))))
theorem eqC_ok {x : Str} {K : PySem.W.Frag} (c : eqCB x K = true) : EqC K (He.ga K x) := by
  obtain ⟨c1, c⟩ := He.ba c
  obtain ⟨c2, c⟩ := He.ba c
  obtain ⟨c3, c⟩ := He.ba c
  obtain ⟨c4, c5⟩ := He.ba c
  exact ⟨He.eqO_ok c1, of_decide_eq_true c2, fun T h => of_decide_eq_true (List.all_eq_true.mp c3 T h), fun T h => List.all_eq_true.mp c4 T h, fun T h => of_decide_eq_true (List.all_eq_true.mp c5 T h)⟩
section
variable {X : Cx} {pins : List (Addr × Obj)} {σ : L2.St} {H : Hp} {s : Shared} {A : Around} {E : Value → Shared → Prop}
end
/-- how == answers: x == y tells b, and nothing changes -/
abbrev Eqb := V → V → Hp → Bool → Prop
def RcB (X : Cx) (n : Nat) (D : Eqb) : Prop := ∀ (A : Around) (pins : List (Addr × Obj)) (s : Shared) (σ : L2.St) (H : Hp) (x y : V) (u v : Value) (b : Bool), Sub X n A → Inv X pins σ H s → RelV x u → RelV y v → D x y H b →
  wpAny (model X.prog X.w) A (richCompare .Eq u v) (fun r s' => r = .bool b ∧ Inv X pins σ H s') X.xe s
def EqB (X : Cx) (n : Nat) (D : Eqb) : Prop := ∀ (A : Around) (pins : List (Addr × Obj)) (s : Shared) (σ : L2.St) (H : Hp) (x y : V) (u v : Value) (b : Bool), Sub X n A → Inv X pins σ H s → RelV x u → RelV y v → D x y H b →
  wpAny (model X.prog X.w) A (eqBool u v) (fun r s' => r = b ∧ Inv X pins σ H s') X.xe s
/-- the own object first -/
def DOwn (K : PySem.W.Frag) (C : Addr) (R : Eqb) : Eqb := fun x y H b => ∃ a dx fs tb, x = .ref a ∧ H a = some (.ins C dx fs) ∧ TyX K H y tb ∧ PySem.W.notFirst K C tb = true ∧ (x = y → b = true) ∧ R x y H b
/-- the own object behind a thing of a built-in kind -/
def DRef (C : Addr) (R : Eqb) : Eqb := fun x y H b => ∃ a dx fs T, y = .ref a ∧ H a = some (.ins C dx fs) ∧ Bk H x T ∧ (x = y → b = true) ∧ R y x H b
def DOr (D D' : Eqb) : Eqb := fun x y H b => D x y H b ∨ D' x y H b
section
variable {X : Cx} {n : Nat} {CX : CXT} {C f : Addr} {fd : FuncData} {ps : List Str} {R D D' : Eqb} {E : XK}
theorem RcB.mono {m : Nat} (h : RcB X n D) (l : n ≤ m) : RcB X m D := fun A pins s σ H x y u v b sb I rx ry d => h A pins s σ H x y u v b (sb.mono l) I rx ry d
theorem EqB.mono {m : Nat} (h : EqB X n D) (l : n ≤ m) : EqB X m D := fun A pins s σ H x y u v b sb I rx ry d => h A pins s σ H x y u v b (sb.mono l) I rx ry d
theorem RcB.or (h : RcB X n D) (h' : RcB X n D') : RcB X n (DOr D D') := fun A pins s σ H x y u v b sb I rx ry d => d.elim (h A pins s σ H x y u v b sb I rx ry) (h' A pins s σ H x y u v b sb I rx ry)
theorem EqB.or (h : EqB X n D) (h' : EqB X n D') : EqB X n (DOr D D') := fun A pins s σ H x y u v b sb I rx ry d => d.elim (h A pins s σ H x y u v b sb I rx ry) (h' A pins s σ H x y u v b sb I rx ry)
/-! ### in, by an own == -/
def InB (D : Eqb) (x : V) (H : Hp) : List V → Bool → Prop
  | [], b => b = false
  | y :: r, b => (D y x H true ∧ b = true) ∨ (D y x H false ∧ InB D x H r b)
open AutoSeq1 (wpAny_loadPart') in
open AutoSeq1 (wpAny_loadPart') in
/-- a text beside a thing of a built-in kind -/
def DTxt : Eqb := fun x y H b => ∃ (z : Str) (T : String), x = .str z ∧ Bk H y T ∧ b = decide (y = .str z)
end
/-! ### Measures alike, beside Measures and things of built-in kinds -/
def REq (K : PySem.W.Frag) (C : Addr) : Eqb := fun x y H b => ∃ p t u, x = .ref p ∧ MAt C H p t u ∧ ((∃ q t' u', y = .ref q ∧ MAt C H q t' u' ∧ b = (decide (t = t') && decide (u = u'))) ∨ ∃ tv, TyX K H y tv ∧ PySem.W.kitOne K tv (.ref C) = some false ∧ b = false)
inductive Like (C : Addr) (H : Hp) (p : Addr) : V → Bool → Prop where
  | ms {q : Addr} {t u t' u' : Int} (a : MAt C H p t u) (b : MAt C H q t' u') : Like C H p (.ref q) (decide (t = t') && decide (u = u'))
  | kd {y : V} {T : String} {t u : Int} (a : MAt C H p t u) (b : Bk H y T) : Like C H p y false
theorem Like.same {C p : Addr} {H H' : Hp} {y : V} {b : Bool} (h : Like C H p y b) (s : Same H H') : Like C H' p y b := by
  cases h with
  | ms a b => exact .ms (a.same s) (b.same s)
  | kd a k => exact .kd (a.same s) (k.same s)
theorem mf_inj {t u t' u' : Int} (h : mf t u = mf t' u') : t = t' ∧ u = u' := by
  unfold mf at h
  injection h with h1 h2
  injection h2 with h3 _
  exact ⟨V.int.inj (congrArg Prod.snd h1), V.int.inj (congrArg Prod.snd h3)⟩
theorem MAt.uniq {C p : Addr} {H : Hp} {t u t' u' : Int} (a : MAt C H p t u) (b : MAt C H p t' u') : t = t' ∧ u = u' := by
  obtain ⟨d, a⟩ := a
  obtain ⟨d', b⟩ := b
  rw [a] at b
  have e := HO.ins.inj (Option.some.inj b)
  exact mf_inj e.2.2
theorem Bk.notIns {C p dx : Addr} {H : Hp} {T : String} {fs : List (Str × V)} (b : Bk H (.ref p) T) (e : H p = some (.ins C dx fs)) : False := by
  cases b with
  | lst z => rw [z] at e; cases e
  | tup z => rw [z] at e; cases e
section
variable {K : PySem.W.Frag} {C p : Addr} {H : Hp} {y : V} {b : Bool}
theorem nf_self : PySem.W.notFirst K C (.ref C) = true := by simp [PySem.W.notFirst]
theorem Like.fwd (cl : Cls K C) (ii : IsC K C) (ec : EqC K C) (h : Like C H p y b) : DOwn K C (REq K C) (.ref p) y H b := by
  cases h with
  | @ms q t u t' u' a b =>
    obtain ⟨da, ha⟩ := _root_.id a
    obtain ⟨db, hb⟩ := _root_.id b
    refine ⟨p, da, _, _, rfl, ha, tyM hb cl ii, nf_self, fun e => ?_, p, t, u, rfl, a, .inl ⟨q, t', u', rfl, b, rfl⟩⟩
    cases e
    obtain ⟨rfl, rfl⟩ := a.uniq b
    simp
  | @kd _ T t u a k =>
    obtain ⟨da, ha⟩ := _root_.id a
    refine ⟨p, da, _, _, rfl, ha, k.ty, ec.nf T k.mem, fun e => ?_, p, t, u, rfl, a, .inr ⟨_, k.ty, ec.kit T k.mem, rfl⟩⟩
    subst e
    exact (k.notIns ha).elim
theorem Like.bwd (cl : Cls K C) (ii : IsC K C) (ec : EqC K C) (h : Like C H p y b) : DOr (DOwn K C (REq K C)) (DRef C (REq K C)) y (.ref p) H b := by
  cases h with
  | @ms q t u t' u' a b =>
    obtain ⟨da, ha⟩ := _root_.id a
    obtain ⟨db, hb⟩ := _root_.id b
    have e2 : (decide (t = t') && decide (u = u')) = (decide (t' = t) && decide (u' = u)) := by
      rw [decide_eq_decide.mpr (eq_comm (a := t)), decide_eq_decide.mpr (eq_comm (a := u))]
    rw [e2]
    refine .inl ⟨q, db, _, _, rfl, hb, tyM ha cl ii, nf_self, fun e => ?_, q, t', u', rfl, b, .inl ⟨p, t, u, rfl, a, rfl⟩⟩
    cases e
    obtain ⟨rfl, rfl⟩ := a.uniq b
    simp
  | @kd _ T t u a k =>
    obtain ⟨da, ha⟩ := _root_.id a
    refine .inr ⟨p, da, _, T, rfl, ha, k, fun e => ?_, p, t, u, rfl, a, .inr ⟨_, k.ty, ec.kit T k.mem, rfl⟩⟩
    subst e
    exact (k.notIns ha).elim
theorem Like.non (ec : EqC K C) (h : Like C H p y b) : DOr (DOwn K C (REq K C)) (DRef C (REq K C)) .non (.ref p) H false := by
  have go : ∀ {t u : Int}, MAt C H p t u → DOr (DOwn K C (REq K C)) (DRef C (REq K C)) .non (.ref p) H false := fun {t u} a => by
    obtain ⟨da, ha⟩ := _root_.id a
    exact .inr ⟨p, da, _, _, rfl, ha, .non, (fun e => nomatch e), p, t, u, rfl, a, .inr ⟨_, (Bk.non (H := H)).ty, ec.kit _ (Bk.non (H := H)).mem, rfl⟩⟩
  cases h with
  | ms a _ => exact go a
  | kd a _ => exact go a
/-- one in [None, y] -/
theorem Like.inl (cl : Cls K C) (ii : IsC K C) (ec : EqC K C) (h : Like C H p y b) : InB (DOr (DOwn K C (REq K C)) (DRef C (REq K C))) (.ref p) H [.non, y] b := by
  refine .inr ⟨h.non ec, ?_⟩
  cases b with
  | true => exact .inl ⟨h.bwd cl ii ec, rfl⟩
  | false => exact .inr ⟨h.bwd cl ii ec, rfl⟩
/-- y in (one, z) -/
theorem Like.inr {z : Str} (cl : Cls K C) (ii : IsC K C) (ec : EqC K C) (h : Like C H p y b) (hz : y ≠ .str z) : InB (DOr (DOr (DOwn K C (REq K C)) (DRef C (REq K C))) DTxt) y H [.ref p, .str z] b := by
  have key : ∀ {c : Bool}, Like C H p y c → DOr (DOr (DOwn K C (REq K C)) (DRef C (REq K C))) DTxt (.str z) y H false := fun {c} h => by
    cases h with
    | @ms q t u t' u' a b =>
      obtain ⟨dq, hq⟩ := _root_.id b
      exact .inl (.inr ⟨q, dq, _, _, rfl, hq, .str z, (fun e => nomatch e), q, t', u', rfl, b, .inr ⟨_, (Bk.str (H := H) z).ty, ec.kit _ (Bk.str (H := H) z).mem, rfl⟩⟩)
    | @kd _ T t u a k => exact .inr ⟨z, T, rfl, k, (decide_eq_false hz).symm⟩
  cases b with
  | true => exact .inl ⟨.inl (.inl (h.fwd cl ii ec)), rfl⟩
  | false => exact .inr ⟨.inl (.inl (h.fwd cl ii ec)), .inr ⟨key h, rfl⟩⟩
end
end My
namespace My
open PySem PySem.Spec PyProof.Rows L2
/-! ### texts: str and repr of own objects, pieces of f-strings, divmod -/
section
variable {X : Cx} {n : Nat} {CX : CXT} {C f : Addr} {fd : FuncData} {ps : List Str} {sp : Sp} {E : XK}
/-- an own def is called from within a built-in one -/
theorem fn_at (F : FnOk X.prog X.w X.K X.mg X.base CX n f fd ps sp) (hb : Binds X.K fd ps []) (hx : Passes CX X E) {A : Around} {pins : List (Addr × Obj)} {s : Shared} {σ : L2.St} {H : Hp} {vs : List V} {us : List Value} {Q : VK}
    (sb : Sub X n A) (I : Inv X pins σ H s) (r : Vals vs us) (h : sp vs H Q E) : wpAny (model X.prog X.w) A (call (.ref f) us) (fun u s' => ∃ v H', Inv X pins σ H' s' ∧ RelV v u ∧ Q v H') X.xe s := by
  have e := I.env0
  have e0 : Env0 X.prog X.w X.K X.mg X.base A X.stack s H := ⟨by rw [sb.fr]; exact e.frames, e.mod, e.bs, e.bsz, e.funs, e.frf, e.hok, e.bare⟩
  have hl := F.len _ _ _ _ h
  have hbs := hb s us I.kIn (by rw [List.append_nil, ← r.length]; exact hl)
  rw [List.append_nil] at hbs
  refine wpAny_call (codeAny_mono (F.run A X.stack s H ⟨us, []⟩ us vs _ E sb.room e0 hbs r h) fun r s' hq => ?_)
  cases r with
  | error e => exact hx pins σ H s e s' I hq
  | ok fl =>
    cases fl with
    | ret w =>
      obtain ⟨z, H', I', rz, q⟩ := I.after hq
      exact ⟨z, H', I', rz, q⟩
    | next => exact False.elim hq
    | brk => exact False.elim hq
    | cont => exact False.elim hq
/-- what a text of an own object asks: the def tells a text -/
def tOwn (C : Addr) (sp : Sp) (E : XK) : V → Hp → VK → Prop := fun x H Q => ∃ a dx fs, x = .ref a ∧ H a = some (.ins C dx fs) ∧ sp [.ref a] H (fun v H' => ∃ z : Str, v = .str z ∧ Q (.str z) H') E
theorem bnil {K : PySem.W.Frag} {fd : FuncData} {ps : List Str} {ds : List Value} (v : Vals [] ds) (b : Binds K fd ps ds) : Binds K fd ps [] := by
  cases v
  exact b
end
/-! ### the text of a number, of a Measure -/
end My
namespace My
open PySem PySem.Spec PyProof.Rows L2
/-! ### Stretches alike -/
def optEq : Option Q2 → Option Q2 → Bool
  | none, none => true
  | some a, some b => eqq a b
  | _, _ => false
theorem optEq_self (a : Option Q2) : optEq a a = true := by
  cases a with
  | none => rfl
  | some a => exact eqq_self a
theorem eqq_comm' (a b : Q2) : eqq a b = eqq b a := by
  unfold eqq
  exact decide_eq_decide.mpr eq_comm
theorem optEq_comm (a b : Option Q2) : optEq a b = optEq b a := by
  cases a with
  | none => cases b <;> rfl
  | some a =>
    cases b with
    | none => rfl
    | some b => exact eqq_comm' a b
def eqS (lo hi : Option Q2) (li hj : Bool) (lo' hi' : Option Q2) (li' hj' : Bool) : Bool := optEq lo lo' && (optEq hi hi' && (decide (V.bl li = V.bl li') && decide (V.bl hj = V.bl hj')))
theorem eqS_self (lo hi : Option Q2) (li hj : Bool) : eqS lo hi li hj lo hi li hj = true := by
  unfold eqS
  rw [optEq_self, optEq_self, decide_eq_true rfl, decide_eq_true rfl]
  rfl
theorem eqS_comm (lo hi : Option Q2) (li hj : Bool) (lo' hi' : Option Q2) (li' hj' : Bool) : eqS lo hi li hj lo' hi' li' hj' = eqS lo' hi' li' hj' lo hi li hj := by
  unfold eqS
  rw [optEq_comm lo, optEq_comm hi, decide_eq_decide.mpr (eq_comm (a := V.bl li)), decide_eq_decide.mpr (eq_comm (a := V.bl hj))]
section
variable {K : PySem.W.Frag} {CM CS p : Addr} {H : Hp}
def REqS (K : PySem.W.Frag) (CM CS : Addr) : Eqb := fun x y H b => ∃ p lo hi li hj, x = .ref p ∧ StAt CM CS H p lo hi li hj ∧ ((∃ q lo' hi' li' hj', y = .ref q ∧ StAt CM CS H q lo' hi' li' hj' ∧ b = eqS lo hi li hj lo' hi' li' hj') ∨
  ∃ tv, TyX K H y tv ∧ PySem.W.kitOne K tv (.ref CS) = some false ∧ b = false)
inductive LikeS (CM CS : Addr) (H : Hp) (p : Addr) : V → Bool → Prop where
  | st {q : Addr} {lo hi lo' hi' : Option Q2} {li hj li' hj' : Bool} (a : StAt CM CS H p lo hi li hj) (b : StAt CM CS H q lo' hi' li' hj') : LikeS CM CS H p (.ref q) (eqS lo hi li hj lo' hi' li' hj')
  | kd {y : V} {T : String} {lo hi : Option Q2} {li hj : Bool} (a : StAt CM CS H p lo hi li hj) (b : Bk H y T) : LikeS CM CS H p y false
  | ms {q : Addr} {t u : Int} {lo hi : Option Q2} {li hj : Bool} (a : StAt CM CS H p lo hi li hj) (b : MAt CM H q t u) : LikeS CM CS H p (.ref q) false
theorem LikeS.same {H' : Hp} {y : V} {b : Bool} (h : LikeS CM CS H p y b) (s : Same H H') : LikeS CM CS H' p y b := by
  cases h with
  | st a b => exact .st (a.same s) (b.same s)
  | kd a k => exact .kd (a.same s) (k.same s)
  | ms a m => exact .ms (a.same s) (m.same s)
theorem MsV.uniq {v : V} {e f : Option Q2} (a : MsV CM H v e) (b : MsV CM H v f) : e = f := by
  cases e with
  | none =>
    cases a
    cases f with
    | none => rfl
    | some y => obtain ⟨q, z, _⟩ := b; exact nomatch z
  | some x =>
    obtain ⟨p, rfl, hp⟩ := a
    cases f with
    | none => exact nomatch (show V.ref p = V.non from b)
    | some y =>
      obtain ⟨q, z, hq⟩ := b
      cases z
      obtain ⟨h1, h2⟩ := hp.uniq hq
      rw [show x = (x.1, x.2) from rfl, show y = (y.1, y.2) from rfl, h1, h2]
theorem sf_inj {l h l' h' : V} {i j i' j' : Bool} (e : sf l h i j = sf l' h' i' j') : l = l' ∧ h = h' ∧ i = i' ∧ j = j' := by
  have g : ∀ m : Str, (sf l h i j).lookup m = (sf l' h' i' j').lookup m := fun m => by rw [e]
  have g1 := g "low"
  have g2 := g "high"
  have g3 := g "low_in"
  have g4 := g "high_in"
  rw [sf_low, sf_low] at g1
  rw [sf_high, sf_high] at g2
  rw [sf_low_in, sf_low_in] at g3
  rw [sf_high_in, sf_high_in] at g4
  exact ⟨Option.some.inj g1, Option.some.inj g2, V.bl.inj (Option.some.inj g3), V.bl.inj (Option.some.inj g4)⟩
theorem StAt.uniq {lo hi lo' hi' : Option Q2} {li hj li' hj' : Bool} (a : StAt CM CS H p lo hi li hj) (b : StAt CM CS H p lo' hi' li' hj') : lo = lo' ∧ hi = hi' ∧ li = li' ∧ hj = hj' := by
  obtain ⟨⟨d, l, h, h1, h2, h3⟩, _⟩ := a
  obtain ⟨⟨d', l', h', k1, k2, k3⟩, _⟩ := b
  rw [h1] at k1
  have e := HO.ins.inj (Option.some.inj k1)
  obtain ⟨rfl, rfl, rfl, rfl⟩ := sf_inj e.2.2
  exact ⟨h2.uniq k2, h3.uniq k3, rfl, rfl⟩
theorem st_notM {q : Addr} {lo hi : Option Q2} {li hj : Bool} {t u : Int} (a : StAt CM CS H p lo hi li hj) (m : MAt CM H p t u) : False := by
  obtain ⟨⟨d, l, hh, h1, _⟩, _⟩ := a
  obtain ⟨dm, hm⟩ := m
  rw [h1] at hm
  have e := (HO.ins.inj (Option.some.inj hm)).2.2
  have e2 := congrArg (fun fs : List (Str × V) => fs.lookup ("top" : Str)) e
  have e3 : (sf l hh li hj).lookup ("top" : Str) = none := sf_no _ _ _ _ (by decide +kernel) (by decide +kernel) (by decide +kernel) (by decide +kernel)
  have e4 := mf_top t u
  rw [show (sf l hh li hj).lookup ("top" : Str) = (mf t u).lookup ("top" : Str) from e2, e4] at e3
  cases e3
/-- what is asked of the two classes -/
structure Two (K : PySem.W.Frag) (CM CS : Addr) : Prop where
  clM : Cls K CM
  iiM : IsC K CM
  ecM : EqC K CM
  clS : Cls K CS
  iiS : IsC K CS
  ecS : EqC K CS
  nMS : PySem.W.notFirst K CM (.ref CS) = true
  nSM : PySem.W.notFirst K CS (.ref CM) = true
  kMS : PySem.W.kitOne K (.ref CM) (.ref CS) = some false
  kSM : PySem.W.kitOne K (.ref CS) (.ref CM) = some false
def DAllS (K : PySem.W.Frag) (CM CS : Addr) : Eqb := DOr (DOr (DOwn K CS (REqS K CM CS)) (DRef CS (REqS K CM CS))) (DOwn K CM (REq K CM))
theorem LikeS.fwd {y : V} {b : Bool} (T : Two K CM CS) (h : LikeS CM CS H p y b) : DOwn K CS (REqS K CM CS) (.ref p) y H b := by
  cases h with
  | @st q lo hi lo' hi' li hj li' hj' a b =>
    obtain ⟨⟨d, l, hh, h1, _⟩, _⟩ := _root_.id a
    obtain ⟨⟨d', l', hh', k1, _⟩, _⟩ := _root_.id b
    refine ⟨p, d, _, _, rfl, h1, tyM k1 T.clS T.iiS, nf_self, fun e => ?_, p, lo, hi, li, hj, rfl, a, .inl ⟨q, lo', hi', li', hj', rfl, b, rfl⟩⟩
    cases e
    obtain ⟨rfl, rfl, rfl, rfl⟩ := a.uniq b
    exact eqS_self _ _ _ _
  | @kd _ Ty lo hi li hj a k =>
    obtain ⟨⟨d, l, hh, h1, _⟩, _⟩ := _root_.id a
    refine ⟨p, d, _, _, rfl, h1, k.ty, T.ecS.nf Ty k.mem, fun e => ?_, p, lo, hi, li, hj, rfl, a, .inr ⟨_, k.ty, T.ecS.kit Ty k.mem, rfl⟩⟩
    subst e
    exact (k.notIns h1).elim
  | @ms q t u lo hi li hj a m =>
    obtain ⟨⟨d, l, hh, h1, _⟩, _⟩ := _root_.id a
    obtain ⟨dm, hm⟩ := _root_.id m
    have ty := tyM hm T.clM T.iiM
    refine ⟨p, d, _, _, rfl, h1, ty, T.nSM, fun e => ?_, p, lo, hi, li, hj, rfl, a, .inr ⟨_, ty, T.kMS, rfl⟩⟩
    cases e
    exact (st_notM (q := p) a m).elim
theorem LikeS.bwd {y : V} {b : Bool} (T : Two K CM CS) (h : LikeS CM CS H p y b) : DAllS K CM CS y (.ref p) H b := by
  cases h with
  | @st q lo hi lo' hi' li hj li' hj' a b =>
    rw [eqS_comm]
    exact .inl (.inl (LikeS.fwd T (.st b a)))
  | @kd _ Ty lo hi li hj a k =>
    obtain ⟨⟨d, l, hh, h1, _⟩, _⟩ := _root_.id a
    refine .inl (.inr ⟨p, d, _, Ty, rfl, h1, k, fun e => ?_, p, lo, hi, li, hj, rfl, a, .inr ⟨_, k.ty, T.ecS.kit Ty k.mem, rfl⟩⟩)
    subst e
    exact (k.notIns h1).elim
  | @ms q t u lo hi li hj a m =>
    obtain ⟨⟨d, l, hh, h1, _⟩, _⟩ := _root_.id a
    obtain ⟨dm, hm⟩ := _root_.id m
    have ty := tyM h1 T.clS T.iiS
    refine .inr ⟨q, dm, _, _, rfl, hm, ty, T.nMS, fun e => ?_, q, t, u, rfl, m, .inr ⟨_, ty, T.kSM, rfl⟩⟩
    cases e
    exact (st_notM (q := p) a m).elim
theorem LikeS.inl {y : V} {b : Bool} (T : Two K CM CS) (h : LikeS CM CS H p y b) : InB (DAllS K CM CS) (.ref p) H [.non, y] b := by
  have go : ∀ {lo hi li hj}, StAt CM CS H p lo hi li hj → DAllS K CM CS .non (.ref p) H false := fun {lo hi li hj} a => LikeS.bwd T (.kd a .non)
  have nn : DAllS K CM CS .non (.ref p) H false := by
    cases h with
    | st a _ => exact go a
    | kd a _ => exact go a
    | ms a _ => exact go a
  refine .inr ⟨nn, ?_⟩
  cases b with
  | true => exact .inl ⟨h.bwd T, rfl⟩
  | false => exact .inr ⟨h.bwd T, rfl⟩
end
/-! ### texts of Stretches -/
/-- the tuple of two ends and two truths -/
def EndsK (k : Nat) (H : Hp) (v : V) (ea eb : Option Q2) (ia ib : Bool) : Prop := ∃ p va vb, v = .ref p ∧ H p = some (.tup [va, vb, .bl ia, .bl ib]) ∧ EndV k H va ea ∧ EndV k H vb eb
theorem EndsK.nl {k : Nat} {H H' : Hp} {v : V} {ea eb : Option Q2} {ia ib : Bool} (a : EndsK k H v ea eb ia ib) (s : Nl H H') : EndsK k H' v ea eb ia ib := by
  obtain ⟨p, va, vb, h0, h1, h2, h3⟩ := a
  exact ⟨p, va, vb, h0, s _ _ h1 rfl, h2.nl s, h3.nl s⟩
theorem EndsK.same {k : Nat} {H H' : Hp} {v : V} {ea eb : Option Q2} {ia ib : Bool} (a : EndsK k H v ea eb ia ib) (s : Same H H') : EndsK k H' v ea eb ia ib := a.nl (Nl.of s)
theorem EndsAt.k {H : Hp} {p : Addr} {ea eb : Option Q2} {ia ib : Bool} (a : EndsAt H p ea eb ia ib) : EndsK 150 H (.ref p) ea eb ia ib := by
  obtain ⟨⟨va, vb, h1, h2, h3⟩, _⟩ := a
  exact ⟨p, va, vb, rfl, h1, h2.mono (by decide), h3.mono (by decide)⟩
end My
namespace My
open PySem PySem.Spec PyProof.Rows L2
/-! ### texts by their signs: partings at the last and the first sign -/
/-! ### x.rpartition(sep) -/
/-! ### a leading sign -/
def sw (c : Nat) : List Nat → Bool
  | [] => false
  | x :: _ => decide (x = c)
/-! ### the words of a measure's text -/
/-! ### the text of a Measure by its signs -/
end My
namespace My
open PySem PySem.Spec PyProof.Rows L2
/-! ### list.count(True) of truths -/
/-! ### Measures as fractions -/
theorem fr_of {t u A B : Int} (hu : 0 < u) (co : Int.gcd t u = 1) (hB : 0 < B) (e : t * B = A * u) : Fr t u A B := by
  have co' : Int.gcd u t = 1 := by rw [Int.gcd_comm]; exact co
  have d2 : u ∣ B := dvd_co (b := t) ⟨A, by rw [e, Int.mul_comm]⟩ co'
  obtain ⟨k, hk⟩ := d2
  have k0 : 0 < k := by
    rcases Int.lt_or_le 0 k with z | z
    · exact z
    · have := Int.mul_nonneg_of_nonpos_of_nonpos (show -u ≤ 0 by omega) z
      have e2 : -u * k = -(u * k) := Int.neg_mul ..
      omega
  have e1 : A = t * k := by
    have : A * u = (t * k) * u := by
      rw [← e, hk]
      simp only [Int.mul_assoc, Int.mul_comm, Int.mul_left_comm]
    exact Int.eq_of_mul_eq_mul_right (by omega) this
  refine ⟨hu, e, co, ?_, ?_⟩
  · rw [e1, Int.natAbs_mul]
    exact Nat.le_mul_of_pos_right _ (by omega)
  · rw [hk, Int.natAbs_mul]
    exact Nat.le_mul_of_pos_right _ (by omega)
def qadd (x y : Q2) : Q2 := (x.1 * y.2 + y.1 * x.2, x.2 * y.2)
def qsub (x y : Q2) : Q2 := (x.1 * y.2 - y.1 * x.2, x.2 * y.2)
def qmul (x y : Q2) : Q2 := (x.1 * y.1, x.2 * y.2)
def qprt (x : Q2) (m : Int) : Q2 := (x.1 * sgn m, x.2 * (m * sgn m))
def qmk (a b : Int) : Q2 := (a * sgn b, b * sgn b)
theorem sgn_pos {m : Int} (h : m ≠ 0) : 0 < m * sgn m := by
  unfold sgn; split
  · omega
  · rw [Int.mul_neg_one]; omega
structure QAt (C : Addr) (H : Hp) (p : Addr) (k : Nat) (x : Q2) : Prop where
  ob : ∃ t u, MAt C H p t u ∧ Fr t u x.1 x.2
  pos : 0 < x.2
  s1 : Sz k x.1
  s2 : Sz k x.2
theorem QAt.same {C p : Addr} {H H' : Hp} {k : Nat} {x : Q2} (h : QAt C H p k x) (s : Same H H') : QAt C H' p k x := by
  obtain ⟨⟨t, u, m, f⟩, h1, h2, h3⟩ := h
  exact ⟨⟨t, u, m.same s, f⟩, h1, h2, h3⟩
theorem QAt.mono {C p : Addr} {H : Hp} {k j : Nat} {x : Q2} (h : QAt C H p k x) (l : k ≤ j) : QAt C H p j x := ⟨h.ob, h.pos, h.s1.mono l, h.s2.mono l⟩
theorem QAt.kp {C p hd : Addr} {H H' : Hp} {n k : Nat} {x : Q2} (h : QAt C H p k x) (hh : HandAt H hd n) (s : Kp hd H H') : QAt C H' p k x := by
  obtain ⟨⟨t, u, m, f⟩, h1, h2, h3⟩ := h
  exact ⟨⟨t, u, m.kp hh s, f⟩, h1, h2, h3⟩
theorem QAt.nl {C p : Addr} {H H' : Hp} {k : Nat} {x : Q2} (h : QAt C H p k x) (s : Nl H H') : QAt C H' p k x := by
  obtain ⟨⟨t, u, ⟨d, m⟩, f⟩, h1, h2, h3⟩ := h
  exact ⟨⟨t, u, ⟨d, s _ _ m rfl⟩, f⟩, h1, h2, h3⟩
section
variable {C p q : Addr} {H : Hp} {Q : VK} {E : XK} {k j : Nat} {x y : Q2}
theorem QAt.raw (h : QAt C H p k x) {m : Str} (h1 : ¬ m = "top") (h2 : ¬ m = "bottom") : ∃ dx fs, H p = some (.ins C dx fs) ∧ fs.lookup m = none := by
  obtain ⟨⟨t, u, ⟨d, m⟩, f⟩, _⟩ := h
  exact ⟨d, _, m, mf_no _ _ h1 h2⟩
theorem q_add (hx : QAt C H p k x) (hy : QAt C H q j y) (l : k + j ≤ 8900) (l0 : 0 < k) (l1 : 0 < j) (f : ∀ (r : Addr) (H' : Hp), Same H H' → QAt C H' r (k + j + 1) (qadd x y) → Q (.ref r) H') :
    sp_bin2 C (fun t u t' u' => t * u' + t' * u) (fun t u t' u' => u * u') [.ref p, .ref q] H Q E := by
  obtain ⟨⟨t, u, m1, f1⟩, px, a1, a2⟩ := hx
  obtain ⟨⟨t', u', m2, f2⟩, py, b1, b2⟩ := hy
  refine ⟨p, q, t, u, t', u', rfl, m1, m2, f1.pos, f2.pos, (a1.le f1.lt).mono (by omega), (a2.le f1.lu).mono (by omega), (b1.le f2.lt).mono (by omega), (b2.le f2.lu).mono (by omega), ((a2.le f1.lu).mul (b2.le f2.lu)).mono (by omega), fun r t2 u2 H' _ s m f3 => ?_⟩
  refine f r H' s ⟨⟨t2, u2, m, fr_of f3.pos f3.co (Int.mul_pos px py) ?_⟩, Int.mul_pos px py, (a1.mul b2).add ((b1.mul a2).mono (by omega)), (a2.mul b2).mono (by omega)⟩
  have e1 := f1.eq
  have e2 := f2.eq
  have e3 := f3.eq
  have z : (t2 * (x.2 * y.2)) * (u * u') = ((x.1 * y.2 + y.1 * x.2) * u2) * (u * u') := by
    have : (t2 * (x.2 * y.2)) * (u * u') = (t2 * (u * u')) * (x.2 * y.2) := by grind
    rw [this, e3]
    have w1 : (t * u' + t' * u) * u2 * (x.2 * y.2) = ((t * x.2) * u' * y.2 + (t' * y.2) * u * x.2) * u2 := by grind
    rw [w1, e1, e2]
    grind
  have pu := Int.mul_pos f1.pos f2.pos
  exact Int.eq_of_mul_eq_mul_right (by omega) z
theorem q_sub (hx : QAt C H p k x) (hy : QAt C H q j y) (l : k + j ≤ 8900) (l0 : 0 < k) (l1 : 0 < j) (f : ∀ (r : Addr) (H' : Hp), Same H H' → QAt C H' r (k + j + 1) (qsub x y) → Q (.ref r) H') :
    sp_bin2 C (fun t u t' u' => t * u' - t' * u) (fun t u t' u' => u * u') [.ref p, .ref q] H Q E := by
  obtain ⟨⟨t, u, m1, f1⟩, px, a1, a2⟩ := hx
  obtain ⟨⟨t', u', m2, f2⟩, py, b1, b2⟩ := hy
  refine ⟨p, q, t, u, t', u', rfl, m1, m2, f1.pos, f2.pos, (a1.le f1.lt).mono (by omega), (a2.le f1.lu).mono (by omega), (b1.le f2.lt).mono (by omega), (b2.le f2.lu).mono (by omega), ((a2.le f1.lu).mul (b2.le f2.lu)).mono (by omega), fun r t2 u2 H' _ s m f3 => ?_⟩
  refine f r H' s ⟨⟨t2, u2, m, fr_of f3.pos f3.co (Int.mul_pos px py) ?_⟩, Int.mul_pos px py, (a1.mul b2).sub ((b1.mul a2).mono (by omega)), (a2.mul b2).mono (by omega)⟩
  have e1 := f1.eq
  have e2 := f2.eq
  have e3 := f3.eq
  have z : (t2 * (x.2 * y.2)) * (u * u') = ((x.1 * y.2 - y.1 * x.2) * u2) * (u * u') := by
    have : (t2 * (x.2 * y.2)) * (u * u') = (t2 * (u * u')) * (x.2 * y.2) := by grind
    rw [this, e3]
    have w1 : (t * u' - t' * u) * u2 * (x.2 * y.2) = ((t * x.2) * u' * y.2 - (t' * y.2) * u * x.2) * u2 := by grind
    rw [w1, e1, e2]
    grind
  have pu := Int.mul_pos f1.pos f2.pos
  exact Int.eq_of_mul_eq_mul_right (by omega) z
theorem q_mul (hx : QAt C H p k x) (hy : QAt C H q j y) (l : k + j ≤ 8900) (l0 : 0 < k) (l1 : 0 < j) (f : ∀ (r : Addr) (H' : Hp), Same H H' → QAt C H' r (k + j + 1) (qmul x y) → Q (.ref r) H') :
    sp_bin2 C (fun t u t' u' => t * t') (fun t u t' u' => u * u') [.ref p, .ref q] H Q E := by
  obtain ⟨⟨t, u, m1, f1⟩, px, a1, a2⟩ := hx
  obtain ⟨⟨t', u', m2, f2⟩, py, b1, b2⟩ := hy
  refine ⟨p, q, t, u, t', u', rfl, m1, m2, f1.pos, f2.pos, (a1.le f1.lt).mono (by omega), (a2.le f1.lu).mono (by omega), (b1.le f2.lt).mono (by omega), (b2.le f2.lu).mono (by omega), ((a2.le f1.lu).mul (b2.le f2.lu)).mono (by omega), fun r t2 u2 H' _ s m f3 => ?_⟩
  refine f r H' s ⟨⟨t2, u2, m, fr_of f3.pos f3.co (Int.mul_pos px py) ?_⟩, Int.mul_pos px py, (a1.mul b1).mono (by omega), (a2.mul b2).mono (by omega)⟩
  have e1 := f1.eq
  have e2 := f2.eq
  have e3 := f3.eq
  have z : (t2 * (x.2 * y.2)) * (u * u') = ((x.1 * y.1) * u2) * (u * u') := by
    have : (t2 * (x.2 * y.2)) * (u * u') = (t2 * (u * u')) * (x.2 * y.2) := by grind
    rw [this, e3]
    have w1 : (t * t') * u2 * (x.2 * y.2) = (t * x.2) * (t' * y.2) * u2 := by grind
    rw [w1, e1, e2]
    grind
  have pu := Int.mul_pos f1.pos f2.pos
  exact Int.eq_of_mul_eq_mul_right (by omega) z
theorem q_prt {m : Int} (hx : QAt C H p k x) (hm : m ≠ 0) (sm : Sz j m) (l : k + j ≤ 8900) (l0 : 0 < k) (l1 : 0 < j) (f : ∀ (r : Addr) (H' : Hp), Same H H' → QAt C H' r (k + j + 1) (qprt x m) → Q (.ref r) H') :
    sp_part2 C [.ref p, .int m] H Q E := by
  obtain ⟨⟨t, u, m1, f1⟩, px, a1, a2⟩ := hx
  have pm := sgn_pos hm
  have sgnN : (sgn m).natAbs = 1 := by rcases sgn_cases m with e | e <;> rw [e] <;> rfl
  refine ⟨p, t, u, m, rfl, m1, f1.pos, hm, (a1.le f1.lt).mono (by omega), (a2.le f1.lu).mono (by omega), sm.mono (by omega), ((a2.le f1.lu).mul sm).mono (by omega), fun r t2 u2 H' _ s mm f3 => ?_⟩
  have z1 : Sz (k + j + 1) (x.1 * sgn m) := (a1.le (y := x.1 * sgn m) (by rw [Int.natAbs_mul, sgnN, Nat.mul_one]; exact Nat.le_refl _)).mono (by omega)
  have z2 : Sz j (m * sgn m) := sm.le (by rw [Int.natAbs_mul, sgnN, Nat.mul_one]; exact Nat.le_refl _)
  refine f r H' s ⟨⟨t2, u2, mm, fr_of f3.pos f3.co (Int.mul_pos px pm) ?_⟩, Int.mul_pos px pm, z1, (a2.mul z2).mono (by omega)⟩
  have e1 := f1.eq
  have e3 := f3.eq
  have hu := f1.pos
  have z : (t2 * (x.2 * (m * sgn m))) * u = ((x.1 * sgn m) * u2) * u := by
    have w0 : (t2 * (x.2 * (m * sgn m))) * u = (t2 * (u * m)) * x.2 * sgn m := by grind
    rw [w0, e3]
    have w1 : t * u2 * x.2 * sgn m = (t * x.2) * u2 * sgn m := by grind
    rw [w1, e1]
    grind
  exact Int.eq_of_mul_eq_mul_right (by omega) z
theorem q_mk {a b t u : Int} {H' : Hp} (m : MAt C H' p t u) (f : Fr t u a b) (hb : b ≠ 0) (sa : Sz k a) (sb : Sz k b) : QAt C H' p k (qmk a b) := by
  have pm := sgn_pos hb
  have sgnN : (sgn b).natAbs = 1 := by rcases sgn_cases b with e | e <;> rw [e] <;> rfl
  refine ⟨⟨t, u, m, fr_of f.pos f.co pm ?_⟩, pm, sa.le (by show (a * sgn b).natAbs ≤ _; rw [Int.natAbs_mul, sgnN, Nat.mul_one]; exact Nat.le_refl _), sb.le (by show (b * sgn b).natAbs ≤ _; rw [Int.natAbs_mul, sgnN, Nat.mul_one]; exact Nat.le_refl _)⟩
  show t * (b * sgn b) = a * sgn b * u
  have e := f.eq
  have : t * (b * sgn b) = (t * b) * sgn b := by grind
  rw [this, e]
  grind
theorem q_below {al : Bool} (hx : QAt C H p k x) (hy : QAt C H q j y) (l : k ≤ 9000) (l1 : j ≤ 9000) (f : Q (.bl (ltq x y || (al && eqq x y))) H) : sp_below C [.ref p, .ref q, .bl al] H Q E := by
  obtain ⟨⟨t, u, m1, f1⟩, px, a1, a2⟩ := hx
  obtain ⟨⟨t', u', m2, f2⟩, py, b1, b2⟩ := hy
  refine ⟨p, q, t, u, t', u', al, rfl, m1, m2, (a1.le f1.lt).mono l, (a2.le f1.lu).mono l, (b1.le f2.lt).mono l1, (b2.le f2.lu).mono l1, ?_⟩
  have r1 : Re (t, u) x := ⟨f1.pos, px, f1.eq⟩
  have r2 : Re (t', u') y := ⟨f2.pos, py, f2.eq⟩
  have e : lessA t u t' u' al = (ltq x y || (al && eqq x y)) := by
    rw [← ltq_congr r1 r2, ← eqq_congr r1 r2]
    rfl
  rw [e]
  exact f
end
/-! the same, behind the arguments -/
section
variable {C p q : Addr} {H : Hp} {Q : VK} {E : XK} {k j : Nat} {x y : Q2} {σ : L2.St}
theorem q_addT (hx : QAt C H p k x) (hy : QAt C H q j y) (l : k + j ≤ 8900) (l0 : 0 < k) (l1 : 0 < j) (f : ∀ (r : Addr) (H' : Hp), Same H H' → QAt C H' r (k + j + 1) (qadd x y) → Q (.ref r) H') :
    tNil σ H (fun xs H2 => sp_bin2 C (fun t u t' u' => t * u' + t' * u) (fun t u t' u' => u * u') (.ref p :: ((.ref q :: xs) ++ [])) H2 Q E) := q_add (E := E) hx hy l l0 l1 f
theorem q_subT (hx : QAt C H p k x) (hy : QAt C H q j y) (l : k + j ≤ 8900) (l0 : 0 < k) (l1 : 0 < j) (f : ∀ (r : Addr) (H' : Hp), Same H H' → QAt C H' r (k + j + 1) (qsub x y) → Q (.ref r) H') :
    tNil σ H (fun xs H2 => sp_bin2 C (fun t u t' u' => t * u' - t' * u) (fun t u t' u' => u * u') (.ref p :: ((.ref q :: xs) ++ [])) H2 Q E) := q_sub (E := E) hx hy l l0 l1 f
theorem q_mulT (hx : QAt C H p k x) (hy : QAt C H q j y) (l : k + j ≤ 8900) (l0 : 0 < k) (l1 : 0 < j) (f : ∀ (r : Addr) (H' : Hp), Same H H' → QAt C H' r (k + j + 1) (qmul x y) → Q (.ref r) H') :
    tNil σ H (fun xs H2 => sp_bin2 C (fun t u t' u' => t * t') (fun t u t' u' => u * u') (.ref p :: ((.ref q :: xs) ++ [])) H2 Q E) := q_mul (E := E) hx hy l l0 l1 f
theorem q_prt2T (hx : QAt C H p k x) (l : k + 10 ≤ 8900) (l0 : 0 < k) (f : ∀ (r : Addr) (H' : Hp), Same H H' → QAt C H' r (k + 10 + 1) (qprt x 2) → Q (.ref r) H') :
    tNil σ H (fun xs H2 => sp_part2 C (.ref p :: (xs ++ [.int 2])) H2 Q E) := q_prt (E := E) (j := 10) hx (by decide) (by decide) l l0 (by decide) f
theorem q_belowT (hx : QAt C H p k x) (hy : QAt C H q j y) (l : k ≤ 9000) (l1 : j ≤ 9000) (f : Q (.bl (ltq x y)) H) :
    tNil σ H (fun xs H2 => sp_below C (.ref p :: ((.ref q :: xs) ++ [.bl false])) H2 Q E) := q_below (E := E) (al := false) hx hy l l1 (by rw [Bool.false_and, Bool.or_false]; exact f)
theorem q_belowA (hx : QAt C H p k x) (hy : QAt C H q j y) (l : k ≤ 9000) (l1 : j ≤ 9000) (f : Q (.bl (ltq x y || eqq x y)) H) :
    tCons (tC (.bl true)) tNil σ H (fun xs H2 => sp_below C (.ref p :: ((.ref q :: xs) ++ [])) H2 Q E) := q_below (E := E) (al := true) hx hy l l1 (by rw [Bool.true_and]; exact f)
end
/-! ### sums keep the order; the midst lies between -/
def qhalf (x y : Q2) : Q2 := qprt (qadd x y) 2
theorem qhalf_eq (x y : Q2) : qhalf x y = (x.1 * y.2 + y.1 * x.2, x.2 * y.2 * 2) := by
  unfold qhalf qprt qadd
  have : sgn 2 = 1 := by decide
  rw [this, Int.mul_one, Int.mul_one]
theorem half_lo {x y : Q2} (hx : 0 < x.2) (hy : 0 < y.2) : ltq x (qhalf x y) = ltq x y ∧ ltq (qhalf x y) y = ltq x y ∧ eqq (qhalf x y) x = eqq x y ∧ eqq x (qhalf x y) = eqq x y := by
  rw [qhalf_eq]
  unfold ltq eqq
  have e1 : x.1 * (x.2 * y.2 * 2) = (2 * (x.1 * y.2)) * x.2 := by grind
  have e2 : (x.1 * y.2 + y.1 * x.2) * x.2 = (x.1 * y.2 + y.1 * x.2) * x.2 := rfl
  have e3 : y.1 * (x.2 * y.2 * 2) = (2 * (y.1 * x.2)) * y.2 := by grind
  refine ⟨decide_eq_decide.mpr ?_, decide_eq_decide.mpr ?_, decide_eq_decide.mpr ?_, decide_eq_decide.mpr ?_⟩
  · show x.1 * (x.2 * y.2 * 2) < (x.1 * y.2 + y.1 * x.2) * x.2 ↔ _
    rw [e1]
    exact ⟨fun h => by have := Int.lt_of_mul_lt_mul_right h (Int.le_of_lt hx); omega, fun h => Int.mul_lt_mul_of_pos_right (by omega) hx⟩
  · show (x.1 * y.2 + y.1 * x.2) * y.2 < y.1 * (x.2 * y.2 * 2) ↔ _
    rw [e3]
    exact ⟨fun h => by have := Int.lt_of_mul_lt_mul_right h (Int.le_of_lt hy); omega, fun h => Int.mul_lt_mul_of_pos_right (by omega) hy⟩
  · show (x.1 * y.2 + y.1 * x.2) * x.2 = x.1 * (x.2 * y.2 * 2) ↔ _
    rw [e1]
    exact ⟨fun h => by have := Int.eq_of_mul_eq_mul_right (by omega) h; omega, fun h => by rw [h]; grind⟩
  · show x.1 * (x.2 * y.2 * 2) = (x.1 * y.2 + y.1 * x.2) * x.2 ↔ _
    rw [e1]
    exact ⟨fun h => by have := Int.eq_of_mul_eq_mul_right (by omega) h; omega, fun h => by rw [h]; grind⟩
/-! ### numbers of at most twelve figures -/
/-! ### constants by their signs -/
/-! ### a comprehension over a text -/
end My
namespace My
open PySem PySem.Spec PyProof.Rows L2
/-! ### comprehensions over anything that is walked -/
section
variable {J : It} {n : Nat} {G : Hp → Prop} {Y : Nat → Hp → V → Hp → Prop} {g : TG} {tt : TT} {te : TE} {vs : List Nat} {σ : L2.St} {H1 : Hp} {D : Addr} {Qd : Hp → Prop}
/-- the elements are known: z some y is told, z none is left out -/
theorem lcz (w : Walk J n G Y) (hGs : ∀ H H', G H → Same H H' → G H') (zs : List (Option V)) (hlen : zs.length = n) (hz : n < sizeLine) (hG : G H1) (hD : H1 D = none)
    (hs : ∀ (i : Nat) (x : V) (H H' : Hp) (z : Option V) (N : VK) (M : Hp → Prop), i < n → zs[i]? = some z → Same H1 H → Y i H x H' → (∀ y H4, z = some y → Same H H4 → N y H4) → (∀ H4, z = none → Same H H4 → M H4) →
      g x (wipe σ vs) H' fun σ2 H2 => wipe σ2 vs = wipe σ vs ∧ tt σ2 H2 fun b H3 => if b = true then te σ2 H3 N else M H3)
    (hd : ∀ H, Same H1 H → H D = some (.lst (zs.filterMap _root_.id)) → Qd H) :
    ∃ W : Nat → Nat → Hp → Prop, (∃ m, W 0 m (upd H1 D (.lst []))) ∧ ∀ i m H, W i m H →
      (J.stop i H ∧ Qd H) ∨ (J.go i H ∧ ∃ Nx : Hp → Prop, (∀ H', Nx H' → ∃ m', m' < m ∧ W (i + 1) m' H') ∧ ∀ x H', J.yld i H x H' → g x (wipe σ vs) H' fun σ2 H2 => wipe σ2 vs = wipe σ vs ∧ tt σ2 H2 fun b H3 =>
        if b = true then te σ2 H3 fun y H4 => ∃ acc, H4 D = some (.lst acc) ∧ acc.length < sizeLine ∧ Nx (upd H4 D (.lst (acc ++ [y]))) else Nx H3) := by
  refine lc_it w (fun i H => Same H1 H ∧ H D = some (.lst ((zs.take i).filterMap _root_.id))) ⟨same1 hD, upd_same⟩ (fun i H _ p => hGs _ _ hG p.1) (fun i x H H' hi p y => ?_) (fun H p => hd H p.1 ?_)
  · have hi2 : i < zs.length := by omega
    have tk : ∀ z, zs[i]? = some z → (zs.take (i + 1)).filterMap _root_.id = (zs.take i).filterMap _root_.id ++ z.toList := fun z e => by
      rw [List.take_add_one, e, List.filterMap_append]
      cases z <;> rfl
    have ez : zs[i]? = some zs[i] := List.getElem?_eq_getElem hi2
    refine hs i x H H' zs[i] _ _ hi ez p.1 y (fun v H4 e s4 => ⟨_, s4 _ _ p.2, ?_, ?_, ?_⟩) (fun H4 e s4 => ⟨p.1.trans s4, ?_⟩)
    · refine Nat.lt_of_le_of_lt (List.length_filterMap_le _ _) ?_
      rw [List.length_take]; omega
    · intro c o ec
      rw [upd_ne (ne_of_none ec hD)]
      exact s4 _ _ (p.1 _ _ ec)
    · rw [upd_same, tk _ ez, e]
      rfl
    · rw [tk _ ez, e, Option.toList_none, List.append_nil]
      exact s4 _ _ p.2
  · have e := p.2
    rw [← hlen, List.take_length] at e
    exact e
/-- the elements are told by what holds of them -/
theorem lcr (w : Walk J n G Y) (hGs : ∀ H H', G H → Same H H' → G H') (R : Nat → Hp → V → Prop) (hR : ∀ i H H' y, R i H y → Nl H H' → R i H' y) (hz : n < sizeLine) (hG : G H1) (hD : H1 D = none)
    (hs : ∀ (i : Nat) (x : V) (H H' : Hp) (N : VK) (M : Hp → Prop), i < n → Same H1 H → Y i H x H' → (∀ y H4, Same H H4 → R i H4 y → N y H4) →
      g x (wipe σ vs) H' fun σ2 H2 => wipe σ2 vs = wipe σ vs ∧ tt σ2 H2 fun b H3 => if b = true then te σ2 H3 N else M H3)
    (hd : ∀ H ys, Same H1 H → H D = some (.lst ys) → ys.length = n → (∀ i y, ys[i]? = some y → R i H y) → Qd H) :
    ∃ W : Nat → Nat → Hp → Prop, (∃ m, W 0 m (upd H1 D (.lst []))) ∧ ∀ i m H, W i m H →
      (J.stop i H ∧ Qd H) ∨ (J.go i H ∧ ∃ Nx : Hp → Prop, (∀ H', Nx H' → ∃ m', m' < m ∧ W (i + 1) m' H') ∧ ∀ x H', J.yld i H x H' → g x (wipe σ vs) H' fun σ2 H2 => wipe σ2 vs = wipe σ vs ∧ tt σ2 H2 fun b H3 =>
        if b = true then te σ2 H3 fun y H4 => ∃ acc, H4 D = some (.lst acc) ∧ acc.length < sizeLine ∧ Nx (upd H4 D (.lst (acc ++ [y]))) else Nx H3) := by
  refine lc_it w (fun i H => Same H1 H ∧ ∃ ys, H D = some (.lst ys) ∧ ys.length = i ∧ ∀ j y, ys[j]? = some y → R j H y) ⟨same1 hD, [], upd_same, rfl, fun j y hy => by simp at hy⟩ (fun i H _ p => hGs _ _ hG p.1) (fun i x H H' hi p y => ?_) (fun H p => ?_)
  · obtain ⟨s1, ys, h1, h2, h3⟩ := p
    refine hs i x H H' _ _ hi s1 y (fun v H4 s4 r4 => ⟨ys, s4 _ _ h1, by omega, ?_, ys ++ [v], upd_same, by rw [List.length_append, h2]; rfl, ?_⟩)
    · intro c o ec
      rw [upd_ne (ne_of_none ec hD)]
      exact s4 _ _ (s1 _ _ ec)
    · intro j z hj
      have n4 : Nl H4 (upd H4 D (.lst (ys ++ [v]))) := Nl.put (s4 _ _ h1)
      by_cases hlt : j < ys.length
      · rw [List.getElem?_append_left hlt] at hj
        exact hR _ _ _ _ (hR _ _ _ _ (h3 j z hj) (Nl.of s4)) n4
      · have hj2 : j = ys.length := by
          have := (List.getElem?_eq_some_iff.mp hj).1
          rw [List.length_append, List.length_singleton] at this
          omega
        subst hj2
        rw [List.getElem?_append_right (Nat.le_refl _), Nat.sub_self] at hj
        cases hj
        rw [h2]
        exact hR _ _ _ _ r4 n4
  · obtain ⟨s1, ys, h1, h2, h3⟩ := p
    exact hd H ys s1 h1 h2 h3
end
/-! ### several Measures -/
/-- the values ps are Measures of the fractions zs -/
structure Mks (C : Addr) (H : Hp) (k : Nat) (ps : List V) (zs : List Q2) : Prop where
  len : ps.length = zs.length
  all : ∀ (i : Nat) (v : V) (z : Q2), ps[i]? = some v → zs[i]? = some z → ∃ p, v = V.ref p ∧ QAt C H p k z
section
variable {C : Addr} {H H' : Hp} {k : Nat} {ps : List V} {zs : List Q2} {v : V}
theorem Mks.same (m : Mks C H k ps zs) (s : Same H H') : Mks C H' k ps zs := ⟨m.len, fun i v z h1 h2 => by
  obtain ⟨p, e, q⟩ := m.all i v z h1 h2
  exact ⟨p, e, q.same s⟩⟩
theorem Mks.kp {hd : Addr} {n : Nat} (m : Mks C H k ps zs) (hh : HandAt H hd n) (s : Kp hd H H') : Mks C H' k ps zs := ⟨m.len, fun i v z h1 h2 => by
  obtain ⟨p, e, q⟩ := m.all i v z h1 h2
  exact ⟨p, e, q.kp hh s⟩⟩
theorem Mks.at (m : Mks C H k ps zs) {i : Nat} {z : Q2} (h : zs[i]? = some z) : ∃ p, ps[i]? = some (.ref p) ∧ QAt C H p k z := by
  have hi : i < ps.length := by rw [m.len]; exact (List.getElem?_eq_some_iff.mp h).1
  obtain ⟨p, e, q⟩ := m.all i _ z (List.getElem?_eq_getElem hi) h
  exact ⟨p, by rw [List.getElem?_eq_getElem hi, e], q⟩
theorem Mks.of (m : Mks C H k ps zs) {i : Nat} {v : V} (h : ps[i]? = some v) : ∃ p z, v = .ref p ∧ zs[i]? = some z ∧ QAt C H p k z := by
  have hi : i < zs.length := by rw [← m.len]; exact (List.getElem?_eq_some_iff.mp h).1
  obtain ⟨p, e, q⟩ := m.all i v _ h (List.getElem?_eq_getElem hi)
  exact ⟨p, _, e, List.getElem?_eq_getElem hi, q⟩
/-- None, or a Measure -/
def QO (C : Addr) (H : Hp) (k : Nat) (v : V) : Option Q2 → Prop
  | none => v = .non
  | some z => ∃ p, v = .ref p ∧ QAt C H p k z
theorem QO.same : ∀ {e : Option Q2}, QO C H k v e → Same H H' → QO C H' k v e
  | none, h, _ => h
  | some _, ⟨p, h1, h2⟩, s => ⟨p, h1, h2.same s⟩
theorem QO.kp {hd : Addr} {n : Nat} : ∀ {e : Option Q2}, QO C H k v e → HandAt H hd n → Kp hd H H' → QO C H' k v e
  | none, h, _, _ => h
  | some _, ⟨p, h1, h2⟩, hh, s => ⟨p, h1, h2.kp hh s⟩
/-- the exact numbers of such a Measure -/
theorem QAt.low {p : Addr} {z : Q2} (q : QAt C H p k z) (l : k ≤ 4000) : ∃ a : Q2, MAt C H p a.1 a.2 ∧ Low a ∧ Re a z := by
  obtain ⟨⟨t, u, m, f⟩, h1, h2, h3⟩ := q
  exact ⟨(t, u), m, ⟨f.pos, f.co, (h2.le f.lt).mono l, (h3.le f.lu).mono l⟩, f.pos, h1, f.eq⟩
theorem QO.low (l : k ≤ 4000) : ∀ {e : Option Q2}, QO C H k v e → ∃ m, MsV C H v m ∧ LowO m ∧ ReO m e
  | none, h => ⟨none, h, trivial, trivial⟩
  | some _, ⟨p, h1, h2⟩ => by
    obtain ⟨a, ma, la, ra⟩ := h2.low l
    exact ⟨some a, ⟨p, h1, ma⟩, la, ra⟩
theorem QAt.of {p : Addr} {a z : Q2} (m : MAt C H p a.1 a.2) (l : Low a) (r : Re a z) (s1 : Sz k z.1) (s2 : Sz k z.2) : QAt C H p k z :=
  ⟨⟨a.1, a.2, m, fr_of l.pos l.co r.2.1 r.2.2⟩, r.2.1, s1, s2⟩
end
/-! ### a Ladder -/
def lf (T : V) (r : Str) (l h : V) : List (Str × V) := [("marks", T), ("rule", .str r), ("least", l), ("most", h)]
theorem lf_put (T : V) (r : Str) (l h : V) : putF "most" h (putF "least" l (putF "rule" (.str r) (putF "marks" T []))) = lf T r l h := by
  have e1 : putF ("rule" : Str) (.str r) (putF ("marks" : Str) T []) = ([("marks", T), ("rule", .str r)] : List (Str × V)) := by
    show (if ("marks" : Str) = "rule" then [(("marks" : Str), V.str r)] else (("marks" : Str), T) :: putF "rule" (.str r) []) = _
    rw [if_neg (by decide +kernel)] <;> rfl
  have e2 : putF ("least" : Str) l [("marks", T), ("rule", .str r)] = ([("marks", T), ("rule", .str r), ("least", l)] : List (Str × V)) := by
    show (if ("marks" : Str) = "least" then _ else (("marks" : Str), T) :: (if ("rule" : Str) = "least" then _ else (("rule" : Str), V.str r) :: putF "least" l [])) = _
    rw [if_neg (by decide +kernel), if_neg (by decide +kernel)] <;> rfl
  have e3 : putF ("most" : Str) h [("marks", T), ("rule", .str r), ("least", l)] = lf T r l h := by
    show (if ("marks" : Str) = "most" then _ else (("marks" : Str), T) :: (if ("rule" : Str) = "most" then _ else (("rule" : Str), V.str r) :: (if ("least" : Str) = "most" then _ else (("least" : Str), l) :: putF "most" h []))) = _
    rw [if_neg (by decide +kernel), if_neg (by decide +kernel), if_neg (by decide +kernel)] <;> rfl
  rw [e1, e2, e3]
section
variable (T : V) (r : Str) (l h : V)
theorem lf_marks : (lf T r l h).lookup ("marks" : Str) = some T := by
  rw [← lf_put, lookup_putF, if_neg (by decide +kernel), lookup_putF, if_neg (by decide +kernel), lookup_putF, if_neg (by decide +kernel), lookup_putF, if_pos rfl]
theorem lf_rule : (lf T r l h).lookup ("rule" : Str) = some (.str r) := by
  rw [← lf_put, lookup_putF, if_neg (by decide +kernel), lookup_putF, if_neg (by decide +kernel), lookup_putF, if_pos rfl]
theorem lf_least : (lf T r l h).lookup ("least" : Str) = some l := by
  rw [← lf_put, lookup_putF, if_neg (by decide +kernel), lookup_putF, if_pos rfl]
theorem lf_most : (lf T r l h).lookup ("most" : Str) = some h := by
  rw [← lf_put, lookup_putF, if_pos rfl]
theorem lf_no {m : Str} (h1 : ¬ m = "marks") (h2 : ¬ m = "rule") (h3 : ¬ m = "least") (h4 : ¬ m = "most") : (lf T r l h).lookup m = none := by
  rw [← lf_put, lookup_putF, if_neg h4, lookup_putF, if_neg h3, lookup_putF, if_neg h2, lookup_putF, if_neg h1] <;> rfl
end
/-- rows that rise -/
def RiseQ (zs : List Q2) : Prop := ∀ i a b, zs[i]? = some a → zs[i + 1]? = some b → ltq a b = true
/-- the first row that isn't above the one ahead -/
def SlipQ (zs : List Q2) : Option Nat → Prop
  | none => RiseQ zs
  | some n => 1 ≤ n ∧ n < zs.length ∧ (∀ a b, zs[n - 1]? = some a → zs[n]? = some b → ltq a b = false) ∧ ∀ i a b, i + 1 < n → zs[i]? = some a → zs[i + 1]? = some b → ltq a b = true
def optI : Option Nat → V
  | none => .non
  | some n => .int (n : Int)
def leq (a b : Q2) : Bool := ltq a b || eqq a b
/-- least isn't above most -/
def spanB : Option Q2 → Option Q2 → Bool
  | some a, some b => !ltq b a
  | _, _ => true
def IsRule (r : Str) : Prop := r = "up" ∨ r = "down" ∨ r = "near"
structure LadAt (K : PySem.W.Frag) (CM CL : Addr) (H : Hp) (p : Addr) (k : Nat) (zs : List Q2) (r : Str) (lo hi : Option Q2) : Prop where
  ob : ∃ dx T ps l h, H p = some (.ins CL dx (lf (.ref T) r l h)) ∧ SqT K H T ps ∧ Mks CM H k ps zs ∧ QO CM H k l lo ∧ QO CM H k h hi
  len0 : 0 < zs.length
  len1 : zs.length ≤ 24
  rise : RiseQ zs
  rule : IsRule r
  span : spanB lo hi = true
theorem LadAt.same {K : PySem.W.Frag} {CM CL p : Addr} {H H' : Hp} {k : Nat} {zs : List Q2} {r : Str} {lo hi : Option Q2} (a : LadAt K CM CL H p k zs r lo hi) (s : Same H H') : LadAt K CM CL H' p k zs r lo hi := by
  obtain ⟨⟨dx, T, ps, l, h, h1, h2, h3, h4, h5⟩, a1, a2, a3, a4, a5⟩ := a
  exact ⟨⟨dx, T, ps, l, h, s _ _ h1, s.sqt h2, h3.same s, h4.same s, h5.same s⟩, a1, a2, a3, a4, a5⟩
theorem LadAt.raw {K : PySem.W.Frag} {CM CL p : Addr} {H : Hp} {k : Nat} {zs : List Q2} {r : Str} {lo hi : Option Q2} (a : LadAt K CM CL H p k zs r lo hi) {m : Str} (h1 : ¬ m = "marks") (h2 : ¬ m = "rule") (h3 : ¬ m = "least") (h4 : ¬ m = "most") : ∃ dx fs, H p = some (.ins CL dx fs) ∧ fs.lookup m = none := by
  obtain ⟨⟨dx, T, ps, l, h, e1, _⟩, _⟩ := a
  exact ⟨dx, _, e1, lf_no _ _ _ _ h1 h2 h3 h4⟩
/-- the midsts of neighbours -/
def midq : List Q2 → List Q2
  | a :: b :: r => qhalf a b :: midq (b :: r)
  | _ => []
def sizeR (zs : List Q2) (r : Str) (x : Q2) : Int :=
  if r = "up" then (zs.countP (fun a => ltq a x) : Nat) else if r = "down" then (zs.countP (fun a => leq a x) : Nat) - 1 else ((midq zs).countP (fun a => leq a x) : Nat)
def loOk : Option Q2 → Q2 → Bool
  | none, _ => true
  | some a, x => !ltq x a
def hiOk : Option Q2 → Q2 → Bool
  | none, _ => true
  | some b, x => !ltq b x
def inO (lo hi : Option Q2) (x : Q2) : Bool := loOk lo x && hiOk hi x
def sizeQ (zs : List Q2) (r : Str) (lo hi : Option Q2) (x : Q2) : Option Nat :=
  if inO lo hi x = true then (if 0 ≤ sizeR zs r x ∧ sizeR zs r x < zs.length then some (sizeR zs r x).toNat else none) else none
theorem sizeQ_out {zs : List Q2} {r : Str} {lo hi : Option Q2} {x : Q2} (h : inO lo hi x = false) : none = sizeQ zs r lo hi x := by
  unfold sizeQ
  rw [h]
  rfl
theorem inO_lo {a : Q2} {hi : Option Q2} {x : Q2} (h : ltq x a = true) : inO (some a) hi x = false := by
  show (!ltq x a && hiOk hi x) = false
  rw [h]; rfl
theorem inO_hi {b : Q2} {lo : Option Q2} {x : Q2} (h : ltq b x = true) : inO lo (some b) x = false := by
  show (loOk lo x && !ltq b x) = false
  rw [h]; cases loOk lo x <;> rfl
theorem midq_len : ∀ zs : List Q2, (midq zs).length = zs.length - 1
  | [] => rfl
  | [_] => rfl
  | a :: b :: r => by
    show (midq (b :: r)).length + 1 = _
    rw [midq_len (b :: r)]
    simp
theorem midq_get : ∀ (zs : List Q2) (i : Nat) (a b : Q2), zs[i]? = some a → zs[i + 1]? = some b → (midq zs)[i]? = some (qhalf a b)
  | [], i, a, b, h, _ => by simp at h
  | [x], i, a, b, _, h => by simp at h
  | x :: y :: r, 0, a, b, h1, h2 => by
    cases h1; cases h2; rfl
  | x :: y :: r, i + 1, a, b, h1, h2 => by
    have := midq_get (y :: r) i a b (by simpa using h1) (by simpa using h2)
    simpa [midq] using this
theorem atI_of {xs : List V} {z : Int} {n : Nat} {v : V} (e : z = (n : Int)) (h : xs[n]? = some v) : atI xs z = some v := by
  rw [e]; exact atI_nat h
theorem ge2 {n : Nat} {zs : List Q2} (h : n < zs.length) : ∃ a, zs[n]? = some a := ⟨_, List.getElem?_eq_getElem h⟩
/-- a constant of the module: a tuple of texts -/
def strsOf : List Value → Option (List Str)
  | [] => some []
  | .str x _ :: r => (strsOf r).map (x :: ·)
  | _ => none
theorem strsOf_ok : ∀ {l : List Value} {ss : List Str}, strsOf l = some ss → Vals (ss.map V.str) l
  | [], ss, h => by cases h; exact .nil
  | .str x t :: r, ss, h => by
    cases e : strsOf r with
    | none => simp [strsOf, e] at h
    | some l =>
      simp [strsOf, e] at h
      subst h
      exact .cons ⟨t, rfl⟩ (strsOf_ok e)
def tupB (x : Str) (ss : List Str) : PySem.W.Frag → Bool := fun K => match K.lookup (He.ga K x) with
  | some ⟨.type "tuple", _, .seq its _, _⟩ => decide (its.size ≤ sizeLine) && decide (strsOf its.toList = some ss)
  | _ => false
theorem tup_ok {x : Str} {ss : List Str} {K : PySem.W.Frag} (c : tupB x ss K = true) : ∀ H, SqT K H (He.ga K x) (ss.map V.str) := by
  intro H
  unfold tupB at c
  split at c
  · rename_i d its n sl e
    obtain ⟨c1, c2⟩ := He.ba c
    exact .inr ⟨_, its, n, e, rfl, rfl, of_decide_eq_true c1, strsOf_ok (of_decide_eq_true c2)⟩
  · cases c
theorem tyTup {K : PySem.W.Frag} {H : Hp} {T : Addr} {ps : List V} (h : SqT K H T ps) : TyX K H (.ref T) (.type "tuple") := by
  rcases h with (h | ⟨o, h⟩) | ⟨o, its, n, h, c, _⟩
  · exact .base (.tup h)
  · exact .fTuple h
  · exact .kTuple h c
/-! ### what the defs of ladders promise -/
def sp_slip (K : PySem.W.Frag) (CM : Addr) : Sp := fun vs H Q _ => ∃ (T : Addr) (k : Nat) (ps : List V) (zs : List Q2), vs = [.ref T] ∧ SqT K H T ps ∧ Mks CM H k ps zs ∧ k ≤ 9000 ∧ zs.length ≤ 1000 ∧ ∀ o, SlipQ zs o → Q (optI o) H
def sp_arem (K : PySem.W.Frag) (CM : Addr) : Sp := fun vs H Q _ => ∃ (T : Addr) (k : Nat) (ps : List V) (zs : List Q2), vs = [.ref T] ∧ SqT K H T ps ∧ Mks CM H k ps zs ∧ 0 < zs.length ∧ zs.length ≤ 24 ∧ ∀ H', Same H H' → Q (.bl true) H'
def sp_isrule : Sp := fun vs H Q _ => ∃ r : Str, vs = [.str r] ∧ IsRule r ∧ Q (.bl true) H
def sp_linit (K : PySem.W.Frag) (CM CL : Addr) : Sp := fun vs H Q _ => ∃ (p dx T : Addr) (k : Nat) (ps : List V) (zs : List Q2) (r : Str) (l h : V) (lo hi : Option Q2), vs = [.ref p, .ref T, .str r, l, h] ∧ H p = some (.ins CL dx []) ∧ SqT K H T ps ∧ Mks CM H k ps zs ∧ k ≤ 4000 ∧ 0 < zs.length ∧ zs.length ≤ 24 ∧ RiseQ zs ∧ IsRule r ∧
  QO CM H k l lo ∧ QO CM H k h hi ∧ spanB lo hi = true ∧ ∀ H', H' p = some (.ins CL dx (lf (.ref T) r l h)) → (∀ q o, H q = some o → q ≠ p → H' q = some o) → Q .non H'
def sp_mids (K : PySem.W.Frag) (CM : Addr) : Sp := fun vs H Q _ => ∃ (T : Addr) (k : Nat) (ps : List V) (zs : List Q2), vs = [.ref T] ∧ SqT K H T ps ∧ Mks CM H k ps zs ∧ 0 < k ∧ k ≤ 1000 ∧ 0 < zs.length ∧ zs.length ≤ 24 ∧ ∀ (D : Addr) (ys : List V) (H' : Hp), Same H H' → H' D = some (.lst ys) → Mks CM H' (k + k + 1 + 10 + 1) ys (midq zs) → Q (.ref D) H'
def sp_sizeR (K : PySem.W.Frag) (CM : Addr) : Sp := fun vs H Q _ => ∃ (T q : Addr) (k : Nat) (ps : List V) (zs : List Q2) (r : Str) (x : Q2), vs = [.ref T, .str r, .ref q] ∧ SqT K H T ps ∧ Mks CM H k ps zs ∧ QAt CM H q k x ∧ 0 < k ∧ k ≤ 1000 ∧ 0 < zs.length ∧ zs.length ≤ 24 ∧ ∀ H', Same H H' → Q (.int (sizeR zs r x)) H'
def sp_size (K : PySem.W.Frag) (CM CL : Addr) : Sp := fun vs H Q _ => ∃ (p q : Addr) (k : Nat) (zs : List Q2) (r : Str) (lo hi : Option Q2) (x : Q2), vs = [.ref p, .ref q] ∧ LadAt K CM CL H p k zs r lo hi ∧ QAt CM H q k x ∧ 0 < k ∧ k ≤ 1000 ∧ ∀ H', Same H H' → Q (optI (sizeQ zs r lo hi x)) H'
/-- a Ladder is made -/
theorem lad_made {K : PySem.W.Frag} {CM CL T : Addr} {H : Hp} {Qa : Addr → Hp → Prop} {E : XK} {k : Nat} {ps : List V} {zs : List Q2} {r : Str} {l h : V} {lo hi : Option Q2} (hT : SqT K H T ps) (hm : Mks CM H k ps zs) (hk : k ≤ 4000) (l0 : 0 < zs.length) (l1 : zs.length ≤ 24) (ri : RiseQ zs) (ru : IsRule r)
    (q1 : QO CM H k l lo) (q2 : QO CM H k h hi) (sp : spanB lo hi = true) (f : ∀ (p : Addr) (H' : Hp), H p = none → Same H H' → LadAt K CM CL H' p k zs r lo hi → (∃ dx, H' p = some (.ins CL dx (lf (.ref T) r l h))) → Qa p H') :
    ∀ x dx, H x = none → H dx = none → dx ≠ x → sp_linit K CM CL [.ref x, .ref T, .str r, l, h] (upd (upd H dx (.own x)) x (.ins CL dx [])) (fun v H2 => v = .non ∧ Qa x H2) E := by
  intro x dx nx nd ne
  have s0 : Same H (upd (upd H dx (.own x)) x (.ins CL dx [])) := fun c o e => by
    rw [upd_ne (ne_of_none e nx)]
    exact up1 nd e
  refine ⟨x, dx, T, k, ps, zs, r, l, h, lo, hi, rfl, upd_same, s0.sqt hT, hm.same s0, hk, l0, l1, ri, ru, q1.same s0, q2.same s0, sp, fun H' hx kp => ⟨rfl, ?_⟩⟩
  have s1 : Same H H' := made_same nx nd kp
  exact f x H' nx s1 ⟨⟨dx, T, ps, l, h, hx, s1.sqt hT, hm.same s1, q1.same s1, q2.same s1⟩, l0, l1, ri, ru, sp⟩ ⟨dx, hx⟩
theorem zipF_len {f : Q2 → Bool} : ∀ {ps : List V} {zs : List Q2}, ps.length = zs.length → ((List.zipWith (fun (p : V) (z : Q2) => if f z then some p else none) ps zs).filterMap _root_.id).length = zs.countP f
  | [], [], _ => rfl
  | p :: ps, z :: zs, h => by
    have ih := zipF_len (f := f) (ps := ps) (zs := zs) (by simpa using h)
    rw [List.zipWith_cons_cons, List.countP_cons]
    cases e : f z
    · simpa using ih
    · simpa using ih
  | [], _ :: _, h => by simp at h
  | _ :: _, [], h => by simp at h
theorem zipF_get {f : Q2 → Bool} {ps : List V} {zs : List Q2} {i : Nat} {p : V} {z : Q2} {o : Option V} (h1 : ps[i]? = some p) (h2 : zs[i]? = some z) (h : (List.zipWith (fun (p : V) (z : Q2) => if f z then some p else none) ps zs)[i]? = some o) : o = if f z then some p else none := by
  rw [List.getElem?_zipWith, h1, h2] at h
  exact (Option.some.inj h).symm
theorem iteDT {c A B : Prop} [Decidable c] (hc : c) (h : A) : if decide c = true then A else B := by
  rw [if_pos (decide_eq_true hc)]; exact h
theorem iteDF {c A B : Prop} [Decidable c] (hc : ¬ c) (h : B) : if decide c = true then A else B := by
  rw [if_neg (by simpa using hc)]; exact h
theorem iteNT {c A B : Prop} [Decidable c] (hc : ¬ c) (h : A) : if (!decide c) = true then A else B := by
  rw [if_pos (by simpa using hc)]; exact h
section
variable {C H p k} {m : Str} {R : Prop}
theorem meth_q {x : Q2} (q : QAt C H p k x) (h1 : ¬ m = "top") (h2 : ¬ m = "bottom") (h : R) : ∃ a dx fs, V.ref p = .ref a ∧ H a = some (.ins C dx fs) ∧ fs.lookup m = none ∧ R := by
  obtain ⟨dx, fs, e1, e2⟩ := q.raw h1 h2
  exact ⟨p, dx, fs, rfl, e1, e2, h⟩
theorem meth_l {K : PySem.W.Frag} {CM : Addr} {zs : List Q2} {r : Str} {lo hi : Option Q2} (q : LadAt K CM C H p k zs r lo hi) (h1 : ¬ m = "marks") (h2 : ¬ m = "rule") (h3 : ¬ m = "least") (h4 : ¬ m = "most") (h : R) : ∃ a dx fs, V.ref p = .ref a ∧ H a = some (.ins C dx fs) ∧ fs.lookup m = none ∧ R := by
  obtain ⟨dx, fs, e1, e2⟩ := q.raw h1 h2 h3 h4
  exact ⟨p, dx, fs, rfl, e1, e2, h⟩
theorem meth_s {CM : Addr} {lo hi : Option Q2} {li hj : Bool} (q : StAt CM C H p lo hi li hj) (h1 : ¬ m = "low") (h2 : ¬ m = "high") (h3 : ¬ m = "low_in") (h4 : ¬ m = "high_in") (h : R) : ∃ a dx fs, V.ref p = .ref a ∧ H a = some (.ins C dx fs) ∧ fs.lookup m = none ∧ R := by
  obtain ⟨dx, fs, e1, e2⟩ := q.raw h1 h2 h3 h4
  exact ⟨p, dx, fs, rfl, e1, e2, h⟩
end
end My
namespace K29
open PySem PySem.Spec PyProof.Rows L2 My
/-! ### the text by places -/
def topS (i : Nat) : Stmt := PySem.Challenge.pw_sizeladders_k29_whole_a_measure_in_commo.main.body.getD i (.Pass ⟨0, 0, 0, 0⟩)
abbrev s_is_whole : Stmt := (topS 2)
abbrev s_is_tuple_of : Stmt := (topS 3)
abbrev s_are_wholes : Stmt := (topS 4)
abbrev s_common_part : Stmt := (topS 15)
abbrev s_Measure_init : Stmt := (inClass (topS 17) 0)
abbrev s_Measure_eq : Stmt := (inClass (topS 17) 1)
abbrev s_Measure_plus : Stmt := (inClass (topS 17) 4)
abbrev s_Measure_minus : Stmt := (inClass (topS 17) 5)
abbrev s_Measure_parted : Stmt := (inClass (topS 17) 7)
abbrev s_Measure_is_below : Stmt := (inClass (topS 17) 8)
abbrev s_is_measure_or_none : Stmt := (topS 18)
abbrev s_slip_of : Stmt := (topS 20)
abbrev s_is_empty : Stmt := (topS 22)
abbrev s_cut_low : Stmt := (topS 24)
abbrev s_cut_high : Stmt := (topS 25)
abbrev s_some_measure : Stmt := (topS 26)
abbrev s_Stretch_init : Stmt := (inClass (topS 27) 0)
abbrev s_Stretch_shared : Stmt := (inClass (topS 27) 6)
abbrev s_Stretch_cut : Stmt := (inClass (topS 27) 7)
abbrev s_are_marks : Stmt := (topS 31)
abbrev s_is_rule : Stmt := (topS 32)
abbrev s_is_span : Stmt := (topS 33)
abbrev s_midsts_of : Stmt := (topS 34)
abbrev s_size_by_rule : Stmt := (topS 35)
abbrev s_end_at : Stmt := (topS 36)
abbrev s_stretch_by_rule : Stmt := (topS 37)
abbrev s_has_size : Stmt := (topS 38)
abbrev s_Ladder_init : Stmt := (inClass (topS 40) 0)
abbrev s_Ladder_len : Stmt := (inClass (topS 40) 4)
abbrev s_Ladder_size : Stmt := (inClass (topS 40) 5)
abbrev s_Ladder_stretch : Stmt := (inClass (topS 40) 6)
abbrev s_shared_by : Stmt := (topS 42)
abbrev s_common_measures : Stmt := (topS 43)
abbrev s_led : Stmt := (topS 44)
abbrev s_led_paper : Stmt := (topS 45)
abbrev s_comes_to : Stmt := (topS 46)
abbrev s_is_paper : Stmt := (topS 47)
abbrev s_shows_led : Stmt := (topS 48)
abbrev s_l_begin : Stmt := (topS 50)
abbrev s_l_pick : Stmt := (topS 51)
abbrev s_l_of : Stmt := (topS 52)
abbrev s_l_parts : Stmt := (topS 53)
abbrev s_l_less : Stmt := (topS 54)
abbrev s_l_plus : Stmt := (topS 55)
abbrev s_l_mid : Stmt := (topS 56)
abbrev s_l_drawn : Stmt := (topS 57)
abbrev s_l_made : Stmt := (topS 58)
abbrev s_l_scaled : Stmt := (topS 59)
abbrev s_l_ladders : Stmt := (topS 60)
abbrev s_l_rising : Stmt := (topS 61)
abbrev s_l_points : Stmt := (topS 62)
abbrev s_l_right : Stmt := (topS 63)
abbrev s_law : Stmt := (topS 64)
abbrev N_is_whole : List Str := ["thing"]
abbrev p_is_whole : List Str := ["thing"]
theorem sc_is_whole : FnScope N_is_whole p_is_whole (defScope s_is_whole) := ⟨rfl, rfl, rfl, by decide +kernel, rfl, by decide +kernel, by decide +kernel⟩
abbrev N_is_tuple_of : List Str := ["thing", "many"]
abbrev p_is_tuple_of : List Str := ["thing", "many"]
theorem sc_is_tuple_of : FnScope N_is_tuple_of p_is_tuple_of (defScope s_is_tuple_of) := ⟨rfl, rfl, rfl, by decide +kernel, rfl, by decide +kernel, by decide +kernel⟩
abbrev N_are_wholes : List Str := ["thing", "part"]
abbrev p_are_wholes : List Str := ["thing"]
theorem sc_are_wholes : FnScope N_are_wholes p_are_wholes (defScope s_are_wholes) := ⟨rfl, rfl, rfl, by decide +kernel, rfl, by decide +kernel, by decide +kernel⟩
abbrev N_common_part : List Str := ["one", "other", "great", "small"]
abbrev p_common_part : List Str := ["one", "other"]
theorem sc_common_part : FnScope N_common_part p_common_part (defScope s_common_part) := ⟨rfl, rfl, rfl, by decide +kernel, rfl, by decide +kernel, by decide +kernel⟩
abbrev N_Measure_init : List Str := ["self", "top", "bottom", "common"]
abbrev p_Measure_init : List Str := ["self", "top", "bottom"]
theorem sc_Measure_init : FnScope N_Measure_init p_Measure_init (defScope s_Measure_init) := ⟨rfl, rfl, rfl, by decide +kernel, rfl, by decide +kernel, by decide +kernel⟩
abbrev N_Measure_eq : List Str := ["self", "other"]
abbrev p_Measure_eq : List Str := ["self", "other"]
theorem sc_Measure_eq : FnScope N_Measure_eq p_Measure_eq (defScope s_Measure_eq) := ⟨rfl, rfl, rfl, by decide +kernel, rfl, by decide +kernel, by decide +kernel⟩
abbrev N_Measure_plus : List Str := ["self", "other"]
abbrev p_Measure_plus : List Str := ["self", "other"]
theorem sc_Measure_plus : FnScope N_Measure_plus p_Measure_plus (defScope s_Measure_plus) := ⟨rfl, rfl, rfl, by decide +kernel, rfl, by decide +kernel, by decide +kernel⟩
abbrev N_Measure_minus : List Str := ["self", "other"]
abbrev p_Measure_minus : List Str := ["self", "other"]
theorem sc_Measure_minus : FnScope N_Measure_minus p_Measure_minus (defScope s_Measure_minus) := ⟨rfl, rfl, rfl, by decide +kernel, rfl, by decide +kernel, by decide +kernel⟩
abbrev N_Measure_parted : List Str := ["self", "many"]
abbrev p_Measure_parted : List Str := ["self", "many"]
theorem sc_Measure_parted : FnScope N_Measure_parted p_Measure_parted (defScope s_Measure_parted) := ⟨rfl, rfl, rfl, by decide +kernel, rfl, by decide +kernel, by decide +kernel⟩
abbrev N_Measure_is_below : List Str := ["self", "other", "alike", "here", "there"]
abbrev p_Measure_is_below : List Str := ["self", "other", "alike"]
theorem sc_Measure_is_below : FnScope N_Measure_is_below p_Measure_is_below (defScope s_Measure_is_below) := ⟨rfl, rfl, rfl, by decide +kernel, rfl, by decide +kernel, by decide +kernel⟩
abbrev N_is_measure_or_none : List Str := ["thing"]
abbrev p_is_measure_or_none : List Str := ["thing"]
theorem sc_is_measure_or_none : FnScope N_is_measure_or_none p_is_measure_or_none (defScope s_is_measure_or_none) := ⟨rfl, rfl, rfl, by decide +kernel, rfl, by decide +kernel, by decide +kernel⟩
abbrev N_slip_of : List Str := ["rows", "number"]
abbrev p_slip_of : List Str := ["rows"]
theorem sc_slip_of : FnScope N_slip_of p_slip_of (defScope s_slip_of) := ⟨rfl, rfl, rfl, by decide +kernel, rfl, by decide +kernel, by decide +kernel⟩
abbrev N_is_empty : List Str := ["low", "high", "low_in", "high_in"]
abbrev p_is_empty : List Str := ["low", "high", "low_in", "high_in"]
theorem sc_is_empty : FnScope N_is_empty p_is_empty (defScope s_is_empty) := ⟨rfl, rfl, rfl, by decide +kernel, rfl, by decide +kernel, by decide +kernel⟩
abbrev N_cut_low : List Str := ["one", "other"]
abbrev p_cut_low : List Str := ["one", "other"]
theorem sc_cut_low : FnScope N_cut_low p_cut_low (defScope s_cut_low) := ⟨rfl, rfl, rfl, by decide +kernel, rfl, by decide +kernel, by decide +kernel⟩
abbrev N_cut_high : List Str := ["one", "other"]
abbrev p_cut_high : List Str := ["one", "other"]
theorem sc_cut_high : FnScope N_cut_high p_cut_high (defScope s_cut_high) := ⟨rfl, rfl, rfl, by decide +kernel, rfl, by decide +kernel, by decide +kernel⟩
abbrev N_some_measure : List Str := ["stretch"]
abbrev p_some_measure : List Str := ["stretch"]
theorem sc_some_measure : FnScope N_some_measure p_some_measure (defScope s_some_measure) := ⟨rfl, rfl, rfl, by decide +kernel, rfl, by decide +kernel, by decide +kernel⟩
abbrev N_Stretch_init : List Str := ["self", "low", "high", "low_in", "high_in"]
abbrev p_Stretch_init : List Str := ["self", "low", "high", "low_in", "high_in"]
theorem sc_Stretch_init : FnScope N_Stretch_init p_Stretch_init (defScope s_Stretch_init) := ⟨rfl, rfl, rfl, by decide +kernel, rfl, by decide +kernel, by decide +kernel⟩
abbrev N_Stretch_shared : List Str := ["self", "other", "both"]
abbrev p_Stretch_shared : List Str := ["self", "other"]
theorem sc_Stretch_shared : FnScope N_Stretch_shared p_Stretch_shared (defScope s_Stretch_shared) := ⟨rfl, rfl, rfl, by decide +kernel, rfl, by decide +kernel, by decide +kernel⟩
abbrev N_Stretch_cut : List Str := ["self", "other", "low", "low_in", "high", "high_in"]
abbrev p_Stretch_cut : List Str := ["self", "other"]
theorem sc_Stretch_cut : FnScope N_Stretch_cut p_Stretch_cut (defScope s_Stretch_cut) := ⟨rfl, rfl, rfl, by decide +kernel, rfl, by decide +kernel, by decide +kernel⟩
abbrev N_are_marks : List Str := ["thing", "mark"]
abbrev p_are_marks : List Str := ["thing"]
theorem sc_are_marks : FnScope N_are_marks p_are_marks (defScope s_are_marks) := ⟨rfl, rfl, rfl, by decide +kernel, rfl, by decide +kernel, by decide +kernel⟩
abbrev N_is_rule : List Str := ["thing"]
abbrev p_is_rule : List Str := ["thing"]
theorem sc_is_rule : FnScope N_is_rule p_is_rule (defScope s_is_rule) := ⟨rfl, rfl, rfl, by decide +kernel, rfl, by decide +kernel, by decide +kernel⟩
abbrev N_is_span : List Str := ["least", "most"]
abbrev p_is_span : List Str := ["least", "most"]
theorem sc_is_span : FnScope N_is_span p_is_span (defScope s_is_span) := ⟨rfl, rfl, rfl, by decide +kernel, rfl, by decide +kernel, by decide +kernel⟩
abbrev N_midsts_of : List Str := ["marks", "at"]
abbrev p_midsts_of : List Str := ["marks"]
theorem sc_midsts_of : FnScope N_midsts_of p_midsts_of (defScope s_midsts_of) := ⟨rfl, rfl, rfl, by decide +kernel, rfl, by decide +kernel, by decide +kernel⟩
abbrev N_size_by_rule : List Str := ["marks", "rule", "measure", "mark", "midst"]
abbrev p_size_by_rule : List Str := ["marks", "rule", "measure"]
theorem sc_size_by_rule : FnScope N_size_by_rule p_size_by_rule (defScope s_size_by_rule) := ⟨rfl, rfl, rfl, by decide +kernel, rfl, by decide +kernel, by decide +kernel⟩
abbrev N_end_at : List Str := ["ends", "at"]
abbrev p_end_at : List Str := ["ends", "at"]
theorem sc_end_at : FnScope N_end_at p_end_at (defScope s_end_at) := ⟨rfl, rfl, rfl, by decide +kernel, rfl, by decide +kernel, by decide +kernel⟩
abbrev N_stretch_by_rule : List Str := ["marks", "rule", "number", "midsts"]
abbrev p_stretch_by_rule : List Str := ["marks", "rule", "number"]
theorem sc_stretch_by_rule : FnScope N_stretch_by_rule p_stretch_by_rule (defScope s_stretch_by_rule) := ⟨rfl, rfl, rfl, by decide +kernel, rfl, by decide +kernel, by decide +kernel⟩
abbrev N_has_size : List Str := ["ladder", "thing"]
abbrev p_has_size : List Str := ["ladder", "thing"]
theorem sc_has_size : FnScope N_has_size p_has_size (defScope s_has_size) := ⟨rfl, rfl, rfl, by decide +kernel, rfl, by decide +kernel, by decide +kernel⟩
abbrev N_Ladder_init : List Str := ["self", "marks", "rule", "least", "most", "slip"]
abbrev p_Ladder_init : List Str := ["self", "marks", "rule", "least", "most"]
theorem sc_Ladder_init : FnScope N_Ladder_init p_Ladder_init (defScope s_Ladder_init) := ⟨rfl, rfl, rfl, by decide +kernel, rfl, by decide +kernel, by decide +kernel⟩
abbrev N_Ladder_len : List Str := ["self"]
abbrev p_Ladder_len : List Str := ["self"]
theorem sc_Ladder_len : FnScope N_Ladder_len p_Ladder_len (defScope s_Ladder_len) := ⟨rfl, rfl, rfl, by decide +kernel, rfl, by decide +kernel, by decide +kernel⟩
abbrev N_Ladder_size : List Str := ["self", "measure", "number"]
abbrev p_Ladder_size : List Str := ["self", "measure"]
theorem sc_Ladder_size : FnScope N_Ladder_size p_Ladder_size (defScope s_Ladder_size) := ⟨rfl, rfl, rfl, by decide +kernel, rfl, by decide +kernel, by decide +kernel⟩
abbrev N_Ladder_stretch : List Str := ["self", "number", "bounds"]
abbrev p_Ladder_stretch : List Str := ["self", "number"]
theorem sc_Ladder_stretch : FnScope N_Ladder_stretch p_Ladder_stretch (defScope s_Ladder_stretch) := ⟨rfl, rfl, rfl, by decide +kernel, rfl, by decide +kernel, by decide +kernel⟩
abbrev N_shared_by : List Str := ["here", "there"]
abbrev p_shared_by : List Str := ["here", "there"]
theorem sc_shared_by : FnScope N_shared_by p_shared_by (defScope s_shared_by) := ⟨rfl, rfl, rfl, by decide +kernel, rfl, by decide +kernel, by decide +kernel⟩
abbrev N_common_measures : List Str := ["one", "number", "other", "here", "size"]
abbrev p_common_measures : List Str := ["one", "number", "other"]
theorem sc_common_measures : FnScope N_common_measures p_common_measures (defScope s_common_measures) := ⟨rfl, rfl, rfl, by decide +kernel, rfl, by decide +kernel, by decide +kernel⟩
abbrev N_led : List Str := ["one", "number", "other", "measures", "met", "size", "measure"]
abbrev p_led : List Str := ["one", "number", "other"]
theorem sc_led : FnScope N_led p_led (defScope s_led) := ⟨rfl, rfl, rfl, by decide +kernel, rfl, by decide +kernel, by decide +kernel⟩
abbrev N_led_paper : List Str := ["one", "number", "other", "measure"]
abbrev p_led_paper : List Str := ["one", "number", "other"]
theorem sc_led_paper : FnScope N_led_paper p_led_paper (defScope s_led_paper) := ⟨rfl, rfl, rfl, by decide +kernel, rfl, by decide +kernel, by decide +kernel⟩
abbrev N_comes_to : List Str := ["ladder", "thing", "number"]
abbrev p_comes_to : List Str := ["ladder", "thing", "number"]
theorem sc_comes_to : FnScope N_comes_to p_comes_to (defScope s_comes_to) := ⟨rfl, rfl, rfl, by decide +kernel, rfl, by decide +kernel, by decide +kernel⟩
abbrev N_is_paper : List Str := ["one", "number", "other", "run", "thing", "first", "last", "at", "measure"]
abbrev p_is_paper : List Str := ["one", "number", "other", "run", "thing"]
theorem sc_is_paper : FnScope N_is_paper p_is_paper (defScope s_is_paper) := ⟨rfl, rfl, rfl, by decide +kernel, rfl, by decide +kernel, by decide +kernel⟩
abbrev N_shows_led : List Str := ["one", "number", "other", "run", "paper", "meant"]
abbrev p_shows_led : List Str := ["one", "number", "other", "run", "paper"]
theorem sc_shows_led : FnScope N_shows_led p_shows_led (defScope s_shows_led) := ⟨rfl, rfl, rfl, by decide +kernel, rfl, by decide +kernel, by decide +kernel⟩
abbrev N_l_begin : List Str := ["_law_script", "_law_seed", "_law_great", "_law_k", "_law_cell"]
abbrev p_l_begin : List Str := ["_law_script"]
theorem sc_l_begin : FnScope N_l_begin p_l_begin (defScope s_l_begin) := ⟨rfl, rfl, rfl, by decide +kernel, rfl, by decide +kernel, by decide +kernel⟩
abbrev N_l_pick : List Str := ["_law_pot", "_law_many", "_law_digit", "_law_turn", "_law_once"]
abbrev p_l_pick : List Str := ["_law_pot", "_law_many"]
theorem sc_l_pick : FnScope N_l_pick p_l_pick (defScope s_l_pick) := ⟨rfl, rfl, rfl, by decide +kernel, rfl, by decide +kernel, by decide +kernel⟩
abbrev N_l_of : List Str := ["_law_pot", "_law_some"]
abbrev p_l_of : List Str := ["_law_pot", "_law_some"]
theorem sc_l_of : FnScope N_l_of p_l_of (defScope s_l_of) := ⟨rfl, rfl, rfl, by decide +kernel, rfl, by decide +kernel, by decide +kernel⟩
abbrev N_l_parts : List Str := ["_law_top", "_law_bottom", "_law_one", "_law_other"]
abbrev p_l_parts : List Str := ["_law_top", "_law_bottom"]
theorem sc_l_parts : FnScope N_l_parts p_l_parts (defScope s_l_parts) := ⟨rfl, rfl, rfl, by decide +kernel, rfl, by decide +kernel, by decide +kernel⟩
abbrev N_l_less : List Str := ["_law_one", "_law_other"]
abbrev p_l_less : List Str := ["_law_one", "_law_other"]
theorem sc_l_less : FnScope N_l_less p_l_less (defScope s_l_less) := ⟨rfl, rfl, rfl, by decide +kernel, rfl, by decide +kernel, by decide +kernel⟩
abbrev N_l_plus : List Str := ["_law_one", "_law_other"]
abbrev p_l_plus : List Str := ["_law_one", "_law_other"]
theorem sc_l_plus : FnScope N_l_plus p_l_plus (defScope s_l_plus) := ⟨rfl, rfl, rfl, by decide +kernel, rfl, by decide +kernel, by decide +kernel⟩
abbrev N_l_mid : List Str := ["_law_one", "_law_other", "_law_both"]
abbrev p_l_mid : List Str := ["_law_one", "_law_other"]
theorem sc_l_mid : FnScope N_l_mid p_l_mid (defScope s_l_mid) := ⟨rfl, rfl, rfl, by decide +kernel, rfl, by decide +kernel, by decide +kernel⟩
abbrev N_l_drawn : List Str := ["_law_pot", "_law_most", "_law_rule", "_law_many", "_law_pool", "_law_step", "_law_marks", "_law_k", "_law_ends", "_law_way", "_law_at", "_law_beside"]
abbrev p_l_drawn : List Str := ["_law_pot", "_law_most"]
theorem sc_l_drawn : FnScope N_l_drawn p_l_drawn (defScope s_l_drawn) := ⟨rfl, rfl, rfl, by decide +kernel, rfl, by decide +kernel, by decide +kernel⟩
abbrev N_l_made : List Str := ["_law_ladder", "_law_marks", "_law_rule", "_law_least", "_law_most", "_law_ends", "_law_end", "_law_top", "_law_bottom"]
abbrev p_l_made : List Str := ["_law_ladder"]
theorem sc_l_made : FnScope N_l_made p_l_made (defScope s_l_made) := ⟨rfl, rfl, rfl, by decide +kernel, rfl, by decide +kernel, by decide +kernel⟩
abbrev N_l_scaled : List Str := ["_law_ladder", "_law_scale", "_law_marks", "_law_rule", "_law_least", "_law_most", "_law_found", "_law_ends", "_law_top", "_law_bottom", "_law_end"]
abbrev p_l_scaled : List Str := ["_law_ladder", "_law_scale"]
theorem sc_l_scaled : FnScope N_l_scaled p_l_scaled (defScope s_l_scaled) := ⟨rfl, rfl, rfl, by decide +kernel, rfl, by decide +kernel, by decide +kernel⟩
abbrev N_l_ladders : List Str := ["_law_pot", "_law_many", "_law_most", "_law_scale", "_law_k"]
abbrev p_l_ladders : List Str := ["_law_pot", "_law_many", "_law_most"]
theorem sc_l_ladders : FnScope N_l_ladders p_l_ladders (defScope s_l_ladders) := ⟨rfl, rfl, rfl, by decide +kernel, rfl, by decide +kernel, by decide +kernel⟩
abbrev N_l_rising : List Str := ["_law_points_here", "_law_found", "_law_point", "_law_at", "_law_one"]
abbrev p_l_rising : List Str := ["_law_points_here"]
theorem sc_l_rising : FnScope N_l_rising p_l_rising (defScope s_l_rising) := ⟨rfl, rfl, rfl, by decide +kernel, rfl, by decide +kernel, by decide +kernel⟩
abbrev N_l_points : List Str := ["_law_one", "_law_other", "_law_ends", "_law_marks", "_law_rule", "_law_least", "_law_most", "_law_between", "_law_low", "_law_high", "_law_end"]
abbrev p_l_points : List Str := ["_law_one", "_law_other"]
theorem sc_l_points : FnScope N_l_points p_l_points (defScope s_l_points) := ⟨rfl, rfl, rfl, by decide +kernel, rfl, by decide +kernel, by decide +kernel⟩
abbrev N_l_right : List Str := ["_law_one", "_law_other", "_law_made_here", "_law_its", "_law_pairs", "_law_top", "_law_bottom", "_law_measure", "_law_here", "_law_there", "_law_number", "_law_run", "_law_paper", "_law_sizes", "_law_size", "_law_back"]
abbrev p_l_right : List Str := ["_law_one", "_law_other"]
theorem sc_l_right : FnScope N_l_right p_l_right (defScope s_l_right) := ⟨rfl, rfl, rfl, by decide +kernel, rfl, by decide +kernel, by decide +kernel⟩
abbrev N_law : List Str := ["_law_script", "_law_pot", "_law_turn", "_law_one", "_law_other"]
abbrev p_law : List Str := ["_law_script"]
theorem sc_law : FnScope N_law p_law (defScope s_law) := ⟨rfl, rfl, rfl, by decide +kernel, rfl, by decide +kernel, by decide +kernel⟩
/-! ### what the top has written -/
structure Fds where
  is_whole : FuncData
  is_tuple_of : FuncData
  are_wholes : FuncData
  common_part : FuncData
  Measure_init : FuncData
  Measure_eq : FuncData
  Measure_plus : FuncData
  Measure_minus : FuncData
  Measure_parted : FuncData
  Measure_is_below : FuncData
  is_measure_or_none : FuncData
  slip_of : FuncData
  is_empty : FuncData
  cut_low : FuncData
  cut_high : FuncData
  some_measure : FuncData
  Stretch_init : FuncData
  Stretch_shared : FuncData
  Stretch_cut : FuncData
  are_marks : FuncData
  is_rule : FuncData
  is_span : FuncData
  midsts_of : FuncData
  size_by_rule : FuncData
  end_at : FuncData
  stretch_by_rule : FuncData
  has_size : FuncData
  Ladder_init : FuncData
  Ladder_len : FuncData
  Ladder_size : FuncData
  Ladder_stretch : FuncData
  shared_by : FuncData
  common_measures : FuncData
  led : FuncData
  led_paper : FuncData
  comes_to : FuncData
  is_paper : FuncData
  shows_led : FuncData
  l_begin : FuncData
  l_pick : FuncData
  l_of : FuncData
  l_parts : FuncData
  l_less : FuncData
  l_plus : FuncData
  l_mid : FuncData
  l_drawn : FuncData
  l_made : FuncData
  l_scaled : FuncData
  l_ladders : FuncData
  l_rising : FuncData
  l_points : FuncData
  l_right : FuncData
  law : FuncData
structure Txt (K : PySem.W.Frag) (mg : Str → Option Value) (φ : Fds) : Prop where
  g_is_whole : mg "is_whole" = some (.ref (He.ga K "is_whole"))
  g_is_tuple_of : mg "is_tuple_of" = some (.ref (He.ga K "is_tuple_of"))
  g_are_wholes : mg "are_wholes" = some (.ref (He.ga K "are_wholes"))
  g_common_part : mg "common_part" = some (.ref (He.ga K "common_part"))
  g_is_measure_or_none : mg "is_measure_or_none" = some (.ref (He.ga K "is_measure_or_none"))
  g_slip_of : mg "slip_of" = some (.ref (He.ga K "slip_of"))
  g_is_empty : mg "is_empty" = some (.ref (He.ga K "is_empty"))
  g_cut_low : mg "cut_low" = some (.ref (He.ga K "cut_low"))
  g_cut_high : mg "cut_high" = some (.ref (He.ga K "cut_high"))
  g_some_measure : mg "some_measure" = some (.ref (He.ga K "some_measure"))
  g_are_marks : mg "are_marks" = some (.ref (He.ga K "are_marks"))
  g_is_rule : mg "is_rule" = some (.ref (He.ga K "is_rule"))
  g_is_span : mg "is_span" = some (.ref (He.ga K "is_span"))
  g_midsts_of : mg "midsts_of" = some (.ref (He.ga K "midsts_of"))
  g_size_by_rule : mg "size_by_rule" = some (.ref (He.ga K "size_by_rule"))
  g_end_at : mg "end_at" = some (.ref (He.ga K "end_at"))
  g_stretch_by_rule : mg "stretch_by_rule" = some (.ref (He.ga K "stretch_by_rule"))
  g_has_size : mg "has_size" = some (.ref (He.ga K "has_size"))
  g_shared_by : mg "shared_by" = some (.ref (He.ga K "shared_by"))
  g_common_measures : mg "common_measures" = some (.ref (He.ga K "common_measures"))
  g_led : mg "led" = some (.ref (He.ga K "led"))
  g_led_paper : mg "led_paper" = some (.ref (He.ga K "led_paper"))
  g_comes_to : mg "comes_to" = some (.ref (He.ga K "comes_to"))
  g_is_paper : mg "is_paper" = some (.ref (He.ga K "is_paper"))
  g_shows_led : mg "shows_led" = some (.ref (He.ga K "shows_led"))
  g_l_begin : mg "_law_begin" = some (.ref (He.ga K "_law_begin"))
  g_l_pick : mg "_law_pick" = some (.ref (He.ga K "_law_pick"))
  g_l_of : mg "_law_of" = some (.ref (He.ga K "_law_of"))
  g_l_parts : mg "_law_parts" = some (.ref (He.ga K "_law_parts"))
  g_l_less : mg "_law_less" = some (.ref (He.ga K "_law_less"))
  g_l_plus : mg "_law_plus" = some (.ref (He.ga K "_law_plus"))
  g_l_mid : mg "_law_mid" = some (.ref (He.ga K "_law_mid"))
  g_l_drawn : mg "_law_drawn" = some (.ref (He.ga K "_law_drawn"))
  g_l_made : mg "_law_made" = some (.ref (He.ga K "_law_made"))
  g_l_scaled : mg "_law_scaled" = some (.ref (He.ga K "_law_scaled"))
  g_l_ladders : mg "_law_ladders" = some (.ref (He.ga K "_law_ladders"))
  g_l_rising : mg "_law_rising" = some (.ref (He.ga K "_law_rising"))
  g_l_points : mg "_law_points" = some (.ref (He.ga K "_law_points"))
  g_l_right : mg "_law_right" = some (.ref (He.ga K "_law_right"))
  g_law : mg "law" = some (.ref (He.ga K "law"))
  g_Measure : mg "Measure" = some (.ref (He.ga K "Measure"))
  g_Stretch : mg "Stretch" = some (.ref (He.ga K "Stretch"))
  g_Ladder : mg "Ladder" = some (.ref (He.ga K "Ladder"))
  g_RULES : mg "RULES" = some (.ref (He.ga K "RULES"))
  v_MOST_MARKS : ∃ t, mg "MOST_MARKS" = some (.int 24 t)
  z_abs : mg "abs" = none
  z_all : mg "all" = none
  z_bool : mg "bool" = none
  z_enumerate : mg "enumerate" = none
  z_int : mg "int" = none
  z_isinstance : mg "isinstance" = none
  z_len : mg "len" = none
  z_list : mg "list" = none
  z_max : mg "max" = none
  z_min : mg "min" = none
  z_range : mg "range" = none
  z_sorted : mg "sorted" = none
  z_str : mg "str" = none
  z_tuple : mg "tuple" = none
  z_zip : mg "zip" = none
  cl_Measure : Cls K (He.ga K "Measure")
  na_Measure_top : NoAttr K (He.ga K "Measure") "top"
  na_Measure_bottom : NoAttr K (He.ga K "Measure") "bottom"
  me_Measure_eq : Meth K (He.ga K "Measure") "__eq__" (He.ma K (He.ga K "Measure") "__eq__")
  me_Measure_plus : Meth K (He.ga K "Measure") "plus" (He.ma K (He.ga K "Measure") "plus")
  me_Measure_minus : Meth K (He.ga K "Measure") "minus" (He.ma K (He.ga K "Measure") "minus")
  me_Measure_parted : Meth K (He.ga K "Measure") "parted" (He.ma K (He.ga K "Measure") "parted")
  me_Measure_is_below : Meth K (He.ga K "Measure") "is_below" (He.ma K (He.ga K "Measure") "is_below")
  mk_Measure : Mk K (He.ga K "Measure") (He.ma K (He.ga K "Measure") "__init__")
  cl_Stretch : Cls K (He.ga K "Stretch")
  na_Stretch_low : NoAttr K (He.ga K "Stretch") "low"
  na_Stretch_high : NoAttr K (He.ga K "Stretch") "high"
  na_Stretch_low_in : NoAttr K (He.ga K "Stretch") "low_in"
  na_Stretch_high_in : NoAttr K (He.ga K "Stretch") "high_in"
  me_Stretch_shared : Meth K (He.ga K "Stretch") "shared" (He.ma K (He.ga K "Stretch") "shared")
  me_Stretch_cut : Meth K (He.ga K "Stretch") "cut" (He.ma K (He.ga K "Stretch") "cut")
  mk_Stretch : Mk K (He.ga K "Stretch") (He.ma K (He.ga K "Stretch") "__init__")
  cl_Ladder : Cls K (He.ga K "Ladder")
  na_Ladder_marks : NoAttr K (He.ga K "Ladder") "marks"
  na_Ladder_rule : NoAttr K (He.ga K "Ladder") "rule"
  na_Ladder_least : NoAttr K (He.ga K "Ladder") "least"
  na_Ladder_most : NoAttr K (He.ga K "Ladder") "most"
  me_Ladder_len : Meth K (He.ga K "Ladder") "__len__" (He.ma K (He.ga K "Ladder") "__len__")
  me_Ladder_size : Meth K (He.ga K "Ladder") "size" (He.ma K (He.ga K "Ladder") "size")
  me_Ladder_stretch : Meth K (He.ga K "Ladder") "stretch" (He.ma K (He.ga K "Ladder") "stretch")
  mk_Ladder : Mk K (He.ga K "Ladder") (He.ma K (He.ga K "Ladder") "__init__")
  ii_Measure : IsC K (He.ga K "Measure")
  ii_Stretch : IsC K (He.ga K "Stretch")
  ii_Ladder : IsC K (He.ga K "Ladder")
  ec_Measure : EqC K (He.ga K "Measure")
  tp_RULES : ∀ H, SqT K H (He.ga K "RULES") ((["up", "down", "near"] : List Str).map V.str)
  k_Measure_Measure : PySem.W.kitOne K (.ref (He.ga K "Measure")) (.ref (He.ga K "Measure")) = some true
  k_Stretch_Stretch : PySem.W.kitOne K (.ref (He.ga K "Stretch")) (.ref (He.ga K "Stretch")) = some true
  k_Measure_Stretch : PySem.W.kitOne K (.ref (He.ga K "Measure")) (.ref (He.ga K "Stretch")) = some false
  k_Stretch_Measure : PySem.W.kitOne K (.ref (He.ga K "Stretch")) (.ref (He.ga K "Measure")) = some false
  k_Ladder_Ladder : PySem.W.kitOne K (.ref (He.ga K "Ladder")) (.ref (He.ga K "Ladder")) = some true
  k_int_Measure : PySem.W.kitOne K (.type "int") (.ref (He.ga K "Measure")) = some false
  k_str_Measure : PySem.W.kitOne K (.type "str") (.ref (He.ga K "Measure")) = some false
  k_NoneType_Measure : PySem.W.kitOne K (.type "NoneType") (.ref (He.ga K "Measure")) = some false
  k_tuple_Measure : PySem.W.kitOne K (.type "tuple") (.ref (He.ga K "Measure")) = some false
  k_Measure_tuple : PySem.W.kitOne K (.ref (He.ga K "Measure")) (.type "tuple") = some false
  f_is_whole : FunD K "is_whole" "is_whole" (defArgs s_is_whole) (defBody s_is_whole) (defScope s_is_whole) [] [] (He.fAd K ("is_whole", none)) φ.is_whole
  f_is_tuple_of : FunD K "is_tuple_of" "is_tuple_of" (defArgs s_is_tuple_of) (defBody s_is_tuple_of) (defScope s_is_tuple_of) [] [] (He.fAd K ("is_tuple_of", none)) φ.is_tuple_of
  f_are_wholes : FunD K "are_wholes" "are_wholes" (defArgs s_are_wholes) (defBody s_are_wholes) (defScope s_are_wholes) [] [] (He.fAd K ("are_wholes", none)) φ.are_wholes
  f_common_part : FunD K "common_part" "common_part" (defArgs s_common_part) (defBody s_common_part) (defScope s_common_part) [] [] (He.fAd K ("common_part", none)) φ.common_part
  f_Measure_init : FunD K "__init__" "Measure.__init__" (defArgs s_Measure_init) (defBody s_Measure_init) (defScope s_Measure_init) [V.int 1] [] (He.fAd K ("Measure", some "__init__")) φ.Measure_init
  f_Measure_eq : FunD K "__eq__" "Measure.__eq__" (defArgs s_Measure_eq) (defBody s_Measure_eq) (defScope s_Measure_eq) [] [] (He.fAd K ("Measure", some "__eq__")) φ.Measure_eq
  f_Measure_plus : FunD K "plus" "Measure.plus" (defArgs s_Measure_plus) (defBody s_Measure_plus) (defScope s_Measure_plus) [] [] (He.fAd K ("Measure", some "plus")) φ.Measure_plus
  f_Measure_minus : FunD K "minus" "Measure.minus" (defArgs s_Measure_minus) (defBody s_Measure_minus) (defScope s_Measure_minus) [] [] (He.fAd K ("Measure", some "minus")) φ.Measure_minus
  f_Measure_parted : FunD K "parted" "Measure.parted" (defArgs s_Measure_parted) (defBody s_Measure_parted) (defScope s_Measure_parted) [V.int 2] [] (He.fAd K ("Measure", some "parted")) φ.Measure_parted
  f_Measure_is_below : FunD K "is_below" "Measure.is_below" (defArgs s_Measure_is_below) (defBody s_Measure_is_below) (defScope s_Measure_is_below) [V.bl false] [] (He.fAd K ("Measure", some "is_below")) φ.Measure_is_below
  f_is_measure_or_none : FunD K "is_measure_or_none" "is_measure_or_none" (defArgs s_is_measure_or_none) (defBody s_is_measure_or_none) (defScope s_is_measure_or_none) [] [] (He.fAd K ("is_measure_or_none", none)) φ.is_measure_or_none
  f_slip_of : FunD K "slip_of" "slip_of" (defArgs s_slip_of) (defBody s_slip_of) (defScope s_slip_of) [] [] (He.fAd K ("slip_of", none)) φ.slip_of
  f_is_empty : FunD K "is_empty" "is_empty" (defArgs s_is_empty) (defBody s_is_empty) (defScope s_is_empty) [] [] (He.fAd K ("is_empty", none)) φ.is_empty
  f_cut_low : FunD K "cut_low" "cut_low" (defArgs s_cut_low) (defBody s_cut_low) (defScope s_cut_low) [] [] (He.fAd K ("cut_low", none)) φ.cut_low
  f_cut_high : FunD K "cut_high" "cut_high" (defArgs s_cut_high) (defBody s_cut_high) (defScope s_cut_high) [] [] (He.fAd K ("cut_high", none)) φ.cut_high
  f_some_measure : FunD K "some_measure" "some_measure" (defArgs s_some_measure) (defBody s_some_measure) (defScope s_some_measure) [] [] (He.fAd K ("some_measure", none)) φ.some_measure
  f_Stretch_init : FunD K "__init__" "Stretch.__init__" (defArgs s_Stretch_init) (defBody s_Stretch_init) (defScope s_Stretch_init) [V.bl false, V.bl true] [] (He.fAd K ("Stretch", some "__init__")) φ.Stretch_init
  f_Stretch_shared : FunD K "shared" "Stretch.shared" (defArgs s_Stretch_shared) (defBody s_Stretch_shared) (defScope s_Stretch_shared) [] [] (He.fAd K ("Stretch", some "shared")) φ.Stretch_shared
  f_Stretch_cut : FunD K "cut" "Stretch.cut" (defArgs s_Stretch_cut) (defBody s_Stretch_cut) (defScope s_Stretch_cut) [] [] (He.fAd K ("Stretch", some "cut")) φ.Stretch_cut
  f_are_marks : FunD K "are_marks" "are_marks" (defArgs s_are_marks) (defBody s_are_marks) (defScope s_are_marks) [] [] (He.fAd K ("are_marks", none)) φ.are_marks
  f_is_rule : FunD K "is_rule" "is_rule" (defArgs s_is_rule) (defBody s_is_rule) (defScope s_is_rule) [] [] (He.fAd K ("is_rule", none)) φ.is_rule
  f_is_span : FunD K "is_span" "is_span" (defArgs s_is_span) (defBody s_is_span) (defScope s_is_span) [] [] (He.fAd K ("is_span", none)) φ.is_span
  f_midsts_of : FunD K "midsts_of" "midsts_of" (defArgs s_midsts_of) (defBody s_midsts_of) (defScope s_midsts_of) [] [] (He.fAd K ("midsts_of", none)) φ.midsts_of
  f_size_by_rule : FunD K "size_by_rule" "size_by_rule" (defArgs s_size_by_rule) (defBody s_size_by_rule) (defScope s_size_by_rule) [] [] (He.fAd K ("size_by_rule", none)) φ.size_by_rule
  f_end_at : FunD K "end_at" "end_at" (defArgs s_end_at) (defBody s_end_at) (defScope s_end_at) [] [] (He.fAd K ("end_at", none)) φ.end_at
  f_stretch_by_rule : FunD K "stretch_by_rule" "stretch_by_rule" (defArgs s_stretch_by_rule) (defBody s_stretch_by_rule) (defScope s_stretch_by_rule) [] [] (He.fAd K ("stretch_by_rule", none)) φ.stretch_by_rule
  f_has_size : FunD K "has_size" "has_size" (defArgs s_has_size) (defBody s_has_size) (defScope s_has_size) [] [] (He.fAd K ("has_size", none)) φ.has_size
  f_Ladder_init : FunD K "__init__" "Ladder.__init__" (defArgs s_Ladder_init) (defBody s_Ladder_init) (defScope s_Ladder_init) [V.str "up", V.non, V.non] [] (He.fAd K ("Ladder", some "__init__")) φ.Ladder_init
  f_Ladder_len : FunD K "__len__" "Ladder.__len__" (defArgs s_Ladder_len) (defBody s_Ladder_len) (defScope s_Ladder_len) [] [] (He.fAd K ("Ladder", some "__len__")) φ.Ladder_len
  f_Ladder_size : FunD K "size" "Ladder.size" (defArgs s_Ladder_size) (defBody s_Ladder_size) (defScope s_Ladder_size) [] [] (He.fAd K ("Ladder", some "size")) φ.Ladder_size
  f_Ladder_stretch : FunD K "stretch" "Ladder.stretch" (defArgs s_Ladder_stretch) (defBody s_Ladder_stretch) (defScope s_Ladder_stretch) [] [] (He.fAd K ("Ladder", some "stretch")) φ.Ladder_stretch
  f_shared_by : FunD K "shared_by" "shared_by" (defArgs s_shared_by) (defBody s_shared_by) (defScope s_shared_by) [] [] (He.fAd K ("shared_by", none)) φ.shared_by
  f_common_measures : FunD K "common_measures" "common_measures" (defArgs s_common_measures) (defBody s_common_measures) (defScope s_common_measures) [] [] (He.fAd K ("common_measures", none)) φ.common_measures
  f_led : FunD K "led" "led" (defArgs s_led) (defBody s_led) (defScope s_led) [] [] (He.fAd K ("led", none)) φ.led
  f_led_paper : FunD K "led_paper" "led_paper" (defArgs s_led_paper) (defBody s_led_paper) (defScope s_led_paper) [] [] (He.fAd K ("led_paper", none)) φ.led_paper
  f_comes_to : FunD K "comes_to" "comes_to" (defArgs s_comes_to) (defBody s_comes_to) (defScope s_comes_to) [] [] (He.fAd K ("comes_to", none)) φ.comes_to
  f_is_paper : FunD K "is_paper" "is_paper" (defArgs s_is_paper) (defBody s_is_paper) (defScope s_is_paper) [] [] (He.fAd K ("is_paper", none)) φ.is_paper
  f_shows_led : FunD K "shows_led" "shows_led" (defArgs s_shows_led) (defBody s_shows_led) (defScope s_shows_led) [] [] (He.fAd K ("shows_led", none)) φ.shows_led
  f_l_begin : FunD K "_law_begin" "_law_begin" (defArgs s_l_begin) (defBody s_l_begin) (defScope s_l_begin) [] [] (He.fAd K ("_law_begin", none)) φ.l_begin
  f_l_pick : FunD K "_law_pick" "_law_pick" (defArgs s_l_pick) (defBody s_l_pick) (defScope s_l_pick) [] [] (He.fAd K ("_law_pick", none)) φ.l_pick
  f_l_of : FunD K "_law_of" "_law_of" (defArgs s_l_of) (defBody s_l_of) (defScope s_l_of) [] [] (He.fAd K ("_law_of", none)) φ.l_of
  f_l_parts : FunD K "_law_parts" "_law_parts" (defArgs s_l_parts) (defBody s_l_parts) (defScope s_l_parts) [] [] (He.fAd K ("_law_parts", none)) φ.l_parts
  f_l_less : FunD K "_law_less" "_law_less" (defArgs s_l_less) (defBody s_l_less) (defScope s_l_less) [] [] (He.fAd K ("_law_less", none)) φ.l_less
  f_l_plus : FunD K "_law_plus" "_law_plus" (defArgs s_l_plus) (defBody s_l_plus) (defScope s_l_plus) [] [] (He.fAd K ("_law_plus", none)) φ.l_plus
  f_l_mid : FunD K "_law_mid" "_law_mid" (defArgs s_l_mid) (defBody s_l_mid) (defScope s_l_mid) [] [] (He.fAd K ("_law_mid", none)) φ.l_mid
  f_l_drawn : FunD K "_law_drawn" "_law_drawn" (defArgs s_l_drawn) (defBody s_l_drawn) (defScope s_l_drawn) [] [] (He.fAd K ("_law_drawn", none)) φ.l_drawn
  f_l_made : FunD K "_law_made" "_law_made" (defArgs s_l_made) (defBody s_l_made) (defScope s_l_made) [] [] (He.fAd K ("_law_made", none)) φ.l_made
  f_l_scaled : FunD K "_law_scaled" "_law_scaled" (defArgs s_l_scaled) (defBody s_l_scaled) (defScope s_l_scaled) [] [] (He.fAd K ("_law_scaled", none)) φ.l_scaled
  f_l_ladders : FunD K "_law_ladders" "_law_ladders" (defArgs s_l_ladders) (defBody s_l_ladders) (defScope s_l_ladders) [] [] (He.fAd K ("_law_ladders", none)) φ.l_ladders
  f_l_rising : FunD K "_law_rising" "_law_rising" (defArgs s_l_rising) (defBody s_l_rising) (defScope s_l_rising) [] [] (He.fAd K ("_law_rising", none)) φ.l_rising
  f_l_points : FunD K "_law_points" "_law_points" (defArgs s_l_points) (defBody s_l_points) (defScope s_l_points) [] [] (He.fAd K ("_law_points", none)) φ.l_points
  f_l_right : FunD K "_law_right" "_law_right" (defArgs s_l_right) (defBody s_l_right) (defScope s_l_right) [] [] (He.fAd K ("_law_right", none)) φ.l_right
  f_law : FunD K "law" "law" (defArgs s_law) (defBody s_law) (defScope s_law) [] [] (He.fAd K ("law", none)) φ.law
def asL : List Addr := [3, 6, 4, 21, 28, 35, 40, 50, 63, 75, 87, 108, 120, 142, 154, 164, 171, 247, 258, 265, 272, 279, 286, 293, 300, 367, 372, 377, 384, 391, 396, 401, 408, 415, 422, 429, 487, 498, 503, 508, 513, 520, 525, 532, 539, 546, 553, 560, 567, 574, 581, 588, 593, 598, 603, 608, 613, 618, 625, 0, 20, 27, 34, 39, 49, 62, 74, 86, 107, 119, 141, 153, 163, 170, 246, 257, 264, 271, 278, 285, 292, 299, 366, 376, 383, 390, 395, 400, 407, 414, 421, 428, 486, 497, 502, 507, 512, 519, 524, 531, 538, 545, 552, 559, 566, 573, 580, 587, 592, 597, 602, 607, 612, 617, 624, 15, 16, 17, 18, 19, 22, 23, 24, 25, 26, 29, 30, 31, 32, 33, 36, 37, 38, 48, 51, 61, 73, 85, 105, 106, 118, 121, 139, 140, 152, 155, 158, 159, 160, 161, 162, 165, 166, 167, 168, 169, 186, 193, 200, 207, 214, 221, 228, 236, 244, 245, 248, 249, 252, 253, 254, 255, 256, 259, 260, 261, 262, 263, 266, 267, 268, 269, 270, 273, 274, 275, 276, 277, 280, 281, 282, 283, 284, 287, 288, 289, 290, 291, 294, 295, 296, 297, 298, 315, 322, 329, 336, 343, 350, 357, 364, 365, 368, 369, 373, 374, 375, 378, 379, 380, 381, 382, 385, 386, 387, 388, 389, 392, 393, 394, 397, 398, 399, 402, 403, 404, 405, 406, 409, 410, 411, 412, 413, 416, 417, 418, 419, 420, 423, 424, 425, 426, 427, 444, 451, 456, 463, 470, 477, 484, 485, 488, 489, 492, 493, 494, 495, 496, 499, 500, 501, 504, 505, 506, 509, 510, 511, 514, 515, 516, 517, 518, 521, 522, 523, 526, 527, 528, 529, 530, 533, 534, 535, 536, 537, 540, 541, 542, 543, 544, 547, 548, 549, 550, 551, 554, 555, 556, 557, 558, 561, 562, 563, 564, 565, 568, 569, 570, 571, 572, 575, 576, 577, 578, 579, 582, 583, 584, 585, 586, 589, 590, 591, 594, 595, 596, 599, 600, 601, 604, 605, 606, 609, 610, 611, 614, 615, 616, 619, 620, 621, 622, 623, 104, 93, 138, 127, 185, 179, 192, 199, 206, 213, 220, 227, 235, 229, 243, 237, 314, 308, 321, 328, 335, 342, 349, 356, 363, 443, 437, 450, 455, 462, 469, 476, 483, 99, 100, 101, 102, 103, 133, 134, 135, 136, 137, 180, 181, 182, 183, 184, 187, 188, 189, 190, 191, 194, 195, 196, 197, 198, 201, 202, 203, 204, 205, 208, 209, 210, 211, 212, 215, 216, 217, 218, 219, 222, 223, 224, 225, 226, 230, 231, 232, 233, 234, 238, 239, 240, 241, 242, 309, 310, 311, 312, 313, 316, 317, 318, 319, 320, 323, 324, 325, 326, 327, 330, 331, 332, 333, 334, 337, 338, 339, 340, 341, 344, 345, 346, 347, 348, 351, 352, 353, 354, 355, 358, 359, 360, 361, 362, 438, 439, 440, 441, 442, 445, 446, 447, 448, 449, 452, 453, 454, 457, 458, 459, 460, 461, 464, 465, 466, 467, 468, 471, 472, 473, 474, 475, 478, 479, 480, 481, 482]
def obsL (as : List Addr) (fa : List He.Fa) (fn : List He.DefD) (ex : List (PySem.W.Frag → Bool)) (g : Addr → Option Obj) : He.AlD × Bool := (He.obsD fa fn (He.frG g as), ex.all fun f => f (He.frG g as))
def hookL (as : List Addr) (fa : List He.Fa) (fn : List He.DefD) (ex : List (PySem.W.Frag → Bool)) : PySem.W.Hook where
  α := He.AlD × Bool
  obs := fun s => obsL as fa fn ex s.heap.get?
  val := fun _ => (He.valD fn, true)
  says := fun _ h => ∃ K : PySem.W.Frag, K.In h ∧ He.SaysD fa fn K ∧ (ex.all fun f => f K) = true
  of := fun _ _ e => ⟨_, He.frG_in, congrArg (fun z : He.AlD × Bool => z.1) e, congrArg (fun z : He.AlD × Bool => z.2) e⟩
  keeps := fun _ _ _ ⟨K, hK, c⟩ k => ⟨K, PySem.W.Frag.In.keeps hK k, c⟩
theorem obsL_eq {as : List Addr} {fa : List He.Fa} {fn : List He.DefD} {ex : List (PySem.W.Frag → Bool)} {g : Addr → Option Obj} {s : Shared} (h : ∀ a, g a = s.heap.get? a) : obsL as fa fn ex g = (hookL as fa fn ex).obs s := by
  have e : g = s.heap.get? := funext h
  rw [e] <;> rfl
/-! ### the head -/
def h_is_whole : He.DefD := ⟨("is_whole", none), "is_whole", "is_whole", defArgs s_is_whole, defBody s_is_whole, defScope s_is_whole, [], []⟩
def h_is_tuple_of : He.DefD := ⟨("is_tuple_of", none), "is_tuple_of", "is_tuple_of", defArgs s_is_tuple_of, defBody s_is_tuple_of, defScope s_is_tuple_of, [], []⟩
def h_are_wholes : He.DefD := ⟨("are_wholes", none), "are_wholes", "are_wholes", defArgs s_are_wholes, defBody s_are_wholes, defScope s_are_wholes, [], []⟩
def h_common_part : He.DefD := ⟨("common_part", none), "common_part", "common_part", defArgs s_common_part, defBody s_common_part, defScope s_common_part, [], []⟩
def h_Measure_init : He.DefD := ⟨("Measure", some "__init__"), "__init__", "Measure.__init__", defArgs s_Measure_init, defBody s_Measure_init, defScope s_Measure_init, [.int 1], []⟩
def h_Measure_eq : He.DefD := ⟨("Measure", some "__eq__"), "__eq__", "Measure.__eq__", defArgs s_Measure_eq, defBody s_Measure_eq, defScope s_Measure_eq, [], []⟩
def h_Measure_plus : He.DefD := ⟨("Measure", some "plus"), "plus", "Measure.plus", defArgs s_Measure_plus, defBody s_Measure_plus, defScope s_Measure_plus, [], []⟩
def h_Measure_minus : He.DefD := ⟨("Measure", some "minus"), "minus", "Measure.minus", defArgs s_Measure_minus, defBody s_Measure_minus, defScope s_Measure_minus, [], []⟩
def h_Measure_parted : He.DefD := ⟨("Measure", some "parted"), "parted", "Measure.parted", defArgs s_Measure_parted, defBody s_Measure_parted, defScope s_Measure_parted, [.int 2], []⟩
def h_Measure_is_below : He.DefD := ⟨("Measure", some "is_below"), "is_below", "Measure.is_below", defArgs s_Measure_is_below, defBody s_Measure_is_below, defScope s_Measure_is_below, [.bl false], []⟩
def h_is_measure_or_none : He.DefD := ⟨("is_measure_or_none", none), "is_measure_or_none", "is_measure_or_none", defArgs s_is_measure_or_none, defBody s_is_measure_or_none, defScope s_is_measure_or_none, [], []⟩
def h_slip_of : He.DefD := ⟨("slip_of", none), "slip_of", "slip_of", defArgs s_slip_of, defBody s_slip_of, defScope s_slip_of, [], []⟩
def h_is_empty : He.DefD := ⟨("is_empty", none), "is_empty", "is_empty", defArgs s_is_empty, defBody s_is_empty, defScope s_is_empty, [], []⟩
def h_cut_low : He.DefD := ⟨("cut_low", none), "cut_low", "cut_low", defArgs s_cut_low, defBody s_cut_low, defScope s_cut_low, [], []⟩
def h_cut_high : He.DefD := ⟨("cut_high", none), "cut_high", "cut_high", defArgs s_cut_high, defBody s_cut_high, defScope s_cut_high, [], []⟩
def h_some_measure : He.DefD := ⟨("some_measure", none), "some_measure", "some_measure", defArgs s_some_measure, defBody s_some_measure, defScope s_some_measure, [], []⟩
def h_Stretch_init : He.DefD := ⟨("Stretch", some "__init__"), "__init__", "Stretch.__init__", defArgs s_Stretch_init, defBody s_Stretch_init, defScope s_Stretch_init, [.bl false, .bl true], []⟩
def h_Stretch_shared : He.DefD := ⟨("Stretch", some "shared"), "shared", "Stretch.shared", defArgs s_Stretch_shared, defBody s_Stretch_shared, defScope s_Stretch_shared, [], []⟩
def h_Stretch_cut : He.DefD := ⟨("Stretch", some "cut"), "cut", "Stretch.cut", defArgs s_Stretch_cut, defBody s_Stretch_cut, defScope s_Stretch_cut, [], []⟩
def h_are_marks : He.DefD := ⟨("are_marks", none), "are_marks", "are_marks", defArgs s_are_marks, defBody s_are_marks, defScope s_are_marks, [], []⟩
def h_is_rule : He.DefD := ⟨("is_rule", none), "is_rule", "is_rule", defArgs s_is_rule, defBody s_is_rule, defScope s_is_rule, [], []⟩
def h_is_span : He.DefD := ⟨("is_span", none), "is_span", "is_span", defArgs s_is_span, defBody s_is_span, defScope s_is_span, [], []⟩
def h_midsts_of : He.DefD := ⟨("midsts_of", none), "midsts_of", "midsts_of", defArgs s_midsts_of, defBody s_midsts_of, defScope s_midsts_of, [], []⟩
def h_size_by_rule : He.DefD := ⟨("size_by_rule", none), "size_by_rule", "size_by_rule", defArgs s_size_by_rule, defBody s_size_by_rule, defScope s_size_by_rule, [], []⟩
def h_end_at : He.DefD := ⟨("end_at", none), "end_at", "end_at", defArgs s_end_at, defBody s_end_at, defScope s_end_at, [], []⟩
def h_stretch_by_rule : He.DefD := ⟨("stretch_by_rule", none), "stretch_by_rule", "stretch_by_rule", defArgs s_stretch_by_rule, defBody s_stretch_by_rule, defScope s_stretch_by_rule, [], []⟩
def h_has_size : He.DefD := ⟨("has_size", none), "has_size", "has_size", defArgs s_has_size, defBody s_has_size, defScope s_has_size, [], []⟩
def h_Ladder_init : He.DefD := ⟨("Ladder", some "__init__"), "__init__", "Ladder.__init__", defArgs s_Ladder_init, defBody s_Ladder_init, defScope s_Ladder_init, [.str "up", .non, .non], []⟩
def h_Ladder_len : He.DefD := ⟨("Ladder", some "__len__"), "__len__", "Ladder.__len__", defArgs s_Ladder_len, defBody s_Ladder_len, defScope s_Ladder_len, [], []⟩
def h_Ladder_size : He.DefD := ⟨("Ladder", some "size"), "size", "Ladder.size", defArgs s_Ladder_size, defBody s_Ladder_size, defScope s_Ladder_size, [], []⟩
def h_Ladder_stretch : He.DefD := ⟨("Ladder", some "stretch"), "stretch", "Ladder.stretch", defArgs s_Ladder_stretch, defBody s_Ladder_stretch, defScope s_Ladder_stretch, [], []⟩
def h_shared_by : He.DefD := ⟨("shared_by", none), "shared_by", "shared_by", defArgs s_shared_by, defBody s_shared_by, defScope s_shared_by, [], []⟩
def h_common_measures : He.DefD := ⟨("common_measures", none), "common_measures", "common_measures", defArgs s_common_measures, defBody s_common_measures, defScope s_common_measures, [], []⟩
def h_led : He.DefD := ⟨("led", none), "led", "led", defArgs s_led, defBody s_led, defScope s_led, [], []⟩
def h_led_paper : He.DefD := ⟨("led_paper", none), "led_paper", "led_paper", defArgs s_led_paper, defBody s_led_paper, defScope s_led_paper, [], []⟩
def h_comes_to : He.DefD := ⟨("comes_to", none), "comes_to", "comes_to", defArgs s_comes_to, defBody s_comes_to, defScope s_comes_to, [], []⟩
def h_is_paper : He.DefD := ⟨("is_paper", none), "is_paper", "is_paper", defArgs s_is_paper, defBody s_is_paper, defScope s_is_paper, [], []⟩
def h_shows_led : He.DefD := ⟨("shows_led", none), "shows_led", "shows_led", defArgs s_shows_led, defBody s_shows_led, defScope s_shows_led, [], []⟩
def h_l_begin : He.DefD := ⟨("_law_begin", none), "_law_begin", "_law_begin", defArgs s_l_begin, defBody s_l_begin, defScope s_l_begin, [], []⟩
def h_l_pick : He.DefD := ⟨("_law_pick", none), "_law_pick", "_law_pick", defArgs s_l_pick, defBody s_l_pick, defScope s_l_pick, [], []⟩
def h_l_of : He.DefD := ⟨("_law_of", none), "_law_of", "_law_of", defArgs s_l_of, defBody s_l_of, defScope s_l_of, [], []⟩
def h_l_parts : He.DefD := ⟨("_law_parts", none), "_law_parts", "_law_parts", defArgs s_l_parts, defBody s_l_parts, defScope s_l_parts, [], []⟩
def h_l_less : He.DefD := ⟨("_law_less", none), "_law_less", "_law_less", defArgs s_l_less, defBody s_l_less, defScope s_l_less, [], []⟩
def h_l_plus : He.DefD := ⟨("_law_plus", none), "_law_plus", "_law_plus", defArgs s_l_plus, defBody s_l_plus, defScope s_l_plus, [], []⟩
def h_l_mid : He.DefD := ⟨("_law_mid", none), "_law_mid", "_law_mid", defArgs s_l_mid, defBody s_l_mid, defScope s_l_mid, [], []⟩
def h_l_drawn : He.DefD := ⟨("_law_drawn", none), "_law_drawn", "_law_drawn", defArgs s_l_drawn, defBody s_l_drawn, defScope s_l_drawn, [], []⟩
def h_l_made : He.DefD := ⟨("_law_made", none), "_law_made", "_law_made", defArgs s_l_made, defBody s_l_made, defScope s_l_made, [], []⟩
def h_l_scaled : He.DefD := ⟨("_law_scaled", none), "_law_scaled", "_law_scaled", defArgs s_l_scaled, defBody s_l_scaled, defScope s_l_scaled, [], []⟩
def h_l_ladders : He.DefD := ⟨("_law_ladders", none), "_law_ladders", "_law_ladders", defArgs s_l_ladders, defBody s_l_ladders, defScope s_l_ladders, [], []⟩
def h_l_rising : He.DefD := ⟨("_law_rising", none), "_law_rising", "_law_rising", defArgs s_l_rising, defBody s_l_rising, defScope s_l_rising, [], []⟩
def h_l_points : He.DefD := ⟨("_law_points", none), "_law_points", "_law_points", defArgs s_l_points, defBody s_l_points, defScope s_l_points, [], []⟩
def h_l_right : He.DefD := ⟨("_law_right", none), "_law_right", "_law_right", defArgs s_l_right, defBody s_l_right, defScope s_l_right, [], []⟩
def h_law : He.DefD := ⟨("law", none), "law", "law", defArgs s_law, defBody s_law, defScope s_law, [], []⟩
def fn : List He.DefD := [h_is_whole, h_is_tuple_of, h_are_wholes, h_common_part, h_Measure_init, h_Measure_eq, h_Measure_plus, h_Measure_minus, h_Measure_parted, h_Measure_is_below, h_is_measure_or_none, h_slip_of, h_is_empty, h_cut_low, h_cut_high, h_some_measure, h_Stretch_init, h_Stretch_shared, h_Stretch_cut, h_are_marks, h_is_rule, h_is_span, h_midsts_of, h_size_by_rule, h_end_at, h_stretch_by_rule, h_has_size, h_Ladder_init, h_Ladder_len, h_Ladder_size, h_Ladder_stretch, h_shared_by, h_common_measures, h_led, h_led_paper, h_comes_to, h_is_paper, h_shows_led, h_l_begin, h_l_pick, h_l_of, h_l_parts, h_l_less, h_l_plus, h_l_mid, h_l_drawn, h_l_made, h_l_scaled, h_l_ladders, h_l_rising, h_l_points, h_l_right, h_law]
def fa : List He.Fa := [.glo "is_whole", .glo "is_tuple_of", .glo "are_wholes", .glo "common_part", .glo "is_measure_or_none", .glo "slip_of", .glo "is_empty", .glo "cut_low", .glo "cut_high", .glo "some_measure", .glo "are_marks", .glo "is_rule", .glo "is_span", .glo "midsts_of", .glo "size_by_rule", .glo "end_at", .glo "stretch_by_rule", .glo "has_size", .glo "shared_by", .glo "common_measures", .glo "led", .glo "led_paper", .glo "comes_to", .glo "is_paper", .glo "shows_led", .glo "_law_begin", .glo "_law_pick", .glo "_law_of", .glo "_law_parts", .glo "_law_less", .glo "_law_plus", .glo "_law_mid", .glo "_law_drawn", .glo "_law_made", .glo "_law_scaled", .glo "_law_ladders", .glo "_law_rising", .glo "_law_points", .glo "_law_right", .glo "law", .glo "Measure", .glo "Stretch", .glo "Ladder", .glo "RULES", .int "MOST_MARKS" 24, .free "abs", .free "all", .free "bool", .free "enumerate", .free "int", .free "isinstance", .free "len", .free "list", .free "max", .free "min", .free "range", .free "sorted", .free "str", .free "tuple", .free "zip", .cls "Measure", .noat "Measure" "top", .noat "Measure" "bottom", .meth "Measure" "__eq__", .meth "Measure" "plus", .meth "Measure" "minus", .meth "Measure" "parted", .meth "Measure" "is_below", .mkr "Measure", .cls "Stretch", .noat "Stretch" "low", .noat "Stretch" "high", .noat "Stretch" "low_in", .noat "Stretch" "high_in", .meth "Stretch" "shared", .meth "Stretch" "cut", .mkr "Stretch", .cls "Ladder", .noat "Ladder" "marks", .noat "Ladder" "rule", .noat "Ladder" "least", .noat "Ladder" "most", .meth "Ladder" "__len__", .meth "Ladder" "size", .meth "Ladder" "stretch", .mkr "Ladder"]
abbrev R : PySem.W.OpenRow := PySem.W.OpenLaw.row PySem.Challenge.rw_sizeladders_k29_whole_a_measure_in_commo
def ex : List (PySem.W.Frag → Bool) := [isCB "Measure", isCB "Stretch", isCB "Ladder", eqCB "Measure", tupB "RULES" ["up", "down", "near"], kitF (.inl "Measure") (.inl "Measure") true, kitF (.inl "Stretch") (.inl "Stretch") true, kitF (.inl "Measure") (.inl "Stretch") false, kitF (.inl "Stretch") (.inl "Measure") false, kitF (.inl "Ladder") (.inl "Ladder") true, kitF (.inr "int") (.inl "Measure") false, kitF (.inr "str") (.inl "Measure") false, kitF (.inr "NoneType") (.inl "Measure") false, kitF (.inr "tuple") (.inl "Measure") false, kitF (.inl "Measure") (.inr "tuple") false]
abbrev hk : PySem.W.Hook := hookL asL fa fn ex
def ob (s : PySem.W.SharedT) : He.AlD × Bool := obsL asL fa fn ex (HandSHeadRun.getT s)
theorem ob_eq (s : PySem.W.SharedT) : ob s = hk.obs s.abs := obsL_eq (HandSHeadRun.getT_eq s)
theorem run (w : World) : HandSHeadRun.RunEq R (PySem.W.view R.prog [64]) hk ob 20000 [("_wall" : PySem.Str), ("is_whole" : PySem.Str), ("is_tuple_of" : PySem.Str), ("are_wholes" : PySem.Str), ("LadderError" : PySem.Str), ("NoMeasure" : PySem.Str), ("NoStretch" : PySem.Str), ("NoLadder" : PySem.Str), ("Slip" : PySem.Str), ("LandError" : PySem.Str), ("NoSize" : PySem.Str), ("NoBottom" : PySem.Str), ("common_part" : PySem.Str), ("written" : PySem.Str), ("Measure" : PySem.Str), ("is_measure_or_none" : PySem.Str), ("slip_of" : PySem.Str), ("is_empty" : PySem.Str), ("end_text" : PySem.Str), ("cut_low" : PySem.Str), ("cut_high" : PySem.Str), ("some_measure" : PySem.Str), ("Stretch" : PySem.Str), ("MOST_MARKS" : PySem.Str), ("RULES" : PySem.Str), ("are_marks" : PySem.Str), ("is_rule" : PySem.Str), ("is_span" : PySem.Str), ("midsts_of" : PySem.Str), ("size_by_rule" : PySem.Str), ("end_at" : PySem.Str), ("stretch_by_rule" : PySem.Str), ("has_size" : PySem.Str), ("bound_text" : PySem.Str), ("Ladder" : PySem.Str), ("shared_by" : PySem.Str), ("common_measures" : PySem.Str), ("led" : PySem.Str), ("led_paper" : PySem.Str), ("comes_to" : PySem.Str), ("is_paper" : PySem.Str), ("shows_led" : PySem.Str), ("_law_begin" : PySem.Str), ("_law_pick" : PySem.Str), ("_law_of" : PySem.Str), ("_law_parts" : PySem.Str), ("_law_less" : PySem.Str), ("_law_plus" : PySem.Str), ("_law_mid" : PySem.Str), ("_law_drawn" : PySem.Str), ("_law_made" : PySem.Str), ("_law_scaled" : PySem.Str), ("_law_ladders" : PySem.Str), ("_law_rising" : PySem.Str), ("_law_points" : PySem.Str), ("_law_right" : PySem.Str)] w := by
  intro os
  kernel_rfl

end K29
namespace K29
open PySem PySem.Spec PyProof.Rows L2 My
theorem facts {K : PySem.W.Frag} {h : Heap} {mg : Str → Option Value} (X : K.In h) (G : h.Ns mainGlobals mg) (c : He.SaysD fa fn K) (cx : (ex.all fun f => f K) = true) : ∃ φ : Fds, Txt K mg φ := by
  obtain ⟨d0, F0⟩ := c.def_ 0 (d := h_is_whole) rfl
  obtain ⟨d1, F1⟩ := c.def_ 1 (d := h_is_tuple_of) rfl
  obtain ⟨d2, F2⟩ := c.def_ 2 (d := h_are_wholes) rfl
  obtain ⟨d3, F3⟩ := c.def_ 3 (d := h_common_part) rfl
  obtain ⟨d4, F4⟩ := c.def_ 4 (d := h_Measure_init) rfl
  obtain ⟨d5, F5⟩ := c.def_ 5 (d := h_Measure_eq) rfl
  obtain ⟨d6, F6⟩ := c.def_ 6 (d := h_Measure_plus) rfl
  obtain ⟨d7, F7⟩ := c.def_ 7 (d := h_Measure_minus) rfl
  obtain ⟨d8, F8⟩ := c.def_ 8 (d := h_Measure_parted) rfl
  obtain ⟨d9, F9⟩ := c.def_ 9 (d := h_Measure_is_below) rfl
  obtain ⟨d10, F10⟩ := c.def_ 10 (d := h_is_measure_or_none) rfl
  obtain ⟨d11, F11⟩ := c.def_ 11 (d := h_slip_of) rfl
  obtain ⟨d12, F12⟩ := c.def_ 12 (d := h_is_empty) rfl
  obtain ⟨d13, F13⟩ := c.def_ 13 (d := h_cut_low) rfl
  obtain ⟨d14, F14⟩ := c.def_ 14 (d := h_cut_high) rfl
  obtain ⟨d15, F15⟩ := c.def_ 15 (d := h_some_measure) rfl
  obtain ⟨d16, F16⟩ := c.def_ 16 (d := h_Stretch_init) rfl
  obtain ⟨d17, F17⟩ := c.def_ 17 (d := h_Stretch_shared) rfl
  obtain ⟨d18, F18⟩ := c.def_ 18 (d := h_Stretch_cut) rfl
  obtain ⟨d19, F19⟩ := c.def_ 19 (d := h_are_marks) rfl
  obtain ⟨d20, F20⟩ := c.def_ 20 (d := h_is_rule) rfl
  obtain ⟨d21, F21⟩ := c.def_ 21 (d := h_is_span) rfl
  obtain ⟨d22, F22⟩ := c.def_ 22 (d := h_midsts_of) rfl
  obtain ⟨d23, F23⟩ := c.def_ 23 (d := h_size_by_rule) rfl
  obtain ⟨d24, F24⟩ := c.def_ 24 (d := h_end_at) rfl
  obtain ⟨d25, F25⟩ := c.def_ 25 (d := h_stretch_by_rule) rfl
  obtain ⟨d26, F26⟩ := c.def_ 26 (d := h_has_size) rfl
  obtain ⟨d27, F27⟩ := c.def_ 27 (d := h_Ladder_init) rfl
  obtain ⟨d28, F28⟩ := c.def_ 28 (d := h_Ladder_len) rfl
  obtain ⟨d29, F29⟩ := c.def_ 29 (d := h_Ladder_size) rfl
  obtain ⟨d30, F30⟩ := c.def_ 30 (d := h_Ladder_stretch) rfl
  obtain ⟨d31, F31⟩ := c.def_ 31 (d := h_shared_by) rfl
  obtain ⟨d32, F32⟩ := c.def_ 32 (d := h_common_measures) rfl
  obtain ⟨d33, F33⟩ := c.def_ 33 (d := h_led) rfl
  obtain ⟨d34, F34⟩ := c.def_ 34 (d := h_led_paper) rfl
  obtain ⟨d35, F35⟩ := c.def_ 35 (d := h_comes_to) rfl
  obtain ⟨d36, F36⟩ := c.def_ 36 (d := h_is_paper) rfl
  obtain ⟨d37, F37⟩ := c.def_ 37 (d := h_shows_led) rfl
  obtain ⟨d38, F38⟩ := c.def_ 38 (d := h_l_begin) rfl
  obtain ⟨d39, F39⟩ := c.def_ 39 (d := h_l_pick) rfl
  obtain ⟨d40, F40⟩ := c.def_ 40 (d := h_l_of) rfl
  obtain ⟨d41, F41⟩ := c.def_ 41 (d := h_l_parts) rfl
  obtain ⟨d42, F42⟩ := c.def_ 42 (d := h_l_less) rfl
  obtain ⟨d43, F43⟩ := c.def_ 43 (d := h_l_plus) rfl
  obtain ⟨d44, F44⟩ := c.def_ 44 (d := h_l_mid) rfl
  obtain ⟨d45, F45⟩ := c.def_ 45 (d := h_l_drawn) rfl
  obtain ⟨d46, F46⟩ := c.def_ 46 (d := h_l_made) rfl
  obtain ⟨d47, F47⟩ := c.def_ 47 (d := h_l_scaled) rfl
  obtain ⟨d48, F48⟩ := c.def_ 48 (d := h_l_ladders) rfl
  obtain ⟨d49, F49⟩ := c.def_ 49 (d := h_l_rising) rfl
  obtain ⟨d50, F50⟩ := c.def_ 50 (d := h_l_points) rfl
  obtain ⟨d51, F51⟩ := c.def_ 51 (d := h_l_right) rfl
  obtain ⟨d52, F52⟩ := c.def_ 52 (d := h_law) rfl
  refine ⟨⟨d0, d1, d2, d3, d4, d5, d6, d7, d8, d9, d10, d11, d12, d13, d14, d15, d16, d17, d18, d19, d20, d21, d22, d23, d24, d25, d26, d27, d28, d29, d30, d31, d32, d33, d34, d35, d36, d37, d38, d39, d40, d41, d42, d43, d44, d45, d46, d47, d48, d49, d50, d51, d52⟩, ?_⟩
  exact {
    g_is_whole := He.glo_ok X G (c.fact 0 (f := .glo "is_whole") rfl),
    g_is_tuple_of := He.glo_ok X G (c.fact 1 (f := .glo "is_tuple_of") rfl),
    g_are_wholes := He.glo_ok X G (c.fact 2 (f := .glo "are_wholes") rfl),
    g_common_part := He.glo_ok X G (c.fact 3 (f := .glo "common_part") rfl),
    g_is_measure_or_none := He.glo_ok X G (c.fact 4 (f := .glo "is_measure_or_none") rfl),
    g_slip_of := He.glo_ok X G (c.fact 5 (f := .glo "slip_of") rfl),
    g_is_empty := He.glo_ok X G (c.fact 6 (f := .glo "is_empty") rfl),
    g_cut_low := He.glo_ok X G (c.fact 7 (f := .glo "cut_low") rfl),
    g_cut_high := He.glo_ok X G (c.fact 8 (f := .glo "cut_high") rfl),
    g_some_measure := He.glo_ok X G (c.fact 9 (f := .glo "some_measure") rfl),
    g_are_marks := He.glo_ok X G (c.fact 10 (f := .glo "are_marks") rfl),
    g_is_rule := He.glo_ok X G (c.fact 11 (f := .glo "is_rule") rfl),
    g_is_span := He.glo_ok X G (c.fact 12 (f := .glo "is_span") rfl),
    g_midsts_of := He.glo_ok X G (c.fact 13 (f := .glo "midsts_of") rfl),
    g_size_by_rule := He.glo_ok X G (c.fact 14 (f := .glo "size_by_rule") rfl),
    g_end_at := He.glo_ok X G (c.fact 15 (f := .glo "end_at") rfl),
    g_stretch_by_rule := He.glo_ok X G (c.fact 16 (f := .glo "stretch_by_rule") rfl),
    g_has_size := He.glo_ok X G (c.fact 17 (f := .glo "has_size") rfl),
    g_shared_by := He.glo_ok X G (c.fact 18 (f := .glo "shared_by") rfl),
    g_common_measures := He.glo_ok X G (c.fact 19 (f := .glo "common_measures") rfl),
    g_led := He.glo_ok X G (c.fact 20 (f := .glo "led") rfl),
    g_led_paper := He.glo_ok X G (c.fact 21 (f := .glo "led_paper") rfl),
    g_comes_to := He.glo_ok X G (c.fact 22 (f := .glo "comes_to") rfl),
    g_is_paper := He.glo_ok X G (c.fact 23 (f := .glo "is_paper") rfl),
    g_shows_led := He.glo_ok X G (c.fact 24 (f := .glo "shows_led") rfl),
    g_l_begin := He.glo_ok X G (c.fact 25 (f := .glo "_law_begin") rfl),
    g_l_pick := He.glo_ok X G (c.fact 26 (f := .glo "_law_pick") rfl),
    g_l_of := He.glo_ok X G (c.fact 27 (f := .glo "_law_of") rfl),
    g_l_parts := He.glo_ok X G (c.fact 28 (f := .glo "_law_parts") rfl),
    g_l_less := He.glo_ok X G (c.fact 29 (f := .glo "_law_less") rfl),
    g_l_plus := He.glo_ok X G (c.fact 30 (f := .glo "_law_plus") rfl),
    g_l_mid := He.glo_ok X G (c.fact 31 (f := .glo "_law_mid") rfl),
    g_l_drawn := He.glo_ok X G (c.fact 32 (f := .glo "_law_drawn") rfl),
    g_l_made := He.glo_ok X G (c.fact 33 (f := .glo "_law_made") rfl),
    g_l_scaled := He.glo_ok X G (c.fact 34 (f := .glo "_law_scaled") rfl),
    g_l_ladders := He.glo_ok X G (c.fact 35 (f := .glo "_law_ladders") rfl),
    g_l_rising := He.glo_ok X G (c.fact 36 (f := .glo "_law_rising") rfl),
    g_l_points := He.glo_ok X G (c.fact 37 (f := .glo "_law_points") rfl),
    g_l_right := He.glo_ok X G (c.fact 38 (f := .glo "_law_right") rfl),
    g_law := He.glo_ok X G (c.fact 39 (f := .glo "law") rfl),
    g_Measure := He.glo_ok X G (c.fact 40 (f := .glo "Measure") rfl),
    g_Stretch := He.glo_ok X G (c.fact 41 (f := .glo "Stretch") rfl),
    g_Ladder := He.glo_ok X G (c.fact 42 (f := .glo "Ladder") rfl),
    g_RULES := He.glo_ok X G (c.fact 43 (f := .glo "RULES") rfl),
    v_MOST_MARKS := He.int_ok X G (c.fact 44 (f := .int "MOST_MARKS" 24) rfl),
    z_abs := He.free_ok X G (c.fact 45 (f := .free "abs") rfl),
    z_all := He.free_ok X G (c.fact 46 (f := .free "all") rfl),
    z_bool := He.free_ok X G (c.fact 47 (f := .free "bool") rfl),
    z_enumerate := He.free_ok X G (c.fact 48 (f := .free "enumerate") rfl),
    z_int := He.free_ok X G (c.fact 49 (f := .free "int") rfl),
    z_isinstance := He.free_ok X G (c.fact 50 (f := .free "isinstance") rfl),
    z_len := He.free_ok X G (c.fact 51 (f := .free "len") rfl),
    z_list := He.free_ok X G (c.fact 52 (f := .free "list") rfl),
    z_max := He.free_ok X G (c.fact 53 (f := .free "max") rfl),
    z_min := He.free_ok X G (c.fact 54 (f := .free "min") rfl),
    z_range := He.free_ok X G (c.fact 55 (f := .free "range") rfl),
    z_sorted := He.free_ok X G (c.fact 56 (f := .free "sorted") rfl),
    z_str := He.free_ok X G (c.fact 57 (f := .free "str") rfl),
    z_tuple := He.free_ok X G (c.fact 58 (f := .free "tuple") rfl),
    z_zip := He.free_ok X G (c.fact 59 (f := .free "zip") rfl),
    cl_Measure := He.cls_ok (c.fact 60 (f := .cls "Measure") rfl),
    na_Measure_top := He.noat_ok (c.fact 61 (f := .noat "Measure" "top") rfl),
    na_Measure_bottom := He.noat_ok (c.fact 62 (f := .noat "Measure" "bottom") rfl),
    me_Measure_eq := He.meth_ok (c.fact 63 (f := .meth "Measure" "__eq__") rfl),
    me_Measure_plus := He.meth_ok (c.fact 64 (f := .meth "Measure" "plus") rfl),
    me_Measure_minus := He.meth_ok (c.fact 65 (f := .meth "Measure" "minus") rfl),
    me_Measure_parted := He.meth_ok (c.fact 66 (f := .meth "Measure" "parted") rfl),
    me_Measure_is_below := He.meth_ok (c.fact 67 (f := .meth "Measure" "is_below") rfl),
    mk_Measure := He.mkr_ok (c.fact 68 (f := .mkr "Measure") rfl),
    cl_Stretch := He.cls_ok (c.fact 69 (f := .cls "Stretch") rfl),
    na_Stretch_low := He.noat_ok (c.fact 70 (f := .noat "Stretch" "low") rfl),
    na_Stretch_high := He.noat_ok (c.fact 71 (f := .noat "Stretch" "high") rfl),
    na_Stretch_low_in := He.noat_ok (c.fact 72 (f := .noat "Stretch" "low_in") rfl),
    na_Stretch_high_in := He.noat_ok (c.fact 73 (f := .noat "Stretch" "high_in") rfl),
    me_Stretch_shared := He.meth_ok (c.fact 74 (f := .meth "Stretch" "shared") rfl),
    me_Stretch_cut := He.meth_ok (c.fact 75 (f := .meth "Stretch" "cut") rfl),
    mk_Stretch := He.mkr_ok (c.fact 76 (f := .mkr "Stretch") rfl),
    cl_Ladder := He.cls_ok (c.fact 77 (f := .cls "Ladder") rfl),
    na_Ladder_marks := He.noat_ok (c.fact 78 (f := .noat "Ladder" "marks") rfl),
    na_Ladder_rule := He.noat_ok (c.fact 79 (f := .noat "Ladder" "rule") rfl),
    na_Ladder_least := He.noat_ok (c.fact 80 (f := .noat "Ladder" "least") rfl),
    na_Ladder_most := He.noat_ok (c.fact 81 (f := .noat "Ladder" "most") rfl),
    me_Ladder_len := He.meth_ok (c.fact 82 (f := .meth "Ladder" "__len__") rfl),
    me_Ladder_size := He.meth_ok (c.fact 83 (f := .meth "Ladder" "size") rfl),
    me_Ladder_stretch := He.meth_ok (c.fact 84 (f := .meth "Ladder" "stretch") rfl),
    mk_Ladder := He.mkr_ok (c.fact 85 (f := .mkr "Ladder") rfl),
    ii_Measure := isC_ok (ex_at cx 0 (f := isCB "Measure") rfl),
    ii_Stretch := isC_ok (ex_at cx 1 (f := isCB "Stretch") rfl),
    ii_Ladder := isC_ok (ex_at cx 2 (f := isCB "Ladder") rfl),
    ec_Measure := eqC_ok (ex_at cx 3 (f := eqCB "Measure") rfl),
    tp_RULES := tup_ok (ex_at cx 4 (f := tupB "RULES" ["up", "down", "near"]) rfl),
    k_Measure_Measure := kitF_ok (ex_at cx 5 (f := kitF (.inl "Measure") (.inl "Measure") true) rfl),
    k_Stretch_Stretch := kitF_ok (ex_at cx 6 (f := kitF (.inl "Stretch") (.inl "Stretch") true) rfl),
    k_Measure_Stretch := kitF_ok (ex_at cx 7 (f := kitF (.inl "Measure") (.inl "Stretch") false) rfl),
    k_Stretch_Measure := kitF_ok (ex_at cx 8 (f := kitF (.inl "Stretch") (.inl "Measure") false) rfl),
    k_Ladder_Ladder := kitF_ok (ex_at cx 9 (f := kitF (.inl "Ladder") (.inl "Ladder") true) rfl),
    k_int_Measure := kitF_ok (ex_at cx 10 (f := kitF (.inr "int") (.inl "Measure") false) rfl),
    k_str_Measure := kitF_ok (ex_at cx 11 (f := kitF (.inr "str") (.inl "Measure") false) rfl),
    k_NoneType_Measure := kitF_ok (ex_at cx 12 (f := kitF (.inr "NoneType") (.inl "Measure") false) rfl),
    k_tuple_Measure := kitF_ok (ex_at cx 13 (f := kitF (.inr "tuple") (.inl "Measure") false) rfl),
    k_Measure_tuple := kitF_ok (ex_at cx 14 (f := kitF (.inl "Measure") (.inr "tuple") false) rfl),
    f_is_whole := F0,
    f_is_tuple_of := F1,
    f_are_wholes := F2,
    f_common_part := F3,
    f_Measure_init := F4,
    f_Measure_eq := F5,
    f_Measure_plus := F6,
    f_Measure_minus := F7,
    f_Measure_parted := F8,
    f_Measure_is_below := F9,
    f_is_measure_or_none := F10,
    f_slip_of := F11,
    f_is_empty := F12,
    f_cut_low := F13,
    f_cut_high := F14,
    f_some_measure := F15,
    f_Stretch_init := F16,
    f_Stretch_shared := F17,
    f_Stretch_cut := F18,
    f_are_marks := F19,
    f_is_rule := F20,
    f_is_span := F21,
    f_midsts_of := F22,
    f_size_by_rule := F23,
    f_end_at := F24,
    f_stretch_by_rule := F25,
    f_has_size := F26,
    f_Ladder_init := F27,
    f_Ladder_len := F28,
    f_Ladder_size := F29,
    f_Ladder_stretch := F30,
    f_shared_by := F31,
    f_common_measures := F32,
    f_led := F33,
    f_led_paper := F34,
    f_comes_to := F35,
    f_is_paper := F36,
    f_shows_led := F37,
    f_l_begin := F38,
    f_l_pick := F39,
    f_l_of := F40,
    f_l_parts := F41,
    f_l_less := F42,
    f_l_plus := F43,
    f_l_mid := F44,
    f_l_drawn := F45,
    f_l_made := F46,
    f_l_scaled := F47,
    f_l_ladders := F48,
    f_l_rising := F49,
    f_l_points := F50,
    f_l_right := F51,
    f_law := F52 }
def sp_law (K : PySem.W.Frag) : Sp := fun vs H Q _ => ∃ (a : Addr) (ns : List Int), vs = [.ref a] ∧ SqL K H a (ns.map V.int) ∧ ns.length ≤ 63 ∧ ∀ H', Q (.bl true) H'

end K29
open PySem PySem.W PySem.Calls PyProof.Rows in
set_option maxRecDepth 100000 in
set_option maxHeartbeats 0 in
theorem K29.pre (hl : ∀ {P : Program} {w : World} {K : PySem.W.Frag} {mg : Str → Option Value} {base : Heap} {φ : K29.Fds} (T : K29.Txt K mg φ), L2.FnOk P w K mg base L2.CX0 12 (He.fAd K ("law", none)) φ.law K29.p_law (K29.sp_law K)) : PySem.Challenge.rw_sizeladders_k29_whole_a_measure_in_commo.Holds := by
  w_on; o_law
  refine HandSHeadRun.head_any (r := OpenLaw.row PySem.Challenge.rw_sizeladders_k29_whole_a_measure_in_commo) (q := view (OpenLaw.row PySem.Challenge.rw_sizeladders_k29_whole_a_measure_in_commo).prog [64]) (H := K29.hk) (ob := K29.ob) (M := 20000) (loose := [("_wall" : PySem.Str), ("is_whole" : PySem.Str), ("is_tuple_of" : PySem.Str), ("are_wholes" : PySem.Str), ("LadderError" : PySem.Str), ("NoMeasure" : PySem.Str), ("NoStretch" : PySem.Str), ("NoLadder" : PySem.Str), ("Slip" : PySem.Str), ("LandError" : PySem.Str), ("NoSize" : PySem.Str), ("NoBottom" : PySem.Str), ("common_part" : PySem.Str), ("written" : PySem.Str), ("Measure" : PySem.Str), ("is_measure_or_none" : PySem.Str), ("slip_of" : PySem.Str), ("is_empty" : PySem.Str), ("end_text" : PySem.Str), ("cut_low" : PySem.Str), ("cut_high" : PySem.Str), ("some_measure" : PySem.Str), ("Stretch" : PySem.Str), ("MOST_MARKS" : PySem.Str), ("RULES" : PySem.Str), ("are_marks" : PySem.Str), ("is_rule" : PySem.Str), ("is_span" : PySem.Str), ("midsts_of" : PySem.Str), ("size_by_rule" : PySem.Str), ("end_at" : PySem.Str), ("stretch_by_rule" : PySem.Str), ("has_size" : PySem.Str), ("bound_text" : PySem.Str), ("Ladder" : PySem.Str), ("shared_by" : PySem.Str), ("common_measures" : PySem.Str), ("led" : PySem.Str), ("led_paper" : PySem.Str), ("comes_to" : PySem.Str), ("is_paper" : PySem.Str), ("shows_led" : PySem.Str), ("_law_begin" : PySem.Str), ("_law_pick" : PySem.Str), ("_law_of" : PySem.Str), ("_law_parts" : PySem.Str), ("_law_less" : PySem.Str), ("_law_plus" : PySem.Str), ("_law_mid" : PySem.Str), ("_law_drawn" : PySem.Str), ("_law_made" : PySem.Str), ("_law_scaled" : PySem.Str), ("_law_ladders" : PySem.Str), ("_law_rising" : PySem.Str), ("_law_points" : PySem.Str), ("_law_right" : PySem.Str)]) (d := HandSHeadRun.topDef (OpenLaw.row PySem.Challenge.rw_sizeladders_k29_whole_a_measure_in_commo).prog 64) (kwd := []) K29.ob_eq
    (by kernel_rfl) (fun s => by kernel_rfl) K29.run (by kernel_rfl) (by kernel_rfl) (by kernel_rfl) (by rfl) (by first | assumption | decide +kernel) (by decide +kernel) ⟨rfl, rfl, rfl, rfl, rfl, by decide +kernel⟩ ?hw ?hc
  case hw => w_witness2
  case hc =>
    refine L2.walk_ofE (l := PySem.Challenge.rw_sizeladders_k29_whole_a_measure_in_commo) (n := 63) (k := 12) (x := "_law_script") (CX := L2.CX0) rfl (by decide) (by kernel_rfl) ⟨rfl, by decide, by decide⟩ ?F (fun _ _ _ _ z => z)
    intro w mg fa h Y G hmg0
    obtain ⟨K, KX, c, cx⟩ := Y
    have hmg : mg ("law" : PySem.Str) = some (.ref fa) := by
      have e : (HandSHeadRun.topDef (OpenLaw.row PySem.Challenge.rw_sizeladders_k29_whole_a_measure_in_commo).prog 64).name = ("law" : PySem.Str) := by kernel_rfl
      rw [← e]
      exact hmg0
    obtain ⟨φ, T⟩ := K29.facts KX G c cx
    have e := hmg.symm.trans T.g_law
    cases e
    have b := L2.FunD.bindsA (ps := K29.p_law) T.f_law fun _ _ _ _ _ _ us hl => match us, hl with | [_], _ => rfl
    exact ⟨K, φ.law, K29.sp_law K, KX, fun s v => b s [v] rfl, fun H a ns hl _ hS => ⟨a, ns, rfl, hS, hl, fun _ => rfl⟩, fun base _ _ => hl T⟩

namespace My
open PySem PySem.Spec PyProof.Rows L2
/-! ### enumerate of a tuple -/
theorem meets_en1 {v : Value} {o : Obj} {Hh : Heap → Prop} (B : Begins v o Hh) : Meets (Builtin.«enumerate.__new__» ⟨[.type "enumerate", v], []⟩) (fun _ R s => Hh s.heap ∧
      R (.ok (.ret (.ref (s.heap.push o).objs.size))) { s with heap := (s.heap.push o).push { cls := .type "enumerate", data := .fields #[.none, .bool false, .ref s.heap.objs.size, rawInt 0, .none, .none] } }) :=
  .of_wp fun prog w A R s hh => by
    obtain ⟨hp, g, d, tk, os⟩ := s
    obtain ⟨hb, hr⟩ := hh
    have sub := sub_enumerate
    have qi : ∀ {A' : Around} {E : Value → Shared → Prop} {Q : Value → Shared → Prop}, Q (.ref hp.objs.size) ⟨hp.push o, g, d, tk, os⟩ → wpAny (model prog w) A' (pyIter v) Q E ⟨hp, g, d, tk, os⟩ := fun q => B.iter prog w _ _ ⟨hp, g, d, tk, os⟩ _ hb q
    wp_walk using qi
    refine wpAny_stack_any fun st => wpAny_pure ?_
    split
    · rename_i c _ _ _ _ _
      cases (c == Value.type "enumerate")
      · wp_walk using qi
        exact ⟨_, rfl, hr⟩
      · wp_walk using qi
        exact ⟨_, rfl, hr⟩
    · wp_walk using qi
      exact ⟨_, rfl, hr⟩
theorem call_en1 {prog : Program} {w : World} {A : Around} {E : Value → Shared → Prop} {s : Shared} {v : Value} {o : Obj} {Hh : Heap → Prop} {Q : Value → Shared → Prop} (B : Begins v o Hh) (hb : Hh s.heap)
    (f : ∀ h', IsEnum h' (s.heap.objs.size + 1) s.heap.objs.size 0 .none → h'.get? s.heap.objs.size = some o → (∀ b u, s.heap.get? b = some u → h'.get? b = some u) → Q (.ref (s.heap.objs.size + 1)) { s with heap := h' }) :
    wpAny (model prog w) A (call (.type "enumerate") [v]) Q E s := by
  refine callType_new PySem.F.called_enumerate (by decide) (PySem.F.typeCall_enumerate_1 _) (PySem.F.newCall_enumerate_1 _) (fun ob => PySem.F.args_object_init_2 ob _) PySem.F.entry_enumerate_new (meets_en1 B) ⟨hb, ?_⟩
  have hz : (s.heap.push o).objs.size = s.heap.objs.size + 1 := Heap.size_push ..
  have en := Heap.get?_push_size (s.heap.push o) (o := { cls := .type "enumerate", data := .fields #[.none, .bool false, .ref s.heap.objs.size, rawInt 0, .none, .none] }) rfl
  show _ ∧ _
  rw [hz] at en ⊢
  exact ⟨⟨_, en, rfl⟩, f _ en (Heap.get?_push_of_some _ (Heap.get?_push_size _ B.free)) fun b u x => Heap.get?_push_of_some _ (Heap.get?_push_of_some _ x)⟩
/-- the tuple at a, its items in new pairs -/
def ItT (K : PySem.W.Frag) (a : Addr) : It :=
  ⟨fun i H => ∃ (xs : List V) (x : V), SqT K H a xs ∧ xs[i]? = some x, fun i H v H' => ∃ T x, v = .ref T ∧ H T = none ∧ H' = upd H T (.tup [.int (i : Nat), x]) ∧ ∀ xs, SqT K H a xs → xs[i]? = some x, fun i H => ∃ xs : List V, SqT K H a xs ∧ xs.length = i⟩
theorem ti_ne {h : Heap} {it a : Addr} {i : Nat} {its : Array Value} (x : h.IsTupleIter it a i) (y : h.IsTuple a its) : a ≠ it := by
  intro e
  subst e
  obtain ⟨o, e1, c1, _⟩ := x
  obtain ⟨o', e2, c2, _⟩ := y
  rw [e1] at e2
  cases e2
  rw [c1] at c2
  injection c2 with e
  exact absurd e (by decide)
theorem turn_enumT {P : Program} {w : World} {K : PySem.W.Frag} {elts : List Expr} {kk : Nat} {tpos : Pos} (a e it : Addr) :
    Turn P w K (.Tuple elts kk tpos) (ItT K a) [e, it] e (fun i h => (∃ old, IsEnum h e it ((i : Nat) : Int) old) ∧ h.IsTupleIter it a i ∧ e ≠ it ∧ e ≠ a) where
  mem := by simp
  obj := fun i h st b hb => by
    obtain ⟨⟨old, he⟩, ⟨o, ho, hc, hd⟩, _⟩ := st
    rcases (show b = e ∨ b = it by simpa using hb) with z | z
    · rw [z]; exact ⟨_, he, fun v q => nomatch q⟩
    · rw [z]; exact ⟨o, ho, fun v q => by rw [hd] at q; cases q⟩
  keep := fun i h h' st k => let ⟨⟨old, he⟩, hi, hne⟩ := st; ⟨⟨old, k e (by simp) _ he⟩, hi.at fun o q => k it (by simp) o q, hne⟩
  item := by
    intro X hP hw hK hc i pins s σ H E I hf st hg
    subst hP hw hK
    obtain ⟨⟨old, he⟩, hit, hne, hna⟩ := st
    obtain ⟨xs, x, hq, hx⟩ := hg
    obtain ⟨its, rv, p, hz⟩ := I.tuple hq
    have pT : s.heap.IsTuple a its.toArray := p
    obtain ⟨u, hu, ru⟩ := rv.get hx
    have hel : e < s.heap.objs.size := Heap.lt_size he
    have hil : it < s.heap.objs.size := by obtain ⟨_, q, _⟩ := hit; exact Heap.lt_size q
    have hi2 : i < its.toArray.size := by
      have := (List.getElem?_eq_some_iff.mp hu).1
      simpa using this
    have DD := Draws.tuple (prog := X.prog) (w := X.w) (A := X.A.in1) (I.ok.hd hc) it a (ti_ne hit pT) its.toArray
    refine wpAny_pyNext_enum_itemC DD he ⟨hit, pT⟩ hi2 hne (by simp [hne, hna]) fun y h' tk hy ho hst hT hsz hk => ?_
    have ey : y = u := by
      have : its[i]? = some y := by simpa using hy
      rw [hu] at this
      exact (Option.some.inj this).symm
    subst ey
    refine ⟨_, rfl, wpAny_letOwnedTupleGo_enum (s := { s with heap := h', toks := tk + 1 }) ho fun h'' he' sb => ?_⟩
    have hT2 : h''.get? s.heap.objs.size = some { cls := .type "tuple", data := .seq #[.int i tk, y] } := (sb.2 _ (Nat.ne_of_gt hel)).trans hT
    have new : ObjOk X.prog X.w (upd H s.heap.objs.size (.tup [.int (i : Nat), x])) h'' s.heap.objs.size (.tup [.int (i : Nat), x]) :=
      ⟨by show 2 ≤ sizeLine; decide, [.int i tk, y], .cons ⟨_, rfl⟩ (.cons ru .nil), ⟨_, hT2, rfl, _, rfl⟩⟩
    have I1 : Inv X pins σ (upd H s.heap.objs.size (.tup [.int (i : Nat), x])) { s with heap := h'', toks := tk + 1 } :=
      I.turnedNew (ch := [e, it]) (fun b ob hb q => (sb.2 b (fun z => hb (by simp [z]))).trans (hk b ob (fun z => hb (by simp [z])) (fun z => hb (by simp [z])) q)) hf (Nat.le_refl _) new
    refine ⟨.ref s.heap.objs.size, _, I1, rfl, ⟨_, x, rfl, I.hok.fresh (Nat.le_refl _), rfl, fun ys hy => by rw [I.tuple_inj hy hq]; exact hx⟩, ⟨⟨y, ?_⟩, hst.1.at fun o q => (sb.2 it (Ne.symm hne)).trans q, hne, hna⟩, fun b hb => ?_⟩
    · have e1 : ((i + 1 : Nat) : Int) = (i : Int) + 1 := by omega
      rw [e1]; exact he'
    · have hb' : b < s.heap.objs.size := by
        rcases (show b = e ∨ b = it by simpa using hb) with z | z
        · rw [z]; exact hel
        · rw [z]; exact hil
      rw [upd_ne (Nat.ne_of_lt hb')]
      exact (hf b hb).1
  done := by
    intro X hP hw hK hc i pins s σ H E I hf st hg
    subst hP hw hK
    obtain ⟨⟨old, he⟩, hit, hne, hna⟩ := st
    obtain ⟨xs, hq, hx⟩ := hg
    obtain ⟨its, rv, p, hz⟩ := I.tuple hq
    have pT : s.heap.IsTuple a its.toArray := p
    obtain ⟨f0, f1, f2, f3, f4, f5⟩ := hf it (by simp)
    have hl := rv.length
    have hi : i = its.toArray.size := by rw [List.size_toArray]; omega
    have DD := Draws.tuple (prog := X.prog) (w := X.w) (A := X.A.in1) (I.ok.hd hc) it a (ti_ne hit pT) its.toArray
    exact wpAny_pyNext_enum_endD DD he ⟨by rw [← hi]; exact hit, pT⟩ fun h' eb => ⟨rfl, I.turned (t' := s.toks) (fun b o hb q => eb b o hb q) f0 f1 f3 f4 f5⟩
  self := fun A i s Q E st h => let ⟨⟨_, he⟩, _⟩ := st; wpAny_pyIter_enum he h
def iEnumT (K : PySem.W.Frag) (ta : TA) : TI := fun σ H R => ta σ H fun vs H1 => ∃ a xs, vs = [.ref a] ∧ SqT K H1 a xs ∧ R (ItT K a) H1
theorem pi_enumT {X : Cx} {e : Expr} {ta : TA} {p pos tpos : Pos} {elts : List Expr} {kk : Nat} (hg : Gl X "enumerate") (hm : X.mg "enumerate" = none) (ha : PA X [e] ta) (hs : starEach [e] X.env = [(false, eval e X.env)] := by rfl) :
    PI X (.Tuple elts kk tpos) (.Call (.Name "enumerate" p) [e] [] pos) (iEnumT X.K ta) := by
  refine ⟨fun pins s σ H R I h => ?_⟩
  refine Call_ (ld_blt I hg hm boot_enumerate (PyProof.Rows.callWith_type1 (thn (ha.run pos pins s σ H _ I h) fun us s1 ⟨vs, H1, I1, r1, q1⟩ => ?_) hs rfl))
  obtain ⟨a, xs, ex, hq, q⟩ := q1
  subst ex
  cases r1 with
  | cons r rr =>
    cases rr
    cases r
    obtain ⟨its, rv, p', hz⟩ := I1.tuple hq
    have pT : s1.heap.IsTuple a its.toArray := p'
    have la : a < s1.heap.objs.size := by obtain ⟨_, q, _⟩ := pT; exact Heap.lt_size q
    refine call_en1 (begins_tuple a its.toArray) pT fun h' he hit hk => wpAny_pyIter_enum he ?_
    have I2 : Inv X pins σ H1 { s1 with heap := h' } := I1.kept (t' := s1.toks) hk
    refine ⟨s1.heap.objs.size + 1, [s1.heap.objs.size + 1, s1.heap.objs.size], _, _, H1, rfl, I2, turn_enumT a (s1.heap.objs.size + 1) s1.heap.objs.size, ⟨⟨.none, he⟩, ⟨_, hit, rfl, rfl⟩, Nat.succ_ne_self _, Nat.ne_of_gt (Nat.lt_succ_of_lt la)⟩, fun b hb => ?_, q⟩
    have hle : s1.heap.objs.size ≤ b := by
      rcases (show b = s1.heap.objs.size + 1 ∨ b = s1.heap.objs.size by simpa using hb) with z | z
      · rw [z]; exact Nat.le_add_right _ _
      · rw [z]; exact Nat.le_refl _
    exact I1.fpOk hle (I1.hok.fresh hle)
theorem walk_enumT {K : PySem.W.Frag} {a : Addr} {xs : List V} : Walk (ItT K a) xs.length (fun H => SqT K H a xs) (YPair (fun i => some (.int (i : Nat))) (fun i => xs[i]?)) := by
  refine ⟨fun i _ hi q => ⟨xs, xs[i], q, by simp [hi]⟩, fun _ q => ⟨xs, q, rfl⟩, fun i H v H' _ q y => ?_⟩
  obtain ⟨T, x, h1, h2, h3, h4⟩ := y
  exact ⟨T, .int (i : Nat), x, h1, h2, h3, rfl, h4 xs q⟩
section
variable {X : Cx}
/-! ### len of an own object -/
theorem call_lenO {CX : CXT} {n : Nat} {C f : Addr} {fd : FuncData} {ps : List Str} {sp : Sp} {E : XK} (F : FnOk X.prog X.w X.K X.mg X.base CX n f fd ps sp) (hm : Meth X.K C "__len__" f) (hb : Binds X.K fd ps []) (hx : Passes CX X E) (hr : Room (n + 1) X.A) :
    CallR X (.builtin "len") (fun xs H Q => ∃ x a dx fs, xs = [x] ∧ x = .ref a ∧ H a = some (.ins C dx fs) ∧ sp [.ref a] H (fun v H' => ∃ k : Nat, v = .int (k : Int) ∧ k < 1000 ∧ Q (.int (k : Int)) H') E) := by
  intro pins s σ H xs us Q I r h
  obtain ⟨x, a, dx, fs, rfl, rfl, ha, h⟩ := h
  obtain ⟨u, rfl, r1⟩ := vals1 r
  cases (show u = Value.ref a from r1)
  obtain ⟨mA, J, _⟩ := ins_get I.hok ha
  obtain ⟨od, J, _⟩ := J.look
  obtain ⟨m, hF⟩ := I.fr
  have sb : Sub X (n + 1) X.A := ⟨hr, rfl⟩
  refine PySem.W.len_K hF I.ok.mod.kin J hm.at_ hm.fn ?_
  refine thn (fn_at F hb hx sb.in1 I (vs := [.ref a]) (.cons rfl .nil) h) fun u s' q => ?_
  obtain ⟨v, H', I', rv, k, rfl, hk, q⟩ := q
  obtain ⟨t, rfl⟩ := rv
  exact ⟨⟨by omega, by omega⟩, .int (k : Int), H', I'.tok _, ⟨_, rfl⟩, q⟩
end
/-! ### max and min with a default -/
theorem ints_depth : ∀ ns : List Int, PyData.depthAll (ns.map PyData.int) ≤ 1
  | [] => by simp [PyData.depthAll]
  | n :: ns => by
    have := ints_depth ns
    simp [PyData.depthAll, PyData.depth] at this ⊢
    omega
section
variable {X : Cx} {K : PySem.W.Frag}
/-! ### xs[::k] -/
def rTupL (K : PySem.W.Frag) : List V → Hp → VK → Prop := fun xs H Q => ∃ (p : Addr) (ys : List V), xs = [.ref p] ∧ SqL K H p ys ∧ ∀ l, H l = none → Q (.ref l) (upd H l (.tup ys))
theorem tupleL (hK : X.K = K := by rfl) : CallR X (.type "tuple") (rTupL K) := by
  subst hK
  intro pins s σ H xs us Q I r h
  obtain ⟨p, ys, e, h1, h2⟩ := h
  exact call_tuple_of pins s σ H xs us Q I r ⟨p, ys, e, .inl ⟨h1, h2⟩⟩
end
theorem logS {m : Int} (h : m.natAbs < 2 ^ 60) : m.natAbs.log2 < 9000 := Nat.lt_of_lt_of_le (PySem.Flt.log2_lt_of (by decide) h) (by decide)
theorem szl {n : Nat} (h : n ≤ 1000) : n ≤ sizeLine := Nat.le_trans h (by decide)
theorem szb {n : Nat} (h : Nat.ble n 1000 = true) : n ≤ sizeLine := szl (Nat.le_of_ble_eq_true h)
theorem szs {n : Nat} (h : n < 1000) : n < sizeLine := Nat.lt_of_lt_of_le h (by decide)
theorem atI_end {xs : List V} {n : Nat} {v : V} (hn : n + 1 = xs.length) (h : xs[n]? = some v) : atI xs (-1) = some v := by
  have e : ixN xs.length (-1) = some n := by
    unfold ixN
    rw [if_neg (by decide), if_pos (by omega)]
    exact congrArg some (by omega)
  unfold atI
  rw [e]
  exact h
theorem qmk_pos {a b : Int} (h : 0 < b) : qmk a b = (a, b) := by
  have e : sgn b = 1 := by unfold sgn; rw [if_pos h]
  unfold qmk
  rw [e, Int.mul_one, Int.mul_one]
/-- a Measure is made -/
theorem q_made {C : Addr} {H : Hp} {Qa : Addr → Hp → Prop} {E : XK} {k : Nat} {a b : Int} (hb : 0 < b) (sa : Sz k a) (sb : Sz k b) (k0 : 0 < k) (k1 : k ≤ 8900) (f : ∀ (p : Addr) (H' : Hp), Same H H' → QAt C H' p k (a, b) → Qa p H') :
    ∀ x dx, H x = none → H dx = none → dx ≠ x → sp_minit C [.ref x, .int a, .int b] (upd (upd H dx (.own x)) x (.ins C dx [])) (fun v H2 => v = .non ∧ Qa x H2) E := by
  intro x dx nx nd ne
  refine ⟨x, dx, a, b, rfl, upd_same, by omega, Sz.log sb k0 (by omega), fun t u H' fr hx kp => ⟨rfl, ?_⟩⟩
  have q := q_mk (k := k) ⟨dx, hx⟩ fr (by omega) sa sb
  rw [qmk_pos hb] at q
  exact f x H' (made_same nx nd kp) q
/-! ### draws -/
end My
namespace My
open PySem PySem.Spec PyProof.Rows L2
theorem HandAt.put {H : Hp} {h l : Addr} {u : HO} {n : Nat} (a : HandAt H h n) (ne : l ≠ h) : HandAt (upd H l u) h n := by
  obtain ⟨x, y, z, h1, h2⟩ := a
  exact ⟨x, y, z, by rw [upd_ne ne.symm]; exact h1, h2⟩
theorem Kp.fresh {h l : Addr} {H H1 : Hp} (k : Kp h H H1) (hn : H1 l = none) (ne : l ≠ h) : H l = none := by
  cases e : H l with
  | none => rfl
  | some o => rw [k l o e ne] at hn; cases hn
theorem Kp.putN {h l : Addr} {H H1 : Hp} {u : HO} (k : Kp h H H1) (hn : H l = none) : Kp h H (upd H1 l u) := fun c o e n => by
  rw [upd_ne (ne_of_none e hn)]; exact k c o e n
theorem geI {n : Nat} {zs : List Int} (h : n < zs.length) : ∃ a, zs[n]? = some a := ⟨_, List.getElem?_eq_getElem h⟩
theorem mapI {ms : List Int} {n : Nat} {a : Int} (h : ms[n]? = some a) : (ms.map V.int)[n]? = some (.int a) := by rw [List.getElem?_map, h]; rfl
def optZ : Option Int → V
  | none => .non
  | some z => .int z
/-- a ladder in whole parts, as the laws draw it -/
structure LawL (H : Hp) (p : Addr) (part : Int) (ms : List Int) (r : Str) (lo hi : Option Int) : Prop where
  ob : ∃ T, H p = some (.tup [.int part, .ref T, .str r, optZ lo, optZ hi]) ∧ H T = some (.tup (ms.map V.int))
  p0 : 0 < part
  p1 : part ≤ 10007
  len0 : 0 < ms.length
  len1 : ms.length ≤ 24
  rise : ∀ (i : Nat) (a b : Int), ms[i]? = some a → ms[i + 1]? = some b → a < b
  four : ∀ m ∈ ms, m % 4 = 0
  bnd : ∀ m ∈ ms, -4000000 ≤ m ∧ m ≤ 4000000
  blo : ∀ z, lo = some z → -4000040 ≤ z ∧ z ≤ 4000040
  bhi : ∀ z, hi = some z → -4000040 ≤ z ∧ z ≤ 4000040
  rule : IsRule r
  span : ∀ a b, lo = some a → hi = some b → a ≤ b
section
variable {H H' : Hp} {p : Addr} {part : Int} {ms : List Int} {r : Str} {lo hi : Option Int}
theorem LawL.same (a : LawL H p part ms r lo hi) (s : Same H H') : LawL H' p part ms r lo hi := by
  obtain ⟨⟨T, h1, h2⟩, a1⟩ := a
  exact ⟨⟨T, s _ _ h1, s _ _ h2⟩, by assumption, by assumption, by assumption, by assumption, by assumption, by assumption, by assumption, by assumption, by assumption, by assumption, by assumption⟩
/-- the parts as fractions -/
def zq (d : Int) (ms : List Int) : List Q2 := ms.map fun m => (m, d)
def oq (d : Int) (o : Option Int) : Option Q2 := o.map fun m => (m, d)
theorem zq_get {d : Int} {ms : List Int} {i : Nat} {z : Q2} (h : (zq d ms)[i]? = some z) : ∃ m, ms[i]? = some m ∧ z = (m, d) := by
  unfold zq at h
  rw [List.getElem?_map] at h
  cases e : ms[i]? with
  | none => rw [e] at h; cases h
  | some m => rw [e] at h; exact ⟨m, rfl, (Option.some.inj h).symm⟩
theorem ltq_d {d a b : Int} (h : 0 < d) : ltq (a, d) (b, d) = decide (a < b) := by
  unfold ltq
  refine decide_eq_decide.mpr ⟨fun z => Int.lt_of_mul_lt_mul_right z (Int.le_of_lt h), fun z => Int.mul_lt_mul_of_pos_right z h⟩
theorem LawL.riseQ (a : LawL H p part ms r lo hi) : RiseQ (zq (4 * part) ms) := by
  intro i x y hx hy
  obtain ⟨m, hm, rfl⟩ := zq_get hx
  obtain ⟨m', hm', rfl⟩ := zq_get hy
  have := a.p0
  rw [ltq_d (by omega)]
  exact decide_eq_true (a.rise i m m' hm hm')
theorem LawL.spanQ (a : LawL H p part ms r lo hi) : spanB (oq (4 * part) lo) (oq (4 * part) hi) = true := by
  cases lo with
  | none => cases hi <;> rfl
  | some x =>
    cases hi with
    | none => rfl
    | some y =>
      have := a.p0
      have h := a.span x y rfl rfl
      show (!ltq (y, 4 * part) (x, 4 * part)) = true
      rw [ltq_d (by omega), decide_eq_false (by omega)]
      rfl
end
/-- whole numbers within a bound -/
def IntsB (B : Int) (xs : List V) : Prop := ∀ x ∈ xs, ∃ z : Int, x = .int z ∧ -B ≤ z ∧ z ≤ B
theorem IntsB.app {B : Int} {xs ys : List V} (a : IntsB B xs) (b : IntsB B ys) : IntsB B (xs ++ ys) := fun x h => by
  rcases List.mem_append.mp h with h | h
  · exact a x h
  · exact b x h
theorem IntsB.mono {B B' : Int} {xs : List V} (a : IntsB B xs) (l : B ≤ B') : IntsB B' xs := fun x h => by
  obtain ⟨z, e, h1, h2⟩ := a x h
  exact ⟨z, e, by omega, by omega⟩
theorem IntsB.ints {B : Int} : ∀ {xs : List V}, IntsB B xs → ∃ ys : List Int, xs = ys.map V.int ∧ ∀ y ∈ ys, -B ≤ y ∧ y ≤ B
  | [], _ => ⟨[], rfl, fun y h => by simp at h⟩
  | x :: xs, a => by
    obtain ⟨z, rfl, h1⟩ := a x (by simp)
    obtain ⟨ys, e, h2⟩ := IntsB.ints (xs := xs) fun w hw => a w (by simp [hw])
    refine ⟨z :: ys, by rw [e]; rfl, fun y hy => ?_⟩
    rcases List.mem_cons.mp hy with e | e
    · rw [e]; exact h1
    · exact h2 y e
theorem IntsB.of {B : Int} {ms : List Int} (h : ∀ m ∈ ms, -B ≤ m ∧ m ≤ B) : IntsB B (ms.map V.int) := fun x hx => by
  obtain ⟨m, hm, rfl⟩ := List.mem_map.mp hx
  exact ⟨m, rfl, h m hm⟩
/-! ### sizes by whole numbers -/
abbrev RiseI (ms : List Int) : Prop := ∀ (i : Nat) (a b : Int), ms[i]? = some a → ms[i + 1]? = some b → a < b
theorem RiseI.tail {x : Int} {ms : List Int} (h : RiseI (x :: ms)) : RiseI ms := fun i a b h1 h2 => h (i + 1) a b (by simpa using h1) (by simpa using h2)
theorem RiseI.head : ∀ {ms : List Int} {x : Int}, RiseI (x :: ms) → ∀ m ∈ ms, x < m
  | [], _, _, m, hm => by simp at hm
  | y :: ms, x, h, m, hm => by
    have h0 : x < y := h 0 x y rfl rfl
    rcases List.mem_cons.mp hm with e | e
    · rw [e]; exact h0
    · have := RiseI.head h.tail m e
      omega
theorem RiseI.lt {ms : List Int} (h : RiseI ms) : ∀ {j : Nat} {i : Nat} {a b : Int}, i < j → ms[i]? = some a → ms[j]? = some b → a < b
  | 0, _, _, _, hi, _, _ => by omega
  | j + 1, i, a, b, hi, ha, hb => by
    obtain ⟨c, hc⟩ := geI (zs := ms) (n := j) (by have := (List.getElem?_eq_some_iff.mp hb).1; omega)
    have h1 := h j c b hc hb
    by_cases e : i = j
    · subst e
      rw [ha] at hc
      cases hc
      exact h1
    · have := RiseI.lt h (show i < j by omega) ha hc
      omega
section
variable {ms : List Int} {d z : Int} {lo hi : Option Q2}
end
theorem rep_fm (n : Nat) : (List.replicate n (some (V.bl true))).filterMap _root_.id = (List.replicate n true).map V.bl := by
  induction n with
  | zero => rfl
  | succ n ih => rw [List.replicate_succ, List.replicate_succ]; simpa using ih
theorem rep_all (n : Nat) : (List.replicate n true).all _root_.id = true := by
  induction n with
  | zero => rfl
  | succ n ih => rw [List.replicate_succ]; simpa using ih
/-- the numbers from 0 on of which c holds -/
def idx (n : Nat) (c : Nat → Bool) : List Int := ((List.range n).filter c).map fun k : Nat => (k : Int)
theorem idx_mem {n : Nat} {c : Nat → Bool} {m : Int} : m ∈ idx n c ↔ ∃ k : Nat, k < n ∧ c k = true ∧ m = k := by
  unfold idx
  simp only [List.mem_map, List.mem_filter, List.mem_range]
  exact ⟨fun ⟨k, ⟨h1, h2⟩, h3⟩ => ⟨k, h1, h2, h3.symm⟩, fun ⟨k, h1, h2, h3⟩ => ⟨k, ⟨h1, h2⟩, h3.symm⟩⟩
def oIdx (n : Nat) (c : Nat → Bool) : List (Option V) := (List.range n).map fun k => if c k then some (.int (k : Int)) else none
theorem oIdx_len (n : Nat) (c : Nat → Bool) : (oIdx n c).length = n := by unfold oIdx; simp
theorem oIdx_get {n i : Nat} {c : Nat → Bool} {z : Option V} (h : (oIdx n c)[i]? = some z) : z = if c i then some (.int (i : Int)) else none := by
  unfold oIdx at h
  rw [List.getElem?_map] at h
  by_cases hi : i < n
  · rw [List.getElem?_range hi] at h
    exact (Option.some.inj h).symm
  · rw [List.getElem?_eq_none (by simpa using hi)] at h
    cases h
theorem oIdx_fm (n : Nat) (c : Nat → Bool) : (oIdx n c).filterMap _root_.id = (idx n c).map V.int := by
  unfold oIdx idx
  rw [List.filterMap_map, List.map_map]
  generalize List.range n = l
  induction l with
  | nil => rfl
  | cons x l ih =>
    rw [List.filterMap_cons, List.filter_cons]
    cases e : c x
    · simpa [e] using ih
    · simpa [e] using ih
/-! ### what the laws' own defs promise -/
end My
namespace My
open PySem PySem.Spec PyProof.Rows L2
/-! ### the stretches of a ladder's sizes -/
section
variable {X : Cx} {K : PySem.W.Frag}
/-- an item of a list or a tuple -/
def rIxLT (K : PySem.W.Frag) : R2 := fun x y H Q => ∃ (p : Addr) (xs : List V) (i : Int) (v : V), x = .ref p ∧ y = .int i ∧ (SqL K H p xs ∨ SqT K H p xs) ∧ atI xs i = some v ∧ Q v H
theorem ixs (hK : X.K = K := by rfl) : IxR X (rIxLT K) := by
  subst hK
  intro value slice pins s σ H x y v u Q I rx ry h hs
  obtain ⟨p, xs, i, w, e1, e2, hq | hq, h3, h4⟩ := h
  · exact ix_list value slice pins s σ H x y v u Q I rx ry ⟨p, xs, i, w, e1, e2, hq, h3, h4⟩ hs
  · exact ix_tup value slice pins s σ H x y v u Q I rx ry ⟨p, xs, i, w, e1, e2, hq, h3, h4⟩ hs
end
def endQ (zs : List Q2) (i : Int) : Option Q2 := if 0 ≤ i ∧ i < zs.length then zs[i.toNat]? else none
/-- both ends of a size by the rule alone, and whether they are in -/
def rulE (zs : List Q2) (r : Str) (n : Nat) : (Option Q2 × Bool) × (Option Q2 × Bool) :=
  if r = "up" then ((endQ zs ((n : Int) - 1), false), (zs[n]?, true)) else if r = "down" then ((zs[n]?, true), (endQ zs ((n : Int) + 1), false)) else ((endQ (midq zs) ((n : Int) - 1), true), (endQ (midq zs) n, false))
/-- a Stretch whose ends are these fractions -/
def StQ (CM CS : Addr) (H : Hp) (p : Addr) (x y : Option Q2 × Bool) : Prop := ∃ lo hi, StAt CM CS H p lo hi (x.2 && x.1.isSome) (y.2 && y.1.isSome) ∧ ReO lo x.1 ∧ ReO hi y.1
theorem StQ.same {CM CS p : Addr} {H H' : Hp} {x y : Option Q2 × Bool} (a : StQ CM CS H p x y) (s : Same H H') : StQ CM CS H' p x y := by
  obtain ⟨lo, hi, h1, h2, h3⟩ := a
  exact ⟨lo, hi, h1.same s, h2, h3⟩
def CutQ (CM CS : Addr) (H : Hp) (v : V) (x y : Option Q2 × Bool) : Prop := ∃ x' y', CutV CM CS H v x' y' ∧ Alike x' x ∧ Alike y' y
theorem CutQ.same {CM CS : Addr} {H H' : Hp} {v : V} {x y : Option Q2 × Bool} (a : CutQ CM CS H v x y) (s : Same H H') : CutQ CM CS H' v x y := by
  obtain ⟨x', y', h1, h2, h3⟩ := a
  exact ⟨x', y', h1.same s, h2, h3⟩
/-- both ends of a size's stretch -/
def sizE (zs : List Q2) (r : Str) (lo hi : Option Q2) (n : Nat) : (Option Q2 × Bool) × (Option Q2 × Bool) :=
  (cutLo (rulE zs r n).1.1 (rulE zs r n).1.2 lo true, cutHi (rulE zs r n).2.1 (rulE zs r n).2.2 hi true)
def sp_endat (K : PySem.W.Frag) (CM : Addr) : Sp := fun vs H Q _ => ∃ (T : Addr) (k : Nat) (ps : List V) (zs : List Q2) (i : Int), vs = [.ref T, .int i] ∧ (SqL K H T ps ∨ SqT K H T ps) ∧ Mks CM H k ps zs ∧ ∀ v, QO CM H k v (endQ zs i) → Q v H
def sp_strR (K : PySem.W.Frag) (CM CS : Addr) : Sp := fun vs H Q _ => ∃ (T : Addr) (k : Nat) (ps : List V) (zs : List Q2) (r : Str) (n : Nat), vs = [.ref T, .str r, .int n] ∧ SqT K H T ps ∧ Mks CM H k ps zs ∧ 0 < k ∧ k ≤ 1000 ∧ zs.length ≤ 24 ∧ n < zs.length ∧ RiseQ zs ∧
  ∀ (p : Addr) (H' : Hp), Same H H' → StQ CM CS H' p (rulE zs r n).1 (rulE zs r n).2 → Q (.ref p) H'
def sp_hassz (K : PySem.W.Frag) (CM CL : Addr) : Sp := fun vs H Q _ => ∃ (p : Addr) (k : Nat) (zs : List Q2) (r : Str) (lo hi : Option Q2) (n : Nat), vs = [.ref p, .int n] ∧ LadAt K CM CL H p k zs r lo hi ∧ n < zs.length ∧ Q (.bl true) H
def sp_llen (K : PySem.W.Frag) (CM CL : Addr) : Sp := fun vs H Q _ => ∃ (p : Addr) (k : Nat) (zs : List Q2) (r : Str) (lo hi : Option Q2), vs = [.ref p] ∧ LadAt K CM CL H p k zs r lo hi ∧ Q (.int (zs.length : Nat)) H
def sp_stretch (K : PySem.W.Frag) (CM CL CS : Addr) : Sp := fun vs H Q _ => ∃ (p : Addr) (k : Nat) (zs : List Q2) (r : Str) (lo hi : Option Q2) (n : Nat), vs = [.ref p, .int n] ∧ LadAt K CM CL H p k zs r lo hi ∧ 0 < k ∧ k ≤ 1000 ∧ n < zs.length ∧
  ∀ (v : V) (H' : Hp), Same H H' → CutQ CM CS H' v (sizE zs r lo hi n).1 (sizE zs r lo hi n).2 → Q v H'
/-! between neighbours there is something -/
theorem some_lt {a b : Q2} {i j : Bool} (h : ltq a b = true) : someB (some a) (some b) i j = true := by
  unfold someB
  first
    | (rw [h]; rfl)
    | (simp [h])
theorem mids_lt {a b c : Q2} (ha : 0 < a.2) (hb : 0 < b.2) (hc : 0 < c.2) (h1 : ltq a b = true) (h2 : ltq b c = true) : ltq (qhalf a b) (qhalf b c) = true := by
  have e1 := (half_lo ha hb).2.1
  have e2 := (half_lo hb hc).1
  rw [h1] at e1
  rw [h2] at e2
  have p1 : 0 < (qhalf a b).2 := by rw [qhalf_eq]; exact Int.mul_pos (Int.mul_pos ha hb) (by decide)
  have p2 : 0 < (qhalf b c).2 := by rw [qhalf_eq]; exact Int.mul_pos (Int.mul_pos hb hc) (by decide)
  exact ltq_trans hb p1 p2 e1 e2
theorem stq_made {CM CS : Addr} {H : Hp} {Qa : Addr → Hp → Prop} {E : XK} {k j : Nat} {l h : V} {a b : Option Q2} {ia ib : Bool} (ql : QO CM H k l a) (qh : QO CM H j h b) (hk : k ≤ 4000) (hj : j ≤ 4000) (so : someB a b ia ib = true)
    (f : ∀ (p : Addr) (H' : Hp), Same H H' → StQ CM CS H' p (a, ia) (b, ib) → Qa p H') :
    ∀ x dx, H x = none → H dx = none → dx ≠ x → sp_sinit CM CS [.ref x, l, h, .bl ia, .bl ib] (upd (upd H dx (.own x)) x (.ins CS dx [])) (fun v H2 => v = .non ∧ Qa x H2) E := by
  intro x dx nx nd ne
  obtain ⟨lo, m1, l1, r1⟩ := ql.low hk
  obtain ⟨hi, m2, l2, r2⟩ := qh.low hj
  have s0 : Same H (upd (upd H dx (.own x)) x (.ins CS dx [])) := fun c o e => by
    rw [upd_ne (ne_of_none e nx)]
    exact up1 nd e
  refine ⟨x, dx, l, h, lo, hi, ia, ib, rfl, upd_same, m1.same s0, m2.same s0, l1, l2, by rw [someB_congr r1 r2]; exact so, fun H' hx kp => ⟨rfl, ?_⟩⟩
  have s1 : Same H H' := made_same nx nd kp
  refine f x H' s1 ⟨lo, hi, ?_, r1, r2⟩
  have z := StAt.mk' (CM := CM) hx s1 m1 m2 l1 l2
  rw [r1.isS, r2.isS] at z
  exact z
theorem some_tt {lo hi : Option Q2} (h : spanB lo hi = true) : someB lo hi true true = true := by
  cases lo with
  | none => cases hi <;> rfl
  | some a =>
    cases hi with
    | none => rfl
    | some b =>
      have h' : ltq b a = false := by simpa [spanB] using h
      have t := lt_tri a b
      rw [h'] at t
      unfold someB
      rcases t with ⟨t1, t2, _⟩ | ⟨t1, t2, _⟩ | ⟨_, _, t3⟩
      · simp [t1, t2]
      · simp [t1, t2]
      · cases t3
/-- the fractions' bottoms are above nought -/
def PosL (zs : List Q2) : Prop := ∀ z ∈ zs, 0 < z.2
theorem Mks.posL {C : Addr} {H : Hp} {k : Nat} {ps : List V} {zs : List Q2} (m : Mks C H k ps zs) : PosL zs := fun z hz => by
  obtain ⟨i, hi⟩ := List.mem_iff_getElem?.mp hz
  obtain ⟨p, _, q⟩ := m.at hi
  exact q.pos
theorem endQ_in {zs : List Q2} {i : Int} {n : Nat} (e : i = (n : Int)) : endQ zs i = zs[n]? := by
  subst e
  unfold endQ
  by_cases h : n < zs.length
  · rw [if_pos (by omega)]; rfl
  · rw [if_neg (by omega)]
    exact (List.getElem?_eq_none (by omega)).symm
theorem endQ_none {zs : List Q2} {i : Int} (h : i < 0) : endQ zs i = none := by
  unfold endQ
  rw [if_neg (by omega)]
theorem some_up {zs : List Q2} {n : Nat} (hr : RiseQ zs) {i j : Bool} : someB (endQ zs ((n : Int) - 1)) zs[n]? i j = true := by
  cases n with
  | zero => rw [endQ_none (by omega)]; rfl
  | succ n =>
    rw [endQ_in (n := n) (by omega)]
    cases e1 : zs[n]? with
    | none => rfl
    | some a =>
      cases e2 : zs[n + 1]? with
      | none => rfl
      | some b => exact some_lt (hr n a b e1 e2)
theorem some_dn {zs : List Q2} {n : Nat} (hr : RiseQ zs) {i j : Bool} : someB zs[n]? (endQ zs ((n : Int) + 1)) i j = true := by
  rw [endQ_in (n := n + 1) (by omega)]
  cases e1 : zs[n]? with
  | none => rfl
  | some a =>
    cases e2 : zs[n + 1]? with
    | none => rfl
    | some b => exact some_lt (hr n a b e1 e2)
theorem midq_rise {zs : List Q2} (hr : RiseQ zs) (hp : PosL zs) : RiseQ (midq zs) := by
  intro i x y hx hy
  have l := (List.getElem?_eq_some_iff.mp hy).1
  rw [midq_len] at l
  obtain ⟨a, ha⟩ := ge2 (zs := zs) (n := i) (by omega)
  obtain ⟨b, hb⟩ := ge2 (zs := zs) (n := i + 1) (by omega)
  obtain ⟨c, hc⟩ := ge2 (zs := zs) (n := i + 1 + 1) (by omega)
  rw [midq_get zs i a b ha hb] at hx
  rw [midq_get zs (i + 1) b c hb hc] at hy
  cases hx; cases hy
  exact mids_lt (hp a (List.mem_of_getElem? ha)) (hp b (List.mem_of_getElem? hb)) (hp c (List.mem_of_getElem? hc)) (hr i a b ha hb) (hr (i + 1) b c hb hc)
theorem some_nr {zs : List Q2} {n : Nat} (hr : RiseQ zs) {i j : Bool} : someB (endQ zs ((n : Int) - 1)) (endQ zs (n : Int)) i j = true := by
  rw [endQ_in (n := n) rfl]
  exact some_up hr
end My
namespace My
open PySem PySem.Spec PyProof.Rows L2
/-! ### defs that are called where no text of a list or tuple is under way -/
section
variable {P : Program} {w : World} {K : PySem.W.Frag} {mg : Str → Option Value} {base : Heap} {x qual : Str} {params : Arguments} {body : List Stmt} {scope : Scope} {dvs : List V} {kws : List (Str × V)} {f : Addr} {fd : FuncData}
end
section
variable {X : Cx} {CX : CXT} {k : Nat} {f : Addr} {fd : FuncData} {ps : List Str} {sp : Sp} {dvs : List V} {ds : List Value} {E : XK} {x : Str} {p pos : Pos} {e : Expr} {es : List Expr} {t : TA}
end
/-! ### the law is called where none is under way -/
end My
namespace My
open PySem PySem.Spec PyProof.Rows L2
/-! ### tuples: sums and slices, whatever their lengths -/
section
variable {X : Cx} {K : PySem.W.Frag}
end
theorem cutV_take (xs : List V) {i : Int} {n : Nat} (e : i = (n : Int)) : cutV xs none (some i) = xs.take n := by
  subst e
  unfold cutV
  rw [HT.sIx_none, HT.sIx_nat, List.drop_zero, Nat.sub_zero]
  by_cases h : n ≤ xs.length
  · rw [Nat.min_eq_left h]
  · rw [Nat.min_eq_right (by omega), List.take_length, List.take_of_length_le (by omega)]
theorem cutV_drop (xs : List V) {i : Int} {n : Nat} (e : i = (n : Int)) : cutV xs (some i) none = xs.drop n := by
  subst e
  unfold cutV
  rw [HT.sIx_none, HT.sIx_nat]
  by_cases h : n ≤ xs.length
  · rw [Nat.min_eq_left h, List.take_of_length_le (by rw [List.length_drop]; omega)]
  · rw [Nat.min_eq_right (by omega), Nat.sub_self, List.take_zero, List.drop_eq_nil_of_le (by omega)]
theorem Mks.cut {C : Addr} {H : Hp} {k : Nat} {ps : List V} {zs : List Q2} (m : Mks C H k ps zs) (n : Nat) : Mks C H k (ps.take n ++ ps.drop (n + 1)) (zs.take n ++ zs.drop (n + 1)) := by
  have l := m.len
  refine ⟨by simp only [List.length_append, List.length_take, List.length_drop]; omega, fun i v z h1 h2 => ?_⟩
  by_cases hi : i < n ∧ i < ps.length
  · rw [List.getElem?_append_left (by rw [List.length_take]; omega), List.getElem?_take_of_lt hi.1] at h1
    rw [List.getElem?_append_left (by rw [List.length_take]; omega), List.getElem?_take_of_lt hi.1] at h2
    exact m.all i v z h1 h2
  · rw [List.getElem?_append_right (by rw [List.length_take]; omega), List.getElem?_drop] at h1
    rw [List.getElem?_append_right (by rw [List.length_take]; omega), List.getElem?_drop] at h2
    have e : (ps.take n).length = (zs.take n).length := by rw [List.length_take, List.length_take, l]
    rw [e] at h1
    exact m.all _ v z h1 h2
/-! ### rows, as the laws draw them -/
structure RowsL (H : Hp) (p : Addr) (part : Int) (ts : List Int) : Prop where
  ob : ∃ T, H p = some (.tup [.int part, .ref T]) ∧ H T = some (.tup (ts.map V.int))
  p0 : 0 < part
  p1 : part ≤ 10007
  len0 : 0 < ts.length
  len1 : ts.length ≤ 24
  bnd : ∀ t ∈ ts, -2000000 ≤ t ∧ t ≤ 2000000
theorem RowsL.same {H H' : Hp} {p : Addr} {part : Int} {ts : List Int} (a : RowsL H p part ts) (s : Same H H') : RowsL H' p part ts := by
  obtain ⟨⟨T, h1, h2⟩, a1, a2, a3, a4, a5⟩ := a
  exact ⟨⟨T, s _ _ h1, s _ _ h2⟩, a1, a2, a3, a4, a5⟩
/-! ### tuples of whole numbers as data -/
def intsD (zs : List Int) : PyData := .tuple (zs.map PyData.int)
theorem dpI {K : PySem.W.Frag} {H : Hp} : ∀ zs : List Int, DpAll K H (zs.map V.int) (zs.map PyData.int)
  | [] => .nil
  | z :: zs => .cons (.int z) (dpI zs)
theorem dpT {K : PySem.W.Frag} {H : Hp} {p : Addr} {zs : List Int} (h : H p = some (.tup (zs.map V.int))) : Dp K H (.ref p) (intsD zs) := .tup (SqT.of h) (dpI zs)
end My
namespace My
open PySem PySem.Spec PyProof.Rows L2
/-! ### a list or a tuple, walked -/
section
variable {X : Cx} {tg : Expr}
end
/-- a def that calls itself, ahead of its own promise -/
theorem fn_never {P : Program} {w : World} {K : PySem.W.Frag} {mg : Str → Option Value} {base : Heap} {CX : CXT} {k : Nat} {f : Addr} {fd : FuncData} {ps : List Str} : FnOk P w K mg base CX k f fd ps (fun _ _ _ _ => False) :=
  ⟨fun _ _ _ _ h => h.elim, fun _ _ _ _ _ _ _ _ _ _ _ _ _ h => h.elim⟩
/-! ### fractions as pairs of whole numbers -/
def TQ (H : Hp) (v : V) (k : Nat) (z : Q2) : Prop := ∃ p, v = .ref p ∧ H p = some (.tup [.int z.1, .int z.2]) ∧ 0 < z.2 ∧ Sz k z.1 ∧ Sz k z.2
section
variable {H H' : Hp} {v : V} {k j : Nat} {z : Q2}
theorem TQ.same (a : TQ H v k z) (s : Same H H') : TQ H' v k z := by
  obtain ⟨p, h1, h2, h3⟩ := a
  exact ⟨p, h1, s _ _ h2, h3⟩
theorem TQ.nl (a : TQ H v k z) (s : Nl H H') : TQ H' v k z := by
  obtain ⟨p, h1, h2, h3⟩ := a
  exact ⟨p, h1, s _ _ h2 rfl, h3⟩
theorem TQ.kp {h : Addr} {n : Nat} (a : TQ H v k z) (hh : HandAt H h n) (s : Kp h H H') : TQ H' v k z := by
  obtain ⟨p, h1, h2, h3⟩ := a
  exact ⟨p, h1, s.get hh h2 rfl, h3⟩
theorem TQ.mono (a : TQ H v k z) (l : k ≤ j) : TQ H v j z := by
  obtain ⟨p, h1, h2, h3, h4, h5⟩ := a
  exact ⟨p, h1, h2, h3, h4.mono l, h5.mono l⟩
theorem TQ.pos (a : TQ H v k z) : 0 < z.2 := by
  obtain ⟨p, h1, h2, h3, h4, h5⟩ := a
  exact h3
theorem TQ.mk {p : Addr} {a b : Int} (h : H p = some (.tup [.int a, .int b])) (hb : 0 < b) (s1 : Sz k a) (s2 : Sz k b) : TQ H (.ref p) k (a, b) := ⟨p, rfl, h, hb, s1, s2⟩
end
structure Tqs (H : Hp) (k : Nat) (vs : List V) (zs : List Q2) : Prop where
  len : vs.length = zs.length
  all : ∀ (i : Nat) (v : V) (z : Q2), vs[i]? = some v → zs[i]? = some z → TQ H v k z
section
variable {H H' : Hp} {k j : Nat} {vs : List V} {zs : List Q2}
theorem Tqs.same (m : Tqs H k vs zs) (s : Same H H') : Tqs H' k vs zs := ⟨m.len, fun i v z h1 h2 => (m.all i v z h1 h2).same s⟩
theorem Tqs.nl (m : Tqs H k vs zs) (s : Nl H H') : Tqs H' k vs zs := ⟨m.len, fun i v z h1 h2 => (m.all i v z h1 h2).nl s⟩
theorem Tqs.kp {h : Addr} {n : Nat} (m : Tqs H k vs zs) (hh : HandAt H h n) (s : Kp h H H') : Tqs H' k vs zs := ⟨m.len, fun i v z h1 h2 => (m.all i v z h1 h2).kp hh s⟩
theorem Tqs.mono (m : Tqs H k vs zs) (l : k ≤ j) : Tqs H j vs zs := ⟨m.len, fun i v z h1 h2 => (m.all i v z h1 h2).mono l⟩
theorem Tqs.at (m : Tqs H k vs zs) {i : Nat} {z : Q2} (h : zs[i]? = some z) : ∃ v, vs[i]? = some v ∧ TQ H v k z := by
  have hi : i < vs.length := by rw [m.len]; exact (List.getElem?_eq_some_iff.mp h).1
  exact ⟨_, List.getElem?_eq_getElem hi, m.all i _ z (List.getElem?_eq_getElem hi) h⟩
theorem Tqs.of (m : Tqs H k vs zs) {i : Nat} {v : V} (h : vs[i]? = some v) : ∃ z, zs[i]? = some z ∧ TQ H v k z := by
  have hi : i < zs.length := by rw [← m.len]; exact (List.getElem?_eq_some_iff.mp h).1
  exact ⟨_, List.getElem?_eq_getElem hi, m.all i v _ h (List.getElem?_eq_getElem hi)⟩
theorem Tqs.snoc (m : Tqs H k vs zs) {v : V} {z : Q2} (t : TQ H v k z) : Tqs H k (vs ++ [v]) (zs ++ [z]) := by
  refine ⟨by rw [List.length_append, List.length_append, m.len]; rfl, fun i w y h1 h2 => ?_⟩
  by_cases hi : i < vs.length
  · rw [List.getElem?_append_left hi] at h1
    rw [List.getElem?_append_left (by rw [← m.len]; exact hi)] at h2
    exact m.all i w y h1 h2
  · have l1 := (List.getElem?_eq_some_iff.mp h1).1
    rw [List.length_append, List.length_singleton] at l1
    have e : i = vs.length := by omega
    rw [e, List.getElem?_append_right (Nat.le_refl _), Nat.sub_self] at h1
    rw [e, m.len, List.getElem?_append_right (Nat.le_refl _), Nat.sub_self] at h2
    cases h1; cases h2
    exact t
theorem Tqs.one {v : V} {z : Q2} (t : TQ H v k z) : Tqs H k [v] [z] := (⟨rfl, fun i w y h1 => by simp at h1⟩ : Tqs H k [] []).snoc t
theorem Tqs.cons (m : Tqs H k vs zs) {v : V} {z : Q2} (t : TQ H v k z) : Tqs H k (v :: vs) (z :: zs) := by
  refine ⟨by rw [List.length_cons, List.length_cons, m.len], fun i w y h1 h2 => ?_⟩
  cases i with
  | zero => cases h1; cases h2; exact t
  | succ i => exact m.all i w y (by simpa using h1) (by simpa using h2)
theorem Tqs.nil : Tqs H k [] [] := ⟨rfl, fun i w y h1 => by simp at h1⟩
theorem Mks.mono {C : Addr} {ps : List V} (m : Mks C H k ps zs) (l : k ≤ j) : Mks C H j ps zs := ⟨m.len, fun i v z h1 h2 => by
  obtain ⟨p, e, q⟩ := m.all i v z h1 h2
  exact ⟨p, e, q.mono l⟩⟩
theorem QO.mono {C : Addr} {v : V} (l : k ≤ j) : ∀ {e : Option Q2}, QO C H k v e → QO C H j v e
  | none, h => h
  | some _, ⟨p, h1, h2⟩ => ⟨p, h1, h2.mono l⟩
end
theorem leq_not {a b : Q2} : leq a b = !ltq b a := by
  unfold leq ltq eqq
  rw [← Bool.decide_or, ← decide_not]
  exact decide_eq_decide.mpr ⟨fun h => by omega, fun h => by omega⟩
theorem leq_congr {a b c d : Q2} (h : Re a c) (g : Re b d) : leq a b = leq c d := by rw [leq_not, leq_not, ltq_congr g h]
theorem span_leq (a b : Q2) : spanB (some a) (some b) = (ltq a b || eqq a b) := by
  show (!ltq b a) = leq a b
  rw [leq_not]
/-! ### what the defs of pairs promise -/
def sp_span (CM : Addr) : Sp := fun vs H Q _ => ∃ (l h : V) (k : Nat) (lo hi : Option Q2), vs = [l, h] ∧ QO CM H k l lo ∧ QO CM H k h hi ∧ k ≤ 9000 ∧ Q (.bl (spanB lo hi)) H
theorem rise_ltq {zs : List Q2} (h : RiseQ zs) (hp : ∀ z ∈ zs, 0 < z.2) : ∀ {j i : Nat} {a b : Q2}, i < j → zs[i]? = some a → zs[j]? = some b → ltq a b = true
  | 0, _, _, _, hi, _, _ => by omega
  | j + 1, i, a, b, hi, ha, hb => by
    obtain ⟨c, hc⟩ := ge2 (zs := zs) (n := j) (by have := (List.getElem?_eq_some_iff.mp hb).1; omega)
    have h1 := h j c b hc hb
    by_cases e : i = j
    · subst e
      rw [ha] at hc
      cases hc
      exact h1
    · exact ltq_trans (hp c (List.mem_of_getElem? hc)) (hp a (List.mem_of_getElem? ha)) (hp b (List.mem_of_getElem? hb)) (rise_ltq h hp (show i < j by omega) ha hc) h1
theorem Tqs.posL {H : Hp} {k : Nat} {vs : List V} {zs : List Q2} (m : Tqs H k vs zs) : ∀ z ∈ zs, 0 < z.2 := fun z hz => by
  obtain ⟨i, hi⟩ := List.mem_iff_getElem?.mp hz
  obtain ⟨v, _, t⟩ := m.at hi
  exact t.pos
/-- None, or a pair -/
def TOq (H : Hp) (k : Nat) (v : V) : Option Q2 → Prop
  | none => v = .non
  | some z => TQ H v k z
theorem TOq.same {H H' : Hp} {k : Nat} {v : V} : ∀ {e : Option Q2}, TOq H k v e → Same H H' → TOq H' k v e
  | none, h, _ => h
  | some _, h, s => TQ.same h s
theorem TOq.kp {H H' : Hp} {k n : Nat} {h : Addr} {v : V} : ∀ {e : Option Q2}, TOq H k v e → HandAt H h n → Kp h H H' → TOq H' k v e
  | none, h, _, _ => h
  | some _, h, hh, s => TQ.kp h hh s
theorem QO.nl {C : Addr} {H H' : Hp} {k : Nat} {v : V} (s : Nl H H') : ∀ {e : Option Q2}, QO C H k v e → QO C H' k v e
  | none, h => h
  | some _, ⟨p, h1, h2⟩ => ⟨p, h1, h2.nl s⟩
theorem sqt_kp {K : PySem.W.Frag} {H H' : Hp} {h a : Addr} {n : Nat} {xs : List V} (s : SqT K H a xs) (hh : HandAt H h n) (k : Kp h H H') : SqT K H' a xs := by
  rcases s with (s | ⟨o, s⟩) | s
  · exact .inl (.inl (k.get hh s rfl))
  · exact .inl (.inr ⟨o, k.get hh s rfl⟩)
  · exact .inr s
theorem LadAt.kp {K : PySem.W.Frag} {CM CL p h : Addr} {H H' : Hp} {k n : Nat} {zs : List Q2} {r : Str} {lo hi : Option Q2} (a : LadAt K CM CL H p k zs r lo hi) (hh : HandAt H h n) (s : Kp h H H') : LadAt K CM CL H' p k zs r lo hi := by
  obtain ⟨⟨dx, T, ps, l, u, h1, h2, h3, h4, h5⟩, a1, a2, a3, a4, a5⟩ := a
  exact ⟨⟨dx, T, ps, l, u, s.get hh h1 rfl, sqt_kp h2 hh s, h3.kp hh s, h4.kp hh s, h5.kp hh s⟩, a1, a2, a3, a4, a5⟩
end My
namespace My
open PySem PySem.Spec PyProof.Rows L2
/-! ### comprehensions that draw -/
/-! ### things that are the same, one within another -/
def AtomV (x : V) : Prop := (∃ z : Int, x = .int z) ∨ (∃ s : Str, x = .str s) ∨ x = .non ∨ ∃ b : Bool, x = .bl b
def SameV (K : PySem.W.Frag) (H : Hp) : Nat → V → V → Prop
  | 0, x, y => x = y ∧ AtomV x
  | n + 1, x, y => (x = y ∧ AtomV x) ∨ ∃ p q xs ys, x = .ref p ∧ y = .ref q ∧ SqT K H p xs ∧ SqT K H q ys ∧ xs.length = ys.length ∧ xs.length ≤ 900 ∧ ∀ (i : Nat) (a b : V), xs[i]? = some a → ys[i]? = some b → SameV K H n a b
theorem SameV.same {K : PySem.W.Frag} {H H' : Hp} (s : Same H H') : ∀ {n : Nat} {x y : V}, SameV K H n x y → SameV K H' n x y
  | 0, _, _, h => h
  | n + 1, _, _, .inl h => .inl h
  | n + 1, _, _, .inr ⟨p, q, xs, ys, h1, h2, h3, h4, h5, h6, h7⟩ => .inr ⟨p, q, xs, ys, h1, h2, s.sqt h3, s.sqt h4, h5, h6, fun i a b ha hb => SameV.same s (h7 i a b ha hb)⟩
theorem SameV.atom {K : PySem.W.Frag} {H : Hp} {x : V} (a : AtomV x) : ∀ n, SameV K H n x x
  | 0 => ⟨rfl, a⟩
  | _ + 1 => .inl ⟨rfl, a⟩
theorem SameV.ints {K : PySem.W.Frag} {H : Hp} {p q : Addr} {ss : List Int} (n : Nat) (hp : SqT K H p (ss.map V.int)) (hq : SqT K H q (ss.map V.int)) (l : ss.length ≤ 900) : SameV K H (n + 1) (.ref p) (.ref q) :=
  .inr ⟨p, q, _, _, rfl, rfl, hp, hq, rfl, by rw [List.length_map]; exact l, fun i a b ha hb => by
    rw [ha] at hb
    cases hb
    obtain ⟨s, _, rfl⟩ := List.mem_map.mp (List.mem_of_getElem? ha)
    exact SameV.atom (.inl ⟨s, rfl⟩) n⟩
/-! ### a Grid -/
def gf (a b c : V) : List (Str × V) := [("lengths", a), ("breadths", b), ("grade", c)]
section
variable (a b c : V)
end
/-- a ladder, whatever its rule and ends -/
def LadE (K : PySem.W.Frag) (CM CL : Addr) (H : Hp) (p : Addr) (k : Nat) (zs : List Q2) : Prop := ∃ r lo hi, LadAt K CM CL H p k zs r lo hi
structure GrdAt (K : PySem.W.Frag) (CM CL CG : Addr) (H : Hp) (p : Addr) (k : Nat) (L1 L2 : Addr) (g : Q2) : Prop where
  ob : ∃ dx q, H p = some (.ins CG dx (gf (.ref L1) (.ref L2) (.ref q))) ∧ QAt CM H q k g
theorem GrdAt.same {K : PySem.W.Frag} {CM CL CG : Addr} {H H' : Hp} {p : Addr} {k : Nat} {L1 L2 : Addr} {g : Q2} (a : GrdAt K CM CL CG H p k L1 L2 g) (s : Same H H') : GrdAt K CM CL CG H' p k L1 L2 g := by
  obtain ⟨dx, q, h1, h2⟩ := a.ob
  exact ⟨dx, q, s _ _ h1, h2.same s⟩
theorem GrdAt.kp {K : PySem.W.Frag} {CM CL CG : Addr} {H H' : Hp} {p h : Addr} {k n : Nat} {L1 L2 : Addr} {g : Q2} (a : GrdAt K CM CL CG H p k L1 L2 g) (hh : HandAt H h n) (s : Kp h H H') : GrdAt K CM CL CG H' p k L1 L2 g := by
  obtain ⟨dx, q, h1, h2⟩ := a.ob
  exact ⟨dx, q, s.get hh h1 rfl, h2.kp hh s⟩
/-! ### the laws' sides of a grid -/
structure SidesAt (H : Hp) (h p : Addr) (k : Nat) (zs ys : List Q2) (g : Q2) : Prop where
  ob : ∃ l1 l2 v us ws, H p = some (.lst [.ref l1, .ref l2, v]) ∧ H l1 = some (.lst us) ∧ H l2 = some (.lst ws) ∧ Tqs H k us zs ∧ Tqs H k ws ys ∧ TQ H v 20 g ∧ p ≠ h ∧ l1 ≠ h ∧ l2 ≠ h
  l0 : 0 < zs.length
  l1 : zs.length ≤ 8
  m0 : 0 < ys.length
  m1 : ys.length ≤ 8
theorem SidesAt.same {H H' : Hp} {h p : Addr} {k : Nat} {zs ys : List Q2} {g : Q2} (a : SidesAt H h p k zs ys g) (s : Same H H') : SidesAt H' h p k zs ys g := by
  obtain ⟨⟨l1, l2, v, us, ws, a1, a2, a3, a4, a5, a6, a7⟩, b1, b2, b3, b4⟩ := a
  exact ⟨⟨l1, l2, v, us, ws, s _ _ a1, s _ _ a2, s _ _ a3, a4.same s, a5.same s, a6.same s, a7⟩, b1, b2, b3, b4⟩
theorem SidesAt.kp {H H' : Hp} {h p : Addr} {k n : Nat} {zs ys : List Q2} {g : Q2} (a : SidesAt H h p k zs ys g) (hh : HandAt H h n) (s : Kp h H H') : SidesAt H' h p k zs ys g := by
  obtain ⟨⟨l1, l2, v, us, ws, a1, a2, a3, a4, a5, a6, a7, a8, a9⟩, b1, b2, b3, b4⟩ := a
  exact ⟨⟨l1, l2, v, us, ws, s _ _ a1 a7, s _ _ a2 a8, s _ _ a3 a9, a4.kp hh s, a5.kp hh s, a6.kp hh s, a7, a8, a9⟩, b1, b2, b3, b4⟩
theorem sqt_nl {K : PySem.W.Frag} {H H' : Hp} {a : Addr} {xs : List V} (s : SqT K H a xs) (k : Nl H H') : SqT K H' a xs := by
  rcases s with (s | ⟨o, s⟩) | s
  · exact .inl (.inl (k _ _ s rfl))
  · exact .inl (.inr ⟨o, k _ _ s rfl⟩)
  · exact .inr s
end My
namespace My
open PySem PySem.Spec PyProof.Rows L2
/-! ### sizes by fractions -/
/-- f holds of the first ones alone -/
def DownQ (f : Q2 → Bool) (zs : List Q2) : Prop := ∀ (i j : Nat) (a b : Q2), i < j → zs[i]? = some a → zs[j]? = some b → f b = true → f a = true
theorem DownQ.tail {f : Q2 → Bool} {x : Q2} {zs : List Q2} (h : DownQ f (x :: zs)) : DownQ f zs := fun i j a b hij ha hb hf => h (i + 1) (j + 1) a b (by omega) (by simpa using ha) (by simpa using hb) hf
theorem cntQ (f : Q2 → Bool) : ∀ {zs : List Q2}, DownQ f zs → ∀ (k : Nat) (a : Q2), zs[k]? = some a → (f a = true ↔ k < zs.countP f)
  | [], _, k, a, h => by simp at h
  | x :: zs, hd, k, a, h => by
    rw [List.countP_cons]
    cases e : f x with
    | true =>
      rw [if_pos rfl]
      cases k with
      | zero =>
        have : x = a := by simpa using h
        subst this
        simp [e]
      | succ k =>
        have := cntQ f hd.tail k a (by simpa using h)
        rw [this]
        omega
    | false =>
      rw [if_neg (by simp)]
      have z0 : zs.countP f = 0 := by
        rw [List.countP_eq_zero]
        intro y hy q
        obtain ⟨n, hn⟩ := List.mem_iff_getElem?.mp hy
        have := hd 0 (n + 1) x y (by omega) rfl (by simpa using hn) q
        rw [e] at this
        cases this
      rw [z0]
      have fa : f a = false := by
        cases k with
        | zero =>
          have : x = a := by simpa using h
          rw [← this]; exact e
        | succ k =>
          cases q : f a with
          | false => rfl
          | true =>
            have := hd 0 (k + 1) x a (by omega) rfl h q
            rw [e] at this
            cases this
      rw [fa]
      simp
theorem down_lt {zs : List Q2} {x : Q2} (h : RiseQ zs) (hp : ∀ z ∈ zs, 0 < z.2) (hx : 0 < x.2) : DownQ (fun a => ltq a x) zs := fun i j a b hij ha hb hf =>
  ltq_trans (hp b (List.mem_of_getElem? hb)) (hp a (List.mem_of_getElem? ha)) hx (rise_ltq h hp hij ha hb) hf
theorem leq_trans_lt {a b c : Q2} (ha : 0 < a.2) (hb : 0 < b.2) (hc : 0 < c.2) (h : ltq a b = true) (g : leq b c = true) : leq a c = true := by
  rw [leq_not] at g ⊢
  have g' : ltq c b = false := by simpa using g
  cases e : ltq c a with
  | false => rfl
  | true =>
    rw [ltq_trans ha hc hb e h] at g'
    cases g'
theorem down_le {zs : List Q2} {x : Q2} (h : RiseQ zs) (hp : ∀ z ∈ zs, 0 < z.2) (hx : 0 < x.2) : DownQ (fun a => leq a x) zs := fun i j a b hij ha hb hf =>
  leq_trans_lt (hp a (List.mem_of_getElem? ha)) (hp b (List.mem_of_getElem? hb)) hx (rise_ltq h hp hij ha hb) hf
section
variable {zs : List Q2} {r : Str} {lo hi : Option Q2} {x : Q2}
end
end My
namespace My
open PySem PySem.Spec PyProof.Rows L2
/-! ### what stood ahead, wanted at a later heap: the step first -/
section
variable {K : PySem.W.Frag} {C CM CL CG p q h a L1 L2 : Addr} {H H' H1 : Hp} {v : V} {k j n : Nat} {z : Q2} {vs : List V} {zs ys : List Q2} {o : HO} {e : Option Q2} {r : Str} {lo hi : Option Q2}
theorem TQ.s (s : Same H H') (t : TQ H v k z) : TQ H' v k z := t.same s
theorem TQ.nq (s : Nl H H') (t : TQ H v k z) : TQ H' v k z := t.nl s
theorem Tqs.s (s : Same H H') (t : Tqs H k vs zs) : Tqs H' k vs zs := t.same s
theorem QAt.s (s : Same H H') (t : QAt C H p k z) : QAt C H' p k z := t.same s
theorem Mks.s (s : Same H H') (t : Mks C H k vs zs) : Mks C H' k vs zs := t.same s
theorem QO.s (s : Same H H') (t : QO C H k v e) : QO C H' k v e := t.same s
theorem TOq.s (s : Same H H') (t : TOq H k v e) : TOq H' k v e := t.same s
theorem TOq.mono (l : k ≤ j) : ∀ {e : Option Q2}, TOq H k v e → TOq H j v e
  | none, h => h
  | some _, h => TQ.mono h l
theorem LadAt.s (s : Same H H') (t : LadAt K CM CL H p k zs r lo hi) : LadAt K CM CL H' p k zs r lo hi := t.same s
theorem LadAt.mono (t : LadAt K CM CL H p k zs r lo hi) (l : k ≤ j) : LadAt K CM CL H p j zs r lo hi := by
  obtain ⟨⟨dx, T, ps, u, w, h1, h2, h3, h4, h5⟩, a1, a2, a3, a4, a5⟩ := t
  exact ⟨⟨dx, T, ps, u, w, h1, h2, h3.mono l, h4.mono l, h5.mono l⟩, a1, a2, a3, a4, a5⟩
theorem GrdAt.s (s : Same H H') (t : GrdAt K CM CL CG H p k L1 L2 z) : GrdAt K CM CL CG H' p k L1 L2 z := t.same s
theorem SidesAt.s (s : Same H H') (t : SidesAt H h p k zs ys z) : SidesAt H' h p k zs ys z := t.same s
theorem HandAt.s (s : Same H H') (t : HandAt H h n) : HandAt H' h n := t.same s
theorem TQ.u {u : HO} {b : Addr} (np : H b = none) (t : TQ H v k z) : TQ (upd H b u) v k z := t.same (same1 np)
theorem Tqs.u {u : HO} {b : Addr} (np : H b = none) (t : Tqs H k vs zs) : Tqs (upd H b u) k vs zs := t.same (same1 np)
theorem QAt.u {u : HO} {b : Addr} (np : H b = none) (t : QAt C H p k z) : QAt C (upd H b u) p k z := t.same (same1 np)
theorem Mks.u {u : HO} {b : Addr} (np : H b = none) (t : Mks C H k vs zs) : Mks C (upd H b u) k vs zs := t.same (same1 np)
theorem QO.u {u : HO} {b : Addr} (np : H b = none) (t : QO C H k v e) : QO C (upd H b u) k v e := t.same (same1 np)
theorem TOq.u {u : HO} {b : Addr} (np : H b = none) (t : TOq H k v e) : TOq (upd H b u) k v e := t.same (same1 np)
theorem LadAt.u {u : HO} {b : Addr} (np : H b = none) (t : LadAt K CM CL H p k zs r lo hi) : LadAt K CM CL (upd H b u) p k zs r lo hi := t.same (same1 np)
theorem GrdAt.u {u : HO} {b : Addr} (np : H b = none) (t : GrdAt K CM CL CG H p k L1 L2 z) : GrdAt K CM CL CG (upd H b u) p k L1 L2 z := t.same (same1 np)
theorem SidesAt.u {u : HO} {b : Addr} (np : H b = none) (t : SidesAt H h p k zs ys z) : SidesAt (upd H b u) h p k zs ys z := t.same (same1 np)
theorem HandAt.u {u : HO} {b : Addr} (np : H b = none) (t : HandAt H h n) : HandAt (upd H b u) h n := t.same (same1 np)
end
theorem dpL {K : PySem.W.Frag} {H : Hp} {p : Addr} {zs : List Int} (h : H p = some (.lst (zs.map V.int))) : Dp K H (.ref p) (.list (zs.map PyData.int)) := .lst (SqL.of h) (dpI zs)
theorem layI : ∀ zs : List Int, PyData.canLayAll0 (zs.map PyData.int) = true
  | [] => rfl
  | z :: zs => by
    show (true && PyData.canLayAll0 (zs.map PyData.int)) = true
    rw [layI zs]; rfl
theorem shL (zs : List Int) : SeqAt.shaped (.list (zs.map PyData.int)) = true := by
  have h := ints_depth zs
  have e1 : (PyData.list (zs.map PyData.int)).depth ≤ 64 := by
    show PyData.depthAll (zs.map PyData.int) + 1 ≤ 64
    omega
  have e2 : (PyData.list (zs.map PyData.int)).canLay0 = true := layI zs
  unfold SeqAt.shaped
  rw [e2, decide_eq_true e1]
  rfl
/-- each of these values is a fraction -/
def AllTQ (H : Hp) (k : Nat) (vs : List V) : Prop := ∀ x ∈ vs, ∃ z, TQ H x k z
theorem AllTQ.nil {H : Hp} {k : Nat} : AllTQ H k [] := fun x hx => by simp at hx
theorem AllTQ.cons {H : Hp} {k : Nat} {v : V} {z : Q2} {vs : List V} (t : TQ H v k z) (m : AllTQ H k vs) : AllTQ H k (v :: vs) := fun x hx => by
  rcases List.mem_cons.mp hx with e | e
  · rw [e]; exact ⟨z, t⟩
  · exact m x e
theorem AllTQ.app {H : Hp} {k : Nat} {vs ws : List V} (m : AllTQ H k vs) (m' : AllTQ H k ws) : AllTQ H k (vs ++ ws) := fun x hx => by
  rcases List.mem_append.mp hx with e | e
  · exact m x e
  · exact m' x e
/-! ### a rule, a least and a most, as the laws draw them in fractions -/
structure ChartAt (H : Hp) (T : Addr) (k : Nat) (r : Str) (lo hi : Option Q2) : Prop where
  ob : ∃ u w, H T = some (.tup [.str r, u, w]) ∧ TOq H k u lo ∧ TOq H k w hi
  rule : IsRule r
  span : spanB lo hi = true
section
variable {H H' : Hp} {T h : Addr} {k n : Nat} {r : Str} {lo hi : Option Q2}
theorem ChartAt.same (c : ChartAt H T k r lo hi) (s : Same H H') : ChartAt H' T k r lo hi := by
  obtain ⟨⟨u, w, h1, h2, h3⟩, h4, h5⟩ := c
  exact ⟨⟨u, w, s _ _ h1, h2.same s, h3.same s⟩, h4, h5⟩
theorem ChartAt.kp (c : ChartAt H T k r lo hi) (hh : HandAt H h n) (s : Kp h H H') : ChartAt H' T k r lo hi := by
  obtain ⟨⟨u, w, h1, h2, h3⟩, h4, h5⟩ := c
  exact ⟨⟨u, w, s.get hh h1 rfl, h2.kp hh s, h3.kp hh s⟩, h4, h5⟩
theorem ChartAt.u {u : HO} {b : Addr} (np : H b = none) (c : ChartAt H T k r lo hi) : ChartAt (upd H b u) T k r lo hi := c.same (same1 np)
theorem ChartAt.s (s : Same H H') (c : ChartAt H T k r lo hi) : ChartAt H' T k r lo hi := c.same s
end
def PosE (o : Option Q2) : Prop := ∀ a, o = some a → 0 < a.2
theorem midq_pos : ∀ {zs : List Q2}, (∀ z ∈ zs, 0 < z.2) → ∀ z ∈ midq zs, 0 < z.2
  | [], _, z, hz => by simp [midq] at hz
  | [_], _, z, hz => by simp [midq] at hz
  | a :: b :: r, hp, z, hz => by
    have hz' : z ∈ qhalf a b :: midq (b :: r) := hz
    rcases List.mem_cons.mp hz' with e | e
    · rw [e, qhalf_eq]
      have := hp a (by simp)
      have := hp b (by simp)
      have := Int.mul_pos (hp a (by simp)) (hp b (by simp))
      show 0 < a.2 * b.2 * 2
      omega
    · exact midq_pos (fun y hy => hp y (by simp [hy])) z e
theorem inO_congr {lo hi : Option Q2} {x x' : Q2} (hl : PosE lo) (hh : PosE hi) (h : Re x x') : inO lo hi x = inO lo hi x' := by
  have e1 : loOk lo x = loOk lo x' := by
    cases lo with
    | none => rfl
    | some a =>
      show (!ltq x a) = (!ltq x' a)
      rw [ltq_congr h (Re.refl (hl a rfl))]
  have e2 : hiOk hi x = hiOk hi x' := by
    cases hi with
    | none => rfl
    | some a =>
      show (!ltq a x) = (!ltq a x')
      rw [ltq_congr (Re.refl (hh a rfl)) h]
  unfold inO
  rw [e1, e2]
theorem sizeQ_congr {zs : List Q2} {r : Str} {lo hi : Option Q2} {x x' : Q2} (hp : ∀ z ∈ zs, 0 < z.2) (hl : PosE lo) (hh : PosE hi) (h : Re x x') : sizeQ zs r lo hi x = sizeQ zs r lo hi x' := by
  have e1 := inO_congr hl hh h
  have e2 : sizeR zs r x = sizeR zs r x' := by
    have c1 : zs.countP (fun a => ltq a x) = zs.countP (fun a => ltq a x') := List.countP_congr fun a ha => by rw [ltq_congr (Re.refl (hp a ha)) h]
    have c2 : zs.countP (fun a => leq a x) = zs.countP (fun a => leq a x') := List.countP_congr fun a ha => by rw [leq_congr (Re.refl (hp a ha)) h]
    have c3 : (midq zs).countP (fun a => leq a x) = (midq zs).countP (fun a => leq a x') := List.countP_congr fun a ha => by rw [leq_congr (Re.refl (midq_pos hp a ha)) h]
    unfold sizeR
    rw [c1, c2, c3]
  unfold sizeQ
  rw [e1, e2]
theorem sizeQ_lt {zs : List Q2} {r : Str} {lo hi : Option Q2} {x : Q2} {i : Nat} (h : sizeQ zs r lo hi x = some i) : i < zs.length := by
  unfold sizeQ at h
  split at h
  · split at h
    · rename_i c
      have e := Option.some.inj h
      omega
    · cases h
  · cases h
/-- a pair of sizes, or None -/
def OwnV (H : Hp) (v : V) : Option (Nat × Nat) → Prop
  | none => v = .non
  | some x => ∃ T, v = .ref T ∧ H T = some (.tup [.int (x.1 : Int), .int (x.2 : Int)])
theorem OwnV.s {H H' : Hp} {v : V} (s : Same H H') : ∀ {o : Option (Nat × Nat)}, OwnV H v o → OwnV H' v o
  | none, h => h
  | some _, ⟨T, h1, h2⟩ => ⟨T, h1, s _ _ h2⟩
theorem OwnV.alike {K : PySem.W.Frag} {H : Hp} {v w : V} : ∀ {o : Option (Nat × Nat)}, OwnV H v o → OwnV H w o → SameV K H 1 v w
  | none, h, g => by
    cases h; cases g
    exact SameV.atom (.inr (.inr (.inl rfl))) 1
  | some x, ⟨T, h1, h2⟩, ⟨T', g1, g2⟩ => by
    subst h1 g1
    exact SameV.ints (ss := [(x.1 : Int), (x.2 : Int)]) 0 (SqT.of h2) (SqT.of g2) (Nat.le_of_ble_eq_true rfl)
/-! ### the numbers of the marks, first and last -/
end My
namespace My
open PySem PySem.Spec PyProof.Rows L2
/-! ### cuts of three stretches -/
theorem lt_w {x y w : Int} (hw : 0 < w) : x < y ↔ x * w < y * w := ⟨fun h => Int.mul_lt_mul_of_pos_right h hw, fun h => Int.lt_of_mul_lt_mul_right h (Int.le_of_lt hw)⟩
theorem eq_w {x y w : Int} (hw : 0 < w) : x = y ↔ x * w = y * w := ⟨fun h => by rw [h], fun h => Int.eq_of_mul_eq_mul_right (by omega) h⟩
/-- three fractions by three whole numbers -/
structure Ord3 (a b c : Q2) (A B C : Int) : Prop where
  ab : ltq a b = decide (A < B)
  ba : ltq b a = decide (B < A)
  eab : eqq a b = decide (A = B)
  eba : eqq b a = decide (B = A)
  bc : ltq b c = decide (B < C)
  cb : ltq c b = decide (C < B)
  ebc : eqq b c = decide (B = C)
  ecb : eqq c b = decide (C = B)
  ac : ltq a c = decide (A < C)
  ca : ltq c a = decide (C < A)
  eac : eqq a c = decide (A = C)
  eca : eqq c a = decide (C = A)
theorem ltw {a b : Q2} {w : Int} (hw : 0 < w) {A B : Int} (h1 : A = a.1 * b.2 * w) (h2 : B = b.1 * a.2 * w) : ltq a b = decide (A < B) := by
  unfold ltq; rw [h1, h2]; exact decide_eq_decide.mpr (lt_w hw)
theorem eqw {a b : Q2} {w : Int} (hw : 0 < w) {A B : Int} (h1 : A = a.1 * b.2 * w) (h2 : B = b.1 * a.2 * w) : eqq a b = decide (A = B) := by
  unfold eqq; rw [h1, h2]; exact decide_eq_decide.mpr (eq_w hw)
theorem ord3 {a b c : Q2} (ha : 0 < a.2) (hb : 0 < b.2) (hc : 0 < c.2) : Ord3 a b c (a.1 * b.2 * c.2) (b.1 * a.2 * c.2) (c.1 * a.2 * b.2) := by
  have z1 : b.1 * a.2 * c.2 = b.1 * c.2 * a.2 := by rw [Int.mul_assoc, Int.mul_comm a.2, Int.mul_assoc]
  have z2 : c.1 * a.2 * b.2 = c.1 * b.2 * a.2 := by rw [Int.mul_assoc, Int.mul_comm a.2, Int.mul_assoc]
  have z3 : a.1 * b.2 * c.2 = a.1 * c.2 * b.2 := by rw [Int.mul_assoc, Int.mul_comm b.2, Int.mul_assoc]
  exact ⟨ltw hc rfl rfl, ltw hc rfl rfl, eqw hc rfl rfl, eqw hc rfl rfl, ltw ha z1 z2, ltw ha z2 z1, eqw ha z1 z2, eqw ha z2 z1, ltw hb z3 rfl, ltw hb rfl z3, eqw hb z3 rfl, eqw hb rfl z3⟩
theorem Alike.of {x y : Q2} {i j : Bool} (h : Re x y) (e : i = j) : Alike (some x, i) (some y, j) := ⟨h, fun _ => e⟩
theorem Alike.refl {x : Option Q2 × Bool} (h : PosO x.1) : Alike x x := ⟨ReO.refl h, fun _ => rfl⟩
theorem Alike.symm {x y : Option Q2 × Bool} (h : Alike x y) : Alike y x := ⟨h.1.symm, fun e => (h.2 (by rw [h.1.isS]; exact e)).symm⟩

theorem cutLo_pos {a b : Option Q2} {i j : Bool} (ha : PosO a) (hb : PosO b) : PosO (cutLo a i b j).1 := by
  cases a with
  | none => exact hb
  | some a => cases b with
    | none => exact ha
    | some b =>
      show PosO (if ltq a b then (some b, j) else if eqq a b then (some a, i && j) else (some a, i)).1
      split
      · exact hb
      · split <;> exact ha
theorem cutHi_pos {a b : Option Q2} {i j : Bool} (ha : PosO a) (hb : PosO b) : PosO (cutHi a i b j).1 := by
  cases a with
  | none => exact hb
  | some a => cases b with
    | none => exact ha
    | some b =>
      show PosO (if ltq b a then (some b, j) else if eqq a b then (some a, i && j) else (some a, i)).1
      split
      · exact hb
      · split <;> exact ha
theorem in_some {lo hi : Option Q2} {li hj : Bool} {x : Q2} (h1 : PosO lo) (h2 : PosO hi) (hx : 0 < x.2) (a : loIn lo li x = true) (b : hiIn hi hj x = true) : someB lo hi li hj = true := by
  cases lo with
  | none => rfl
  | some l =>
    cases hi with
    | none => rfl
    | some h =>
      have o := ord3 (a := l) (b := h) (c := x) h1 h2 hx
      revert o
      generalize l.1 * h.2 * x.2 = A
      generalize h.1 * l.2 * x.2 = B
      generalize x.1 * l.2 * h.2 = C
      intro o
      have a : (ltq l x || (li && eqq l x)) = true := a
      have b : (ltq x h || (hj && eqq x h)) = true := b
      show (ltq l h || (eqq l h && li && hj)) = true
      rw [o.ac, o.eac] at a
      rw [o.cb, o.ecb] at b
      rw [o.ab, o.eab]
      simp only [Bool.or_eq_true, Bool.and_eq_true, decide_eq_true_eq] at a b ⊢
      rcases a with a | ⟨a1, a2⟩ <;> rcases b with b | ⟨b1, b2⟩
      · exact .inl (by omega)
      · exact .inl (by omega)
      · exact .inl (by omega)
      · exact .inr ⟨⟨by omega, a1⟩, b1⟩
theorem some_in {lo hi : Option Q2} {li hj : Bool} (h1 : PosO lo) (h2 : PosO hi) (h : someB lo hi li hj = true) : ∃ x : Q2, 0 < x.2 ∧ loIn lo li x = true ∧ hiIn hi hj x = true := by
  cases lo with
  | none =>
    cases hi with
    | none => exact ⟨(0, 1), by decide, rfl, rfl⟩
    | some b =>
      have h2 : 0 < b.2 := h2
      refine ⟨(b.1 - b.2, b.2), h2, rfl, ?_⟩
      show (ltq (b.1 - b.2, b.2) b || (hj && eqq (b.1 - b.2, b.2) b)) = true
      have : ltq (b.1 - b.2, b.2) b = true := by
        unfold ltq
        exact decide_eq_true ((lt_w h2).mp (by omega))
      rw [this]; rfl
  | some a =>
    have h1 : 0 < a.2 := h1
    cases hi with
    | none =>
      refine ⟨(a.1 + a.2, a.2), h1, ?_, rfl⟩
      show (ltq a (a.1 + a.2, a.2) || (li && eqq a (a.1 + a.2, a.2))) = true
      have : ltq a (a.1 + a.2, a.2) = true := by
        unfold ltq
        exact decide_eq_true ((lt_w h1).mp (by omega))
      rw [this]; rfl
    | some b =>
      have h2 : 0 < b.2 := h2
      have h : (ltq a b || (eqq a b && li && hj)) = true := h
      simp only [Bool.or_eq_true, Bool.and_eq_true] at h
      rcases h with h | ⟨⟨h, e1⟩, e2⟩
      · have h0 : a.1 * b.2 < b.1 * a.2 := of_decide_eq_true h
        have p2 : 0 < a.2 * b.2 := Int.mul_pos h1 h2
        refine ⟨(a.1 * b.2 + b.1 * a.2, 2 * (a.2 * b.2)), by show 0 < 2 * (a.2 * b.2); omega, ?_, ?_⟩
        · show (ltq a _ || (li && eqq a _)) = true
          have : ltq a (a.1 * b.2 + b.1 * a.2, 2 * (a.2 * b.2)) = true := by
            unfold ltq
            refine decide_eq_true ?_
            show a.1 * (2 * (a.2 * b.2)) < (a.1 * b.2 + b.1 * a.2) * a.2
            have e1 : a.1 * (2 * (a.2 * b.2)) = (2 * (a.1 * b.2)) * a.2 := by grind
            rw [e1]
            exact (lt_w h1).mp (by omega)
          rw [this]; rfl
        · show (ltq _ b || (hj && eqq _ b)) = true
          have : ltq (a.1 * b.2 + b.1 * a.2, 2 * (a.2 * b.2)) b = true := by
            unfold ltq
            refine decide_eq_true ?_
            show (a.1 * b.2 + b.1 * a.2) * b.2 < b.1 * (2 * (a.2 * b.2))
            have e1 : b.1 * (2 * (a.2 * b.2)) = (2 * (b.1 * a.2)) * b.2 := by grind
            rw [e1]
            exact (lt_w h2).mp (by omega)
          rw [this]; rfl
      · refine ⟨a, h1, ?_, ?_⟩
        · show (ltq a a || (li && eqq a a)) = true
          rw [e1, eqq_self]; simp
        · show (ltq a b || (hj && eqq a b)) = true
          rw [e2, h]; simp
theorem loIn_flag {x : Option Q2 × Bool} {q : Q2} : loIn x.1 (x.2 && x.1.isSome) q = loIn x.1 x.2 q := by
  obtain ⟨c, i⟩ := x
  cases c with
  | none => rfl
  | some a => show (ltq a q || ((i && true) && eqq a q)) = _; rw [Bool.and_true]; rfl
theorem hiIn_flag {x : Option Q2 × Bool} {q : Q2} : hiIn x.1 (x.2 && x.1.isSome) q = hiIn x.1 x.2 q := by
  obtain ⟨c, i⟩ := x
  cases c with
  | none => rfl
  | some a => show (ltq q a || ((i && true) && eqq q a)) = _; rw [Bool.and_true]; rfl
/-- a Measure whose numbers are not too great -/
def PtM (CM : Addr) (H : Hp) (y : V) : Prop := ∃ (q : Addr) (x : Q2), y = .ref q ∧ MAt CM H q x.1 x.2 ∧ 0 < x.2 ∧ Sz 20000 x.1 ∧ Sz 20000 x.2
theorem PtM.nl {CM : Addr} {H H' : Hp} {y : V} (h : PtM CM H y) (s : Nl H H') : PtM CM H' y := by
  obtain ⟨q, x, e, ⟨d, m⟩, r⟩ := h
  exact ⟨q, x, e, ⟨d, s _ _ m rfl⟩, r⟩
theorem PtM.same {CM : Addr} {H H' : Hp} {y : V} (h : PtM CM H y) (s : Same H H') : PtM CM H' y := h.nl (Nl.of s)
end My
namespace My
open PySem PySem.Spec PyProof.Rows L2
/-! ### which measures a size's stretch holds -/
theorem loIn_t (a x : Q2) : loIn (some a) true x = leq a x := by
  show (ltq a x || (true && eqq a x)) = (ltq a x || eqq a x)
  rw [Bool.true_and]
theorem loIn_f (a x : Q2) : loIn (some a) false x = ltq a x := by
  show (ltq a x || (false && eqq a x)) = ltq a x
  rw [Bool.false_and, Bool.or_false]
theorem hiIn_t (a x : Q2) : hiIn (some a) true x = !ltq a x := by
  show (ltq x a || (true && eqq x a)) = _
  rw [Bool.true_and]
  exact leq_not
theorem hiIn_f (a x : Q2) : hiIn (some a) false x = !leq a x := by
  show (ltq x a || (false && eqq x a)) = _
  rw [Bool.false_and, Bool.or_false, leq_not (a := a), Bool.not_not]
/-- what comes to a size by the rule alone -/
def rulIn (zs : List Q2) (r : Str) (n : Nat) (x : Q2) : Bool := loIn (rulE zs r n).1.1 (rulE zs r n).1.2 x && hiIn (rulE zs r n).2.1 (rulE zs r n).2.2 x
theorem rul_in {zs : List Q2} {r : Str} {n : Nat} {x : Q2} (hr : RiseQ zs) (hp : PosL zs) (hx : 0 < x.2) (hn : n < zs.length) : rulIn zs r n x = true ↔ sizeR zs r x = (n : Int) := by
  unfold rulIn rulE sizeR
  by_cases e1 : r = "up"
  · rw [if_pos e1, if_pos e1]
    obtain ⟨a, ha⟩ := ge2 hn
    have c := cntQ (fun a => ltq a x) (down_lt hr hp hx)
    have ca := c n a ha
    show (loIn (endQ zs ((n : Int) - 1)) false x && hiIn zs[n]? true x) = true ↔ _
    rw [ha, hiIn_t]
    cases n with
    | zero =>
      rw [endQ_none (by omega)]
      show (true && !ltq a x) = true ↔ _
      cases e : ltq a x <;> simp [e] at ca ⊢ <;> omega
    | succ n =>
      obtain ⟨b, hb⟩ := ge2 (zs := zs) (n := n) (by omega)
      have cb := c n b hb
      rw [endQ_in (n := n) (by omega), hb, loIn_f]
      cases e : ltq a x <;> cases e2 : ltq b x <;> simp [e, e2] at ca cb ⊢ <;> omega
  · rw [if_neg e1, if_neg e1]
    by_cases e2 : r = "down"
    · rw [if_pos e2, if_pos e2]
      obtain ⟨a, ha⟩ := ge2 hn
      have c := cntQ (fun a => leq a x) (down_le hr hp hx)
      have ca := c n a ha
      have cl : zs.countP (fun a => leq a x) ≤ zs.length := List.countP_le_length
      show (loIn zs[n]? true x && hiIn (endQ zs ((n : Int) + 1)) false x) = true ↔ _
      rw [ha, loIn_t, endQ_in (n := n + 1) (by omega)]
      cases hb : zs[n + 1]? with
      | none =>
        have := List.getElem?_eq_none_iff.mp hb
        show (leq a x && true) = true ↔ _
        cases e : leq a x <;> simp [e] at ca ⊢ <;> omega
      | some b =>
        have cb := c (n + 1) b hb
        rw [hiIn_f]
        cases e : leq a x <;> cases e3 : leq b x <;> simp [e, e3] at ca cb ⊢ <;> omega
    · rw [if_neg e2, if_neg e2]
      have hm := midq_rise hr hp
      have hpm : PosL (midq zs) := midq_pos hp
      have c := cntQ (fun a => leq a x) (down_le hm hpm hx)
      have cl : (midq zs).countP (fun a => leq a x) ≤ (midq zs).length := List.countP_le_length
      have ml := midq_len zs
      show (loIn (endQ (midq zs) ((n : Int) - 1)) true x && hiIn (endQ (midq zs) n) false x) = true ↔ _
      rw [endQ_in (i := (n : Int)) (n := n) rfl]
      have lo : loIn (endQ (midq zs) ((n : Int) - 1)) true x = true ↔ n ≤ (midq zs).countP (fun a => leq a x) := by
        cases n with
        | zero =>
          rw [endQ_none (by omega)]
          exact ⟨fun _ => by omega, fun _ => rfl⟩
        | succ n =>
          obtain ⟨b, hb⟩ := ge2 (zs := midq zs) (n := n) (by omega)
          rw [endQ_in (n := n) (by omega), hb, loIn_t]
          exact c n b hb
      have hi : hiIn (midq zs)[n]? false x = true ↔ (midq zs).countP (fun a => leq a x) ≤ n := by
        cases hb : (midq zs)[n]? with
        | none =>
          have := List.getElem?_eq_none_iff.mp hb
          exact ⟨fun _ => by omega, fun _ => rfl⟩
        | some b =>
          have cb := c n b hb
          rw [hiIn_f]
          cases e3 : leq b x <;> simp [e3] at cb ⊢ <;> omega
      rw [Bool.and_eq_true, lo, hi]
      omega
theorem loIn_ok (lo : Option Q2) (x : Q2) : loIn lo true x = loOk lo x := by
  cases lo with
  | none => rfl
  | some a => rw [loIn_t, leq_not]; rfl
theorem hiIn_ok (hi : Option Q2) (x : Q2) : hiIn hi true x = hiOk hi x := by
  cases hi with
  | none => rfl
  | some a => rw [hiIn_t]; rfl
/-- what is in a size's stretch -/
def sizIn (zs : List Q2) (r : Str) (lo hi : Option Q2) (n : Nat) (x : Q2) : Bool := loIn (sizE zs r lo hi n).1.1 (sizE zs r lo hi n).1.2 x && hiIn (sizE zs r lo hi n).2.1 (sizE zs r lo hi n).2.2 x
/-- whether there is such a stretch -/
def sizB (zs : List Q2) (r : Str) (lo hi : Option Q2) (n : Nat) : Bool := someB (sizE zs r lo hi n).1.1 (sizE zs r lo hi n).2.1 (sizE zs r lo hi n).1.2 (sizE zs r lo hi n).2.2
structure LadQ (zs : List Q2) (r : Str) (lo hi : Option Q2) : Prop where
  rise : RiseQ zs
  pos : PosL zs
  plo : PosO lo
  phi : PosO hi
  span : spanB lo hi = true
theorem endQ_pos {zs : List Q2} (hp : PosL zs) (i : Int) : PosO (endQ zs i) := by
  unfold endQ
  split
  · cases e : zs[i.toNat]? with
    | none => trivial
    | some a => exact hp a (List.mem_of_getElem? e)
  · trivial
theorem getQ_pos {zs : List Q2} (hp : PosL zs) (i : Nat) : PosO zs[i]? := by
  cases e : zs[i]? with
  | none => trivial
  | some a => exact hp a (List.mem_of_getElem? e)
theorem rulE_pos {zs : List Q2} {r : Str} {n : Nat} (hp : PosL zs) : PosO (rulE zs r n).1.1 ∧ PosO (rulE zs r n).2.1 := by
  unfold rulE
  split
  · exact ⟨endQ_pos hp _, getQ_pos hp _⟩
  · split
    · exact ⟨getQ_pos hp _, endQ_pos hp _⟩
    · exact ⟨endQ_pos (midq_pos hp) _, endQ_pos (midq_pos hp) _⟩
theorem siz_in {zs : List Q2} {r : Str} {lo hi : Option Q2} {n : Nat} {x : Q2} (L : LadQ zs r lo hi) (hx : 0 < x.2) (hn : n < zs.length) : sizIn zs r lo hi n x = true ↔ sizeQ zs r lo hi x = some n := by
  have p := rulE_pos (r := r) (n := n) L.pos
  have a1 := cutLo_in (i := (rulE zs r n).1.2) (j := true) p.1 L.plo hx
  have a2 := cutHi_in (i := (rulE zs r n).2.2) (j := true) p.2 L.phi hx
  have e : sizIn zs r lo hi n x = (rulIn zs r n x && inO lo hi x) := by
    show (loIn (cutLo _ _ lo true).1 (cutLo _ _ lo true).2 x && hiIn (cutHi _ _ hi true).1 (cutHi _ _ hi true).2 x) = _
    rw [a1, a2, loIn_ok, hiIn_ok]
    unfold rulIn inO
    cases loIn (rulE zs r n).1.1 (rulE zs r n).1.2 x <;> cases loOk lo x <;> cases hiIn (rulE zs r n).2.1 (rulE zs r n).2.2 x <;> rfl
  rw [e, Bool.and_eq_true, rul_in L.rise L.pos hx hn]
  unfold sizeQ
  by_cases h : inO lo hi x = true
  · rw [if_pos h]
    constructor
    · rintro ⟨h1, _⟩
      rw [h1, if_pos (by omega)]
      rfl
    · intro q
      split at q
      · next c =>
        refine ⟨?_, h⟩
        have := Option.some.inj q
        omega
      · cases q
  · rw [if_neg h]
    constructor
    · rintro ⟨_, h2⟩; exact absurd h2 h
    · intro q; cases q
theorem sizE_pos {zs : List Q2} {r : Str} {lo hi : Option Q2} {n : Nat} (L : LadQ zs r lo hi) : PosO (sizE zs r lo hi n).1.1 ∧ PosO (sizE zs r lo hi n).2.1 :=
  ⟨cutLo_pos (rulE_pos L.pos).1 L.plo, cutHi_pos (rulE_pos L.pos).2 L.phi⟩
/-- there is a measure of that size just where its stretch is told -/
theorem siz_some {zs : List Q2} {r : Str} {lo hi : Option Q2} {n : Nat} (L : LadQ zs r lo hi) : sizB zs r lo hi n = true ↔ ∃ x : Q2, 0 < x.2 ∧ sizIn zs r lo hi n x = true := by
  have p := sizE_pos (n := n) L
  constructor
  · intro h
    obtain ⟨x, hx, a, b⟩ := some_in p.1 p.2 h
    exact ⟨x, hx, by unfold sizIn; rw [a, b]; rfl⟩
  · rintro ⟨x, hx, h⟩
    unfold sizIn at h
    rw [Bool.and_eq_true] at h
    exact in_some p.1 p.2 hx h.1 h.2
/-- sizes rise as measures do -/
theorem sizeR_mono {zs : List Q2} {r : Str} {x y : Q2} (hp : PosL zs) (hx : 0 < x.2) (hy : 0 < y.2) (h : ltq y x = false) : sizeR zs r x ≤ sizeR zs r y := by
  have k1 : ∀ {ms : List Q2}, PosL ms → ms.countP (fun a => ltq a x) ≤ ms.countP (fun a => ltq a y) := fun {ms} pm => List.countP_mono_left fun a ha q => by
    have pa := pm a ha
    have o := ord3 pa hx hy
    have q' : ltq a x = true := q
    show ltq a y = true
    rw [o.ab] at q'; rw [o.ac]; rw [o.cb] at h
    simp at q' h ⊢
    omega
  have k2 : ∀ {ms : List Q2}, PosL ms → ms.countP (fun a => leq a x) ≤ ms.countP (fun a => leq a y) := fun {ms} pm => List.countP_mono_left fun a ha q => by
    have pa := pm a ha
    have o := ord3 pa hx hy
    have q' : leq a x = true := q
    show leq a y = true
    rw [leq_not, o.ba] at q'; rw [leq_not, o.ca]; rw [o.cb] at h
    simp at q' h ⊢
    omega
  unfold sizeR
  split
  · have := k1 hp; omega
  · split
    · have := k2 hp; omega
    · have := k2 (midq_pos hp); omega
theorem rul_some {zs : List Q2} {r : Str} {n : Nat} (hr : RiseQ zs) (hp : PosL zs) : someB (rulE zs r n).1.1 (rulE zs r n).2.1 (rulE zs r n).1.2 (rulE zs r n).2.2 = true := by
  unfold rulE
  split
  · exact some_up hr
  · split
    · exact some_dn hr
    · exact some_nr (midq_rise hr hp)
end My
namespace My
open PySem PySem.Spec PyProof.Rows L2
/-! ### lists of numbers -/
theorem eqv_ints : ∀ zs : List Int, PyData.eqvAll (zs.map PyData.int) (zs.map PyData.int) = true
  | [] => by simp [PyData.eqvAll]
  | z :: zs => by
    have := eqv_ints zs
    simp [PyData.eqvAll, PyData.eqv, this]
theorem eqv_same (zs : List Int) : PyData.eqv (.list (zs.map PyData.int)) (.list (zs.map PyData.int)) = true := by
  simp [PyData.eqv, eqv_ints]
/-! ### the sizes that fit some feet -/
structure FitsL (H : Hp) (D : Addr) (ls : List (List Int)) : Prop where
  ob : ∃ ts : List V, H D = some (.lst ts) ∧ ts.length = ls.length ∧ ∀ (i : Nat) (v : V) (l : List Int), ts[i]? = some v → ls[i]? = some l → ∃ T, v = .ref T ∧ H T = some (.tup (l.map V.int))
theorem FitsL.same {H H' : Hp} {D : Addr} {ls : List (List Int)} (a : FitsL H D ls) (s : Same H H') : FitsL H' D ls := by
  obtain ⟨ts, h1, h2, h3⟩ := a.ob
  refine ⟨ts, s _ _ h1, h2, fun i v l e1 e2 => ?_⟩
  obtain ⟨T, e, h⟩ := h3 i v l e1 e2
  exact ⟨T, e, s _ _ h⟩
theorem FitsL.at {H : Hp} {D : Addr} {ls : List (List Int)} {ts : List V} (h2 : ts.length = ls.length) (h3 : ∀ (i : Nat) (v : V) (l : List Int), ts[i]? = some v → ls[i]? = some l → ∃ T, v = .ref T ∧ H T = some (.tup (l.map V.int))) {i : Nat} {l : List Int} (h : ls[i]? = some l) : ∃ T, ts[i]? = some (.ref T) ∧ H T = some (.tup (l.map V.int)) := by
  have hi : i < ts.length := by rw [h2]; exact (List.getElem?_eq_some_iff.mp h).1
  obtain ⟨T, e, k⟩ := h3 i _ l (List.getElem?_eq_getElem hi) h
  exact ⟨T, by rw [List.getElem?_eq_getElem hi, e], k⟩
/-- the first one of which there is none -/
def BareAt (ls : List (List Int)) : Option Nat → Prop
  | none => ∀ l ∈ ls, l ≠ []
  | some n => ls[n]? = some [] ∧ ∀ j l, j < n → ls[j]? = some l → l ≠ []
theorem BareAt.uniq {ls : List (List Int)} : ∀ {o o' : Option Nat}, BareAt ls o → BareAt ls o' → o = o'
  | none, none, _, _ => rfl
  | none, some n, h, g => absurd rfl (h _ (List.mem_of_getElem? g.1))
  | some n, none, h, g => absurd rfl (g _ (List.mem_of_getElem? h.1))
  | some n, some m, h, g => by
    rcases Nat.lt_trichotomy n m with q | q | q
    · exact absurd rfl (g.2 n _ q h.1)
    · rw [q]
    · exact absurd rfl (h.2 m _ q g.1)
def firstI (ls : List (List Int)) (a : Int) : Int := ((ls.getD a.toNat []).head?).getD 0
def lastI (ls : List (List Int)) (a : Int) : Int := ((ls.getD a.toNat []).getLast?).getD 0
/-- runs: none is bare, each begins no later than it ends -/
def RunsI (ls : List (List Int)) : Prop := ∀ i : Nat, i < ls.length → ls.getD i [] ≠ [] ∧ firstI ls i ≤ lastI ls i
structure GInv (ls : List (List Int)) (done : List (Int × Int)) (ss as : List Int) : Prop where
  len : ss.length = as.length
  hits : ∀ q ∈ done, ∃ s ∈ ss, firstI ls q.2 ≤ s ∧ s ≤ q.1
  own : ∀ (j : Nat) (s a : Int), ss[j]? = some s → as[j]? = some a → (s, a) ∈ done
  ap : ∀ (j j' : Nat) (s a : Int), j < j' → ss[j]? = some s → as[j']? = some a → s < firstI ls a
theorem GInv.nil {ls : List (List Int)} : GInv ls [] [] [] := ⟨rfl, fun q h => by simp at h, fun j s a h => by simp at h, fun j j' s a _ h => by simp at h⟩
/-- the pairs of last sizes and numbers -/
structure PairsOf (ls : List (List Int)) (ps : List (Int × Int)) : Prop where
  perm : ps.Perm ((List.range ls.length).map fun i : Nat => (lastI ls i, (i : Int)))
  srt : ∀ (i j : Nat) (p q : Int × Int), i < j → ps[i]? = some p → ps[j]? = some q → p.1 ≤ q.1
theorem PairsOf.mem {ls : List (List Int)} {ps : List (Int × Int)} (h : PairsOf ls ps) {q : Int × Int} : q ∈ ps ↔ ∃ i : Nat, i < ls.length ∧ q = (lastI ls i, (i : Int)) := by
  rw [h.perm.mem_iff, List.mem_map]
  constructor
  · rintro ⟨i, hi, e⟩; exact ⟨i, List.mem_range.mp hi, e.symm⟩
  · rintro ⟨i, hi, e⟩; exact ⟨i, List.mem_range.mpr hi, e.symm⟩
theorem GInv.rise {ls : List (List Int)} {ps : List (Int × Int)} {k : Nat} {ss as : List Int} (P : PairsOf ls ps) (R : RunsI ls) (g : GInv ls (ps.take k) ss as) : ∀ (j j' : Nat) (s s' : Int), j < j' → ss[j]? = some s → ss[j']? = some s' → s < s' := fun j j' s s' hj h h' => by
  have l := (List.getElem?_eq_some_iff.mp h').1
  obtain ⟨a', ha'⟩ := geI (zs := as) (n := j') (by rw [← g.len]; exact l)
  have h1 := g.ap j j' s a' hj h ha'
  have h2 := g.own j' s' a' h' ha'
  obtain ⟨i, hi, e⟩ := P.mem.mp (List.mem_of_mem_take h2)
  obtain ⟨rfl, rfl⟩ := Prod.mk.inj e
  have := (R i hi).2
  omega
theorem GInv.take {ls : List (List Int)} {ps : List (Int × Int)} {k : Nat} {ss as : List Int} {b n : Int} (P : PairsOf ls ps) (R : RunsI ls) (hk : ps[k]? = some (b, n)) (g : GInv ls (ps.take k) ss as) (h : ∀ s, ss.getLast? = some s → s < firstI ls n) : GInv ls (ps.take (k + 1)) (ss ++ [b]) (as ++ [n]) := by
  have e : ps.take (k + 1) = ps.take k ++ [(b, n)] := by rw [List.take_add_one, hk]; rfl
  obtain ⟨i, hi, ei⟩ := P.mem.mp (List.mem_of_getElem? hk)
  obtain ⟨rfl, rfl⟩ := Prod.mk.inj ei
  refine ⟨by rw [List.length_append, List.length_append, g.len]; rfl, fun q hq => ?_, fun j s' a h1 h2 => ?_, fun j j' s' a hj h1 h2 => ?_⟩
  · rw [e] at hq
    rcases List.mem_append.mp hq with hq | hq
    · obtain ⟨s, hs, q1⟩ := g.hits q hq
      exact ⟨s, List.mem_append.mpr (.inl hs), q1⟩
    · have : q = (lastI ls (i : Int), (i : Int)) := by simpa using hq
      subst this
      exact ⟨lastI ls i, by simp, (R i hi).2, Int.le_refl _⟩
  · rw [e]
    by_cases hlt : j < ss.length
    · rw [List.getElem?_append_left hlt] at h1
      rw [List.getElem?_append_left (by rw [← g.len]; exact hlt)] at h2
      exact List.mem_append.mpr (.inl (g.own j s' a h1 h2))
    · have l1 := (List.getElem?_eq_some_iff.mp h1).1
      rw [List.length_append, List.length_singleton] at l1
      have ej : j = ss.length := by omega
      rw [ej, List.getElem?_append_right (Nat.le_refl _), Nat.sub_self] at h1
      rw [ej, g.len, List.getElem?_append_right (Nat.le_refl _), Nat.sub_self] at h2
      have h1 : lastI ls i = s' := by simpa using h1
      have h2 : (i : Int) = a := by simpa using h2
      rw [← h1, ← h2]
      simp
  · have l2 := (List.getElem?_eq_some_iff.mp h2).1
    rw [List.length_append, List.length_singleton, ← g.len] at l2
    have h1' : ss[j]? = some s' := by
      rw [List.getElem?_append_left (by omega)] at h1; exact h1
    by_cases hlt : j' < ss.length
    · rw [List.getElem?_append_left (by rw [← g.len]; exact hlt)] at h2
      exact g.ap j j' s' a hj h1' h2
    · have ej : j' = ss.length := by omega
      rw [ej, g.len, List.getElem?_append_right (Nat.le_refl _), Nat.sub_self] at h2
      have h2 : (i : Int) = a := by simpa using h2
      rw [← h2]
      have hs : ss[ss.length - 1]? = ss.getLast? := List.getLast?_eq_getElem?.symm
      obtain ⟨s, hs2⟩ := geI (zs := ss) (n := ss.length - 1) (by omega)
      have hlast := h s (by rw [← hs]; exact hs2)
      by_cases q : j = ss.length - 1
      · rw [q, hs2] at h1'
        cases h1'
        exact hlast
      · have := g.rise P R j (ss.length - 1) s' s (by omega) h1' hs2
        omega
theorem idx_sorted {n : Nat} {c : Nat → Bool} : (idx n c).Pairwise (· < ·) := by
  unfold idx
  rw [List.pairwise_map]
  refine List.Pairwise.imp ?_ (List.Pairwise.filter c List.pairwise_lt_range)
  intro a b h
  omega
/-! ### tuples of the heap: sums and slices -/
section
variable {X : Cx}
end
/-! ### fractions as rational numbers -/
def toR (z : Q2) : Rat := (z.1 : Rat) / (z.2 : Rat)
theorem posR {n : Int} (h : 0 < n) : (0 : Rat) < (n : Rat) := by
  have := Rat.intCast_lt_intCast.mpr h
  simpa using this
section
variable {a b z w x y : Q2}
theorem div_ltR {a b c d : Int} (hb : 0 < b) (hd : 0 < d) : ((a : Rat) / b < (c : Rat) / d) ↔ (a : Rat) * d < c * b := by
  have hb := posR hb
  have hd := posR hd
  constructor
  · intro h
    have e1 : (a : Rat) * d = (a / b) * (b * d) := by grind
    have e2 : (c : Rat) * b = (c / d) * (b * d) := by grind
    rw [e1, e2]
    exact Rat.mul_lt_mul_of_pos_right h (Rat.mul_pos hb hd)
  · intro h
    by_cases g : (c : Rat) / d ≤ (a : Rat) / b
    · have := Rat.mul_le_mul_of_nonneg_right g (Rat.le_of_lt (Rat.mul_pos hb hd))
      have e1 : (a : Rat) * d = (a / b) * (b * d) := by grind
      have e2 : (c : Rat) * b = (c / d) * (b * d) := by grind
      grind
    · grind
theorem ltq_R (ha : 0 < a.2) (hb : 0 < b.2) : ltq a b = true ↔ toR a < toR b := by
  unfold toR
  rw [div_ltR ha hb]
  unfold ltq
  rw [decide_eq_true_iff, ← Rat.intCast_mul, ← Rat.intCast_mul, Rat.intCast_lt_intCast]
theorem leq_R (ha : 0 < a.2) (hb : 0 < b.2) : leq a b = true ↔ toR a ≤ toR b := by
  rw [leq_not]
  cases e : ltq b a with
  | true =>
    have := (ltq_R hb ha).mp e
    constructor
    · intro h; simp at h
    · intro h; grind
  | false =>
    have : ¬ toR b < toR a := fun q => by rw [(ltq_R hb ha).mpr q] at e; cases e
    constructor
    · intro _; grind
    · intro _; rfl
theorem re_R (h : Re z w) : toR z = toR w := by
  obtain ⟨h1, h2, h3⟩ := h
  unfold toR
  have p1 := posR h1
  have p2 := posR h2
  have e : (z.1 : Rat) * (w.2 : Rat) = (w.1 : Rat) * (z.2 : Rat) := by rw [← Rat.intCast_mul, ← Rat.intCast_mul, h3]
  grind
theorem re_of_R (h1 : 0 < z.2) (h2 : 0 < w.2) (h : toR z = toR w) : Re z w := by
  refine ⟨h1, h2, ?_⟩
  unfold toR at h
  have p1 := posR h1
  have p2 := posR h2
  have e : (z.1 : Rat) * (w.2 : Rat) = (w.1 : Rat) * (z.2 : Rat) := by grind
  rw [← Rat.intCast_mul, ← Rat.intCast_mul] at e
  exact Rat.intCast_inj.mp e
theorem add_R (ha : 0 < a.2) (hb : 0 < b.2) : toR (qadd a b) = toR a + toR b := by
  unfold toR qadd
  have p1 := posR ha
  have p2 := posR hb
  simp only [Rat.intCast_add, Rat.intCast_mul]
  grind
theorem sub_R (ha : 0 < a.2) (hb : 0 < b.2) : toR (qsub a b) = toR a - toR b := by
  unfold toR qsub
  have p1 := posR ha
  have p2 := posR hb
  simp only [Rat.intCast_sub, Rat.intCast_mul]
  grind
theorem half_R (ha : 0 < a.2) (hb : 0 < b.2) : toR (qhalf a b) = (toR a + toR b) / 2 := by
  rw [qhalf_eq]
  unfold toR
  have p1 := posR ha
  have p2 := posR hb
  simp only [Rat.intCast_add, Rat.intCast_mul]
  grind
theorem nn_R (ha : 0 < a.2) : 0 ≤ a.1 ↔ 0 ≤ toR a := by
  have p : 0 < ((0, 1) : Q2).2 := by decide
  have h := leq_R (a := (0, 1)) (b := a) p ha
  have e : toR (0, 1) = 0 := by unfold toR; grind
  rw [e] at h
  rw [← h, leq_not]
  unfold ltq
  simp
end
theorem Re.nn {z w : Q2} (r : Re z w) (h : 0 ≤ w.1) : 0 ≤ z.1 := by
  rw [nn_R r.1, re_R r]
  exact (nn_R r.2.1).mp h
section
variable {zs : List Q2} {a z x y e w : Q2} {i : Nat}
end
/-! ### lists of tuples of numbers as data -/
theorem rm65 {k : Nat} {A : Around} (r : Room k A) : A.units + 65 < cLine := by have := r.un; omega
section
variable {X : Cx} {K : PySem.W.Frag}
theorem notInDK (hu : X.A.units + 65 < cLine) (hK : X.K = K := by rfl) : OpR X (compareOp .NotIn) (rNotInD K) := by subst hK; exact op_notInD hu
end
theorem eqvAll_ints : ∀ a b : List Int, PyData.eqvAll (a.map PyData.int) (b.map PyData.int) = decide (a = b)
  | [], [] => by simp [PyData.eqvAll]
  | [], _ :: _ => by simp [PyData.eqvAll]
  | _ :: _, [] => by simp [PyData.eqvAll]
  | x :: a, y :: b => by
    have e : (x == y) = decide (x = y) := by rw [Bool.eq_iff_iff]; simp
    simp [PyData.eqvAll, PyData.eqv, eqvAll_ints a b, e]
theorem eqv_intsD (a b : List Int) : PyData.eqv (intsD a) (intsD b) = decide (a = b) := by
  unfold intsD
  simp [PyData.eqv, eqvAll_ints]
theorem dpAll_of {α : Type} {K : PySem.W.Frag} {H : Hp} (f : α → PyData) : ∀ {ts : List V} {ls : List α}, ts.length = ls.length → (∀ (i : Nat) (v : V) (l : α), ts[i]? = some v → ls[i]? = some l → Dp K H v (f l)) → DpAll K H ts (ls.map f)
  | [], [], _, _ => .nil
  | [], _ :: _, h, _ => by simp at h
  | _ :: _, [], h, _ => by simp at h
  | t :: ts, l :: ls, h, g => .cons (g 0 t l rfl rfl) (dpAll_of f (by simpa using h) fun i v l' h1 h2 => g (i + 1) v l' (by simpa using h1) (by simpa using h2))
theorem rows_lay {α : Type} (f : α → List Int) : ∀ ls : List α, PyData.canLayAll0 (ls.map fun l => intsD (f l)) = true
  | [] => rfl
  | l :: ls => by
    show ((intsD (f l)).canLay0 && PyData.canLayAll0 (ls.map fun l => intsD (f l))) = true
    rw [rows_lay f ls, Bool.and_true]
    exact layI (f l)
theorem rows_depth {α : Type} (f : α → List Int) : ∀ ls : List α, PyData.depthAll (ls.map fun l => intsD (f l)) ≤ 3
  | [] => by simp [PyData.depthAll]
  | l :: ls => by
    have h := rows_depth f ls
    have h1 := ints_depth (f l)
    have e : PyData.depthAll ((l :: ls).map fun l => intsD (f l)) = max (intsD (f l)).depth (PyData.depthAll (ls.map fun l => intsD (f l))) := by simp [PyData.depthAll]
    have e2 : (intsD (f l)).depth = PyData.depthAll ((f l).map PyData.int) + 1 := rfl
    omega
theorem shRows {α : Type} (f : α → List Int) (ls : List α) : SeqAt.shaped (.list (ls.map fun l => intsD (f l))) = true := by
  have h := rows_depth f ls
  have e1 : (PyData.list (ls.map fun l => intsD (f l))).depth ≤ 64 := by
    show PyData.depthAll (ls.map fun l => intsD (f l)) + 1 ≤ 64
    omega
  have e2 : (PyData.list (ls.map fun l => intsD (f l))).canLay0 = true := rows_lay f ls
  unfold SeqAt.shaped
  rw [e2, decide_eq_true e1]
  rfl
theorem shInts (zs : List Int) : SeqAt.shaped (intsD zs) = true := by
  have h := ints_depth zs
  have e1 : (intsD zs).depth ≤ 64 := by
    show PyData.depthAll (zs.map PyData.int) + 1 ≤ 64
    omega
  have e2 : (intsD zs).canLay0 = true := layI zs
  unfold SeqAt.shaped
  rw [e2, decide_eq_true e1]
  rfl
theorem FitsL.dp {K : PySem.W.Frag} {H : Hp} {D : Addr} {ls : List (List Int)} (a : FitsL H D ls) : Dp K H (.ref D) (.list (ls.map fun l => intsD l)) := by
  obtain ⟨ts, h1, h2, h3⟩ := a.ob
  refine .lst (SqL.of h1) (dpAll_of (fun l => intsD l) h2 fun i v l e1 e2 => ?_)
  obtain ⟨T, rfl, h⟩ := h3 i v l e1 e2
  exact dpT h
/-! ### a set of a tuple of numbers -/
/-! ### looked at ahead of a step (apply fails at once where exact, refine and show take seconds) -/
theorem eq_id {α : Sort _} {a b : α} (h : a = b) : a = b := h
theorem ile_id {a b : Int} (h : a ≤ b) : a ≤ b := h
theorem ilt_id {a b : Int} (h : a < b) : a < b := h
theorem nle_id {a b : Nat} (h : a ≤ b) : a ≤ b := h
theorem nlt_id {a b : Nat} (h : a < b) : a < b := h
section
variable {K : PySem.W.Frag} {C CM CL CG p h a L1 L2 : Addr} {H H' : Hp} {v : V} {k n : Nat} {z : Q2} {vs : List V} {zs ys : List Q2} {e : Option Q2} {r : Str} {lo hi : Option Q2} {o : Option HO} {x : HO} {P Q : Prop}
end
/-! ### what follows a statement, kept out of sight while it is read -/
/-! ### a comprehension over a list that draws, some left out -/
theorem AllTQ.nl {H H' : Hp} {k : Nat} {vs : List V} (m : AllTQ H k vs) (s : Nl H H') : AllTQ H' k vs := fun x hx => by
  obtain ⟨z, t⟩ := m x hx
  exact ⟨z, t.nl s⟩
theorem AllTQ.same {H H' : Hp} {k : Nat} {vs : List V} (m : AllTQ H k vs) (s : Same H H') : AllTQ H' k vs := m.nl (Nl.of s)
theorem AllTQ.mono {H : Hp} {k j : Nat} {vs : List V} (m : AllTQ H k vs) (l : k ≤ j) : AllTQ H j vs := fun x hx => by
  obtain ⟨z, t⟩ := m x hx
  exact ⟨z, t.mono l⟩
theorem Kp.up2 {h D : Addr} {H H1 : Hp} {u : HO} (k : Kp h H H1) (hD : H D = none) : Kp h H (upd H1 D u) := fun c o e n => by
  rw [upd_ne (ne_of_none e hD)]
  exact k c o e n
end My
namespace My
open PySem PySem.Spec PyProof.Rows L2
/-! ### the stretches of a ladder's sizes, held -/
theorem MAt.nl {C p : Addr} {H H' : Hp} {t u : Int} (a : MAt C H p t u) (s : Nl H H') : MAt C H' p t u := by
  obtain ⟨dx, h⟩ := a
  exact ⟨dx, s _ _ h rfl⟩
theorem MsV.nl {C : Addr} {H H' : Hp} {v : V} (s : Nl H H') : ∀ {e : Option Q2}, MsV C H v e → MsV C H' v e
  | none, h => h
  | some _, ⟨p, h1, h2⟩ => ⟨p, h1, h2.nl s⟩
theorem StAt.nl {CM CS p : Addr} {H H' : Hp} {lo hi : Option Q2} {li hj : Bool} (a : StAt CM CS H p lo hi li hj) (s : Nl H H') : StAt CM CS H' p lo hi li hj := by
  obtain ⟨⟨dx, l, h, h1, h2, h3⟩, a1, a2, a3, a4⟩ := a
  exact ⟨⟨dx, l, h, s _ _ h1 rfl, h2.nl s, h3.nl s⟩, a1, a2, a3, a4⟩
theorem StQ.nl {CM CS p : Addr} {H H' : Hp} {x y : Option Q2 × Bool} (a : StQ CM CS H p x y) (s : Nl H H') : StQ CM CS H' p x y := by
  obtain ⟨lo, hi, h1, h2, h3⟩ := a
  exact ⟨lo, hi, h1.nl s, h2, h3⟩
/-- the stretch of a size, or None -/
def RunV (CM CS : Addr) (H : Hp) (v : V) (zs : List Q2) (r : Str) (lo hi : Option Q2) (n : Nat) : Prop :=
  (sizB zs r lo hi n = true ∧ ∃ p, v = .ref p ∧ StQ CM CS H p (sizE zs r lo hi n).1 (sizE zs r lo hi n).2) ∨ (sizB zs r lo hi n = false ∧ v = .non)
section
variable {CM CS : Addr} {H H' : Hp} {v : V} {zs : List Q2} {r : Str} {lo hi : Option Q2} {n : Nat}
theorem RunV.same (a : RunV CM CS H v zs r lo hi n) (s : Same H H') : RunV CM CS H' v zs r lo hi n := by
  rcases a with ⟨h, p, e, q⟩ | h
  · exact .inl ⟨h, p, e, q.same s⟩
  · exact .inr h
theorem RunV.nl (a : RunV CM CS H v zs r lo hi n) (s : Nl H H') : RunV CM CS H' v zs r lo hi n := by
  rcases a with ⟨h, p, e, q⟩ | h
  · exact .inl ⟨h, p, e, q.nl s⟩
  · exact .inr h
theorem run_of (c : CutQ CM CS H v (sizE zs r lo hi n).1 (sizE zs r lo hi n).2) : RunV CM CS H v zs r lo hi n := by
  obtain ⟨x', y', c, ax, ay⟩ := c
  have e := Alike.someB ax ay
  rcases c with ⟨h, p, rfl, st⟩ | ⟨h, rfl⟩
  · refine .inl ⟨by unfold sizB; rw [← e]; exact h, p, rfl, x'.1, y'.1, ?_, ax.1, ay.1⟩
    rw [← ax.flag, ← ay.flag]
    exact st
  · exact .inr ⟨by unfold sizB; rw [← e]; exact h, rfl⟩
end
section
variable {CM CS : Addr} {H : Hp} {p q : Addr} {x y x2 y2 : Option Q2 × Bool}
theorem StQ.raw (a : StQ CM CS H p x y) {m : Str} (h1 : ¬ m = "low") (h2 : ¬ m = "high") (h3 : ¬ m = "low_in") (h4 : ¬ m = "high_in") {R : Prop} (h : R) : ∃ a dx fs, V.ref p = .ref a ∧ H a = some (.ins CS dx fs) ∧ fs.lookup m = none ∧ R := by
  obtain ⟨lo, hi, s, _⟩ := a
  exact meth_s s h1 h2 h3 h4 h
/-- an end of so many bits -/
def SzE (k : Nat) : Option Q2 → Prop
  | none => True
  | some a => Sz k a.1 ∧ Sz k a.2
theorem qo_of {k : Nat} {v : V} {m e : Option Q2} (a : MsV CM H v m) (l : LowO m) (r : ReO m e) (s : SzE k e) : QO CM H k v e := by
  cases m with
  | none =>
    cases e with
    | none => exact a
    | some _ => exact r.elim
  | some m =>
    cases e with
    | none => exact r.elim
    | some e =>
      obtain ⟨p, rfl, hp⟩ := a
      exact ⟨p, rfl, QAt.of hp l r s.1 s.2⟩
end
theorem SzE.mono {k j : Nat} (l : k ≤ j) : ∀ {o : Option Q2}, SzE k o → SzE j o
  | none, _ => trivial
  | some _, h => ⟨h.1.mono l, h.2.mono l⟩
theorem cutLo_sze {k : Nat} {a b : Option Q2} {i j : Bool} (h : SzE k a) (g : SzE k b) : SzE k (cutLo a i b j).1 := by
  cases a with
  | none => exact g
  | some a =>
    cases b with
    | none => exact h
    | some b =>
      show SzE k (if ltq a b then (some b, j) else if eqq a b then (some a, i && j) else (some a, i)).1
      split
      · exact g
      · split <;> exact h
theorem cutHi_sze {k : Nat} {a b : Option Q2} {i j : Bool} (h : SzE k a) (g : SzE k b) : SzE k (cutHi a i b j).1 := by
  cases a with
  | none => exact g
  | some a =>
    cases b with
    | none => exact h
    | some b =>
      show SzE k (if ltq b a then (some b, j) else if eqq a b then (some a, i && j) else (some a, i)).1
      split
      · exact g
      · split <;> exact h
def SzL (k : Nat) (zs : List Q2) : Prop := ∀ z ∈ zs, Sz k z.1 ∧ Sz k z.2
theorem SzL.get {k : Nat} {zs : List Q2} (h : SzL k zs) (i : Nat) : SzE k zs[i]? := by
  cases e : zs[i]? with
  | none => trivial
  | some a => exact h a (List.mem_of_getElem? e)
theorem SzL.end {k : Nat} {zs : List Q2} (h : SzL k zs) (i : Int) : SzE k (endQ zs i) := by
  unfold endQ
  split
  · exact h.get _
  · trivial
theorem SzL.mid {k : Nat} : ∀ {zs : List Q2}, SzL k zs → SzL (k + k + 12) (midq zs)
  | [], _ => fun z hz => by simp [midq] at hz
  | [_], _ => fun z hz => by simp [midq] at hz
  | a :: b :: r, h => fun z hz => by
    have hz' : z ∈ qhalf a b :: midq (b :: r) := hz
    rcases List.mem_cons.mp hz' with e | e
    · rw [e, qhalf_eq]
      have ha := h a (by simp)
      have hb := h b (by simp)
      have c1 : Sz (k + k + 1) (a.1 * b.2 + b.1 * a.2) := (ha.1.mul hb.2).add (hb.1.mul ha.2)
      have c2 : Sz (k + k) (a.2 * b.2) := ha.2.mul hb.2
      exact ⟨c1.mono (by omega), (c2.mul (show Sz 2 2 by decide)).mono (by omega)⟩
    · exact SzL.mid (fun y hy => h y (by simp [hy])) z e
theorem rulE_sz {k : Nat} {zs : List Q2} {r : Str} {n : Nat} (h : SzL k zs) : SzE (k + k + 12) (rulE zs r n).1.1 ∧ SzE (k + k + 12) (rulE zs r n).2.1 := by
  unfold rulE
  split
  · exact ⟨(h.end _).mono (by omega), (h.get _).mono (by omega)⟩
  · split
    · exact ⟨(h.get _).mono (by omega), (h.end _).mono (by omega)⟩
    · exact ⟨h.mid.end _, h.mid.end _⟩
theorem sizE_sz {k : Nat} {zs : List Q2} {r : Str} {lo hi : Option Q2} {n : Nat} (h : SzL k zs) (hl : SzE k lo) (hh : SzE k hi) : SzE (k + k + 12) (sizE zs r lo hi n).1.1 ∧ SzE (k + k + 12) (sizE zs r lo hi n).2.1 :=
  ⟨cutLo_sze (rulE_sz h).1 (hl.mono (by omega)), cutHi_sze (rulE_sz h).2 (hh.mono (by omega))⟩
theorem LawL.szs {H : Hp} {p : Addr} {part : Int} {ms : List Int} {r : Str} {lo hi : Option Int} (a : LawL H p part ms r lo hi) : SzL 40 (zq (4 * part) ms) ∧ SzE 40 (oq (4 * part) lo) ∧ SzE 40 (oq (4 * part) hi) := by
  have p0 := a.p0
  have p1 := a.p1
  have sp : Sz 40 (4 * part) := by show (4 * part).natAbs < 2 ^ 40; omega
  have sz : ∀ z : Int, -4000040 ≤ z → z ≤ 4000040 → Sz 40 z := fun z h1 h2 => by show z.natAbs < 2 ^ 40; omega
  refine ⟨fun z hz => ?_, ?_, ?_⟩
  · obtain ⟨m, hm, rfl⟩ := List.mem_map.mp hz
    have := a.bnd m hm
    exact ⟨sz m (by omega) (by omega), sp⟩
  · cases lo with
    | none => trivial
    | some z => have := a.blo z rfl; exact ⟨sz z this.1 this.2, sp⟩
  · cases hi with
    | none => trivial
    | some z => have := a.bhi z rfl; exact ⟨sz z this.1 this.2, sp⟩
theorem LadAt.up {K : PySem.W.Frag} {CM CL : Addr} {H : Hp} {p : Addr} {k j : Nat} {zs : List Q2} {r : Str} {lo hi : Option Q2} (a : LadAt K CM CL H p k zs r lo hi) (l : k ≤ j) : LadAt K CM CL H p j zs r lo hi := a.mono l
/-! ### measures that a stretch holds -/
def GoodM (CM : Addr) (x y : Option Q2 × Bool) (H : Hp) (ys : List V) : Prop := ∀ v ∈ ys, ∃ q z, v = .ref q ∧ QAt CM H q 300 z ∧ (loIn x.1 x.2 z && hiIn y.1 y.2 z) = true
theorem GoodM.nl {CM : Addr} {x y : Option Q2 × Bool} {H H' : Hp} {ys : List V} (g : GoodM CM x y H ys) (s : Nl H H') : GoodM CM x y H' ys := fun v hv => by
  obtain ⟨q, z, e, a, h⟩ := g v hv
  exact ⟨q, z, e, a.nl s, h⟩
theorem GoodM.snoc {CM : Addr} {x y : Option Q2 × Bool} {H : Hp} {ys : List V} {q : Addr} {z : Q2} (g : GoodM CM x y H ys) (a : QAt CM H q 300 z) (h : (loIn x.1 x.2 z && hiIn y.1 y.2 z) = true) : GoodM CM x y H (ys ++ [.ref q]) := fun v hv => by
  rcases List.mem_append.mp hv with hv | hv
  · exact g v hv
  · have : v = .ref q := by simpa using hv
    exact ⟨q, z, this, a, h⟩
section
variable {a b : Q2} {i j : Bool} {yo xo : Option Q2}
end
end My
namespace My
open PySem PySem.Spec PyProof.Rows L2
/-! ### comprehensions within comprehensions: the readings of the inner ones are found ahead -/
section
variable {X : Cx}
end
end My
namespace My
open PySem PySem.Spec PyProof.Rows L2
/-! ### repr of a tuple that holds own objects -/
section
variable {X : Cx} {n : Nat} {CX : CXT} {C f : Addr} {fd : FuncData} {ps : List Str} {sp : Sp} {E : XK}
end
/-! ### == of tuples, item by item -/
section
open GQ
open AutoSeq1 (wpAny_loadPart')
variable {prog : Program} {w : World} {A : Around} {R : Result → Shared → Prop}
end
section
variable {X : Cx} {n : Nat} {D : Eqb}
end
/-! ### {x} of an own object, repr of one whose own def shows a tuple -/
section
variable {X : Cx} {n : Nat} {CX : CXT} {C f : Addr} {fd : FuncData} {ps : List Str} {sp : Sp} {E : XK}
end
end My
namespace My
open PySem PySem.Spec PyProof.Rows L2
/-! ### signs of texts; dicts beside own == -/
/-! ### own == within comprehensions: K by name -/
end My
/-! ### own errors whose __init__ calls super().__init__(..): over any built-in base -/
namespace My
open PySem PySem.Spec PyProof.Rows L2 NdefX Builtin Builtin.ObjectAttr
/-- own classes, then T -/
def refsT (T : List Value) : List Value → Bool
  | .ref _ :: r => refsT T r
  | l => l == T
/-- what is asked of the built-in base -/
structure BaseX (B newId initId : String) (T : List Value) : Prop where
  F : ExcBaseFacts B newId initId T
  KF : PySem.W.KxsFacts B initId
  pass : ∀ self, refuseLoop self "__setattr__" T = pure ()
  ob : T.contains (.type "object") = true
  ne : T ≠ []
  nr : ∀ c r, T ≠ .ref c :: r
theorem refsT_cases {T : List Value} : ∀ l : List Value, refsT T l = true → (∃ c r, l = .ref c :: r ∧ refsT T r = true) ∨ l = T
  | [], e => .inr (beq_iff_eq.mp e)
  | .ref c :: r, e => .inl ⟨c, r, rfl, e⟩
  | .none :: _, e => .inr (beq_iff_eq.mp e)
  | .ellipsis :: _, e => .inr (beq_iff_eq.mp e)
  | .notImplemented :: _, e => .inr (beq_iff_eq.mp e)
  | .bool _ :: _, e => .inr (beq_iff_eq.mp e)
  | .int _ _ :: _, e => .inr (beq_iff_eq.mp e)
  | .float _ _ :: _, e => .inr (beq_iff_eq.mp e)
  | .str _ _ :: _, e => .inr (beq_iff_eq.mp e)
  | .bytes _ _ :: _, e => .inr (beq_iff_eq.mp e)
  | .type _ :: _, e => .inr (beq_iff_eq.mp e)
  | .builtin _ :: _, e => .inr (beq_iff_eq.mp e)
section
variable {B newId initId : String} {T : List Value} (bx : BaseX B newId initId T)
include bx
theorem BaseX.contains (X : String) : ∀ l : List Value, refsT T l = true → l.contains (.type X) = T.contains (.type X) := by
  intro l
  induction l with
  | nil => intro e; exact absurd (beq_iff_eq.mp e).symm bx.ne
  | cons a r ih =>
    intro e
    rcases refsT_cases (a :: r) e with ⟨c, r', q, h⟩ | q
    · obtain ⟨rfl, rfl⟩ := List.cons.inj q
      rw [List.contains_cons, ih h]; rfl
    · rw [q]
end
section
open PySem.HandSPX (store_in_new)
variable {prog : Program} {w : World} {A : Around} {E : Value → Shared → Prop} {R : Result → Shared → Prop} {hp : Heap} {g : Array GenState} {d : Drawn} {t : Nat} {os : OsState}
end
section
variable {Bn newId initId : String} {T : List Value} (bx : BaseX Bn newId initId T) {X : Cx} {pins : List (Addr × Obj)} {σ : L2.St} {H : Hp} {s : Shared} {a C dx : Addr} {f : Str} {y : V} {u : Value} {fs : List (Str × V)} {Q : Unit → Shared → Prop} {E : Value → Shared → Prop} {A : Around}
include bx
end
/-! ### super().__init__(..), then the fields -/
/-- an own __init__ as it stands behind the top: its closure one cell that holds its class; f its address, cc the cell, cda its code object, told by the file fl -/
structure SupD (K : PySem.W.Frag) (C : Addr) (name qual : Str) (params : Arguments) (body : List Stmt) (scope : Scope) (dvs : List V) (f cc cda : Addr) (fl : Str) (fd : FuncData) : Prop where
  ex : ∃ (oc : Value) (od : Option Addr) (dV kV doc pm : Value) (an : Option Addr) (ct : Value) (osl : Array (Option Value)),
    fd = PySem.W.fnX name qual params body scope [("__class__", cc)] dV kV doc pm an (.ref cda) ct ∧ K.lookup f = some ⟨oc, od, .func fd, osl⟩ ∧ DflV K dV dvs ∧ KwdV K kV []
  cell : ∃ (c0 : Value) (d0 : Option Addr) (s0 : Array (Option Value)), K.lookup cc = some ⟨c0, d0, .cell (some (.ref C)), s0⟩
  code : ∃ (c0 : Value) (d0 : Option Addr) (vs : Array Value) (s0 : Array (Option Value)) (tf : Tok), K.lookup cda = some ⟨c0, d0, .fields vs, s0⟩ ∧ vs[2]? = some (.str fl tf)
  cin : PySem.W.codeIn K (.ref cda) qual = true
  kp : PySem.W.keepIn K (.ref f) = true
section
variable {Bn newId initId : String} {T : List Value} (bx : BaseX Bn newId initId T) {X : Cx} {pins : List (Addr × Obj)} {σ : L2.St} {H : Hp} {s : Shared} {e C : Addr} {Q : Value → Shared → Prop}
include bx
end
section
variable {Bn newId initId : String} {T : List Value} (bx : BaseX Bn newId initId T) {X : Cx} {pins : List (Addr × Obj)} {σ : L2.St} {H : Hp} {s : Shared} {a C cc cda f : Addr}
include bx
end
section
variable {Bn newId initId : String} {T : List Value} (bx : BaseX Bn newId initId T) {CX : CXT} {P : Program} {w : World} {K : PySem.W.Frag} {mg : Str → Option Value} {base : Heap} {k : Nat} {C : Addr}
include bx
end
end My
/-! ### errors with fields: made, caught, kept -/
namespace My
open PySem PySem.Spec PyProof.Rows L2 NdefX
/-! #### what the top has written of them -/
/-! #### the head with such __init__ -/
theorem SupD.bindsA {K : PySem.W.Frag} {C : Addr} {name qual : Str} {params : Arguments} {body : List Stmt} {scope : Scope} {f cc cda : Addr} {fl : Str} {fd : FuncData} {ps : List Str} (D : SupD K C name qual params body scope [] f cc cda fl fd)
    (h : ∀ (kV doc pm : Value) (an : Option Addr) (ct : Value) (us : List Value), us.length = ps.length → bindArgs (PySem.W.fnX name qual params body scope [("__class__", cc)] .none kV doc pm an (.ref cda) ct) ⟨us, []⟩ = pure (ps.zip us)) : Binds K fd ps [] := by
  obtain ⟨oc, od, dV, kV, doc, pm, an, ct, osl, rfl, lk, hD, hK⟩ := D.ex
  rcases hD with ⟨_, rfl⟩ | ⟨e, _⟩
  · exact .all (h kV doc pm an ct)
  · exact absurd rfl e
/-! #### self.f = e -/
/-! #### C(e, ..) -/
section
variable {Bn newId initId : String} {T : List Value} {X : Cx} {e : Expr} {es : List Expr} {ta : TA} {p pos : Pos} {CX : CXT} {x : Str} {C fI : Addr} {k : Nat} {fd : FuncData} {ps : List Str} {ds : List Value} {dvs : List V} {f g : Str}
end
/-! #### an error that was caught and is kept -/
/-! #### what is asked of a kept error -/
end My
namespace PySem.W
open PySem PySem.Spec PySem.Calls PyProof.Rows
section
variable {prog : Program} {w : World} {A : Around} {E : Value → Shared → Prop} {s : Shared} {K : Frag} {x D : Addr} {ox : Obj} {od : Option Obj}
end
end PySem.W
namespace My
open PySem PySem.Spec PyProof.Rows L2 NdefX
end My
/-! ### repr of plain dicts; things of any kind -/
namespace My
open PySem PySem.Spec PyProof.Rows L2 NdefX
def encK : Key → PyData
  | .inl i => .int i
  | .inr x => .str x
/-- a plain value: none, a truth, a whole number, a text -/
inductive Plain : V → PyData → Prop
  | non : Plain .non .none
  | bl (b : Bool) : Plain (.bl b) (.bool b)
  | int (i : Int) : Plain (.int i) (.int i)
  | str (x : Str) : Plain (.str x) (.str x)
inductive Flat : List (Key × V) → List (PyData × PyData) → Prop
  | nil : Flat [] []
  | cons {k : Key} {v : V} {d : PyData} {kvs : List (Key × V)} {D : List (PyData × PyData)} : Plain v d → Flat kvs D → Flat ((k, v) :: kvs) ((encK k, d) :: D)
/-- what repr shows of it -/
inductive Shw (K : PySem.W.Frag) (H : Hp) : V → Str → Prop
  | data {v : V} {d : PyData} : Dp K H v d → d.showable = true → d.hasDict = false → d.depth ≤ 60 → d.shown.length ≤ sizeLine → Shw K H v d.shown
  | dict {a : Addr} {kvs : List (Key × V)} {D : List (PyData × PyData)} : H a = some (.dK kvs) → Flat kvs D → (PyData.dict D).showable = true → (PyData.dict D).depth ≤ 60 → (PyData.dict D).shown.length ≤ sizeLine → Shw K H (.ref a) (PyData.dict D).shown
mutual
theorem Dp.same {K : PySem.W.Frag} {H H' : Hp} (s : Same H H') : ∀ {v : V} {d : PyData}, Dp K H v d → Dp K H' v d
  | _, _, .non => .non
  | _, _, .bl b => .bl b
  | _, _, .int i => .int i
  | _, _, .str x => .str x
  | _, _, .lst h a => .lst (s.seq h) (DpAll.same s a)
  | _, _, .tup h a => .tup (s.sqt h) (DpAll.same s a)
theorem DpAll.same {K : PySem.W.Frag} {H H' : Hp} (s : Same H H') : ∀ {vs : List V} {ds : List PyData}, DpAll K H vs ds → DpAll K H' vs ds
  | _, _, .nil => .nil
  | _, _, .cons h r => .cons (Dp.same s h) (DpAll.same s r)
end
theorem Shw.same {K : PySem.W.Frag} {H H' : Hp} {v : V} {z : Str} (h : Shw K H v z) (s : Same H H') : Shw K H' v z := by
  cases h with
  | data d a b c e => exact .data (Dp.same s d) a b c e
  | dict ha hf a b c => exact .dict (s _ _ ha) hf a b c
/-- its kind: one of the seven built-in ones -/
def Kd (H : Hp) (v : V) (kn : String) : Prop := (v = .non ∧ kn = "NoneType") ∨ (∃ b, v = .bl b ∧ kn = "bool") ∨ (∃ i, v = .int i ∧ kn = "int") ∨ (∃ z, v = .str z ∧ kn = "str") ∨ (∃ a xs, v = .ref a ∧ H a = some (.lst xs) ∧ kn = "list") ∨ (∃ a xs, v = .ref a ∧ H a = some (.tup xs) ∧ kn = "tuple") ∨ (∃ a xs, v = .ref a ∧ H a = some (.dK xs) ∧ kn = "dict")
theorem Kd.same {H H' : Hp} {v : V} {kn : String} (h : Kd H v kn) (s : Same H H') : Kd H' v kn := by
  rcases h with h | h | h | h | ⟨a, xs, e, h, n⟩ | ⟨a, xs, e, h, n⟩ | ⟨a, xs, e, h, n⟩
  · exact .inl h
  · exact .inr (.inl h)
  · exact .inr (.inr (.inl h))
  · exact .inr (.inr (.inr (.inl h)))
  · exact .inr (.inr (.inr (.inr (.inl ⟨a, xs, e, s _ _ h, n⟩))))
  · exact .inr (.inr (.inr (.inr (.inr (.inl ⟨a, xs, e, s _ _ h, n⟩)))))
  · exact .inr (.inr (.inr (.inr (.inr (.inr ⟨a, xs, e, s _ _ h, n⟩)))))
theorem Kd.ty {K : PySem.W.Frag} {H : Hp} {v : V} {kn : String} (h : Kd H v kn) : TyX K H v (.type kn) := by
  rcases h with ⟨rfl, rfl⟩ | ⟨b, rfl, rfl⟩ | ⟨i, rfl, rfl⟩ | ⟨z, rfl, rfl⟩ | ⟨a, xs, rfl, h, rfl⟩ | ⟨a, xs, rfl, h, rfl⟩ | ⟨a, xs, rfl, h, rfl⟩
  · exact .base .non
  · exact .base (.bl b)
  · exact .base (.int i)
  · exact .base (.str z)
  · exact .base (.lst h)
  · exact .base (.tup h)
  · exact .base (.dK h)
/-! ### o.m(e, ..) in a body from which an error may come -/
section
variable {X : Cx} {CX : CXT} {k : Nat} {f C : Addr} {fd : FuncData} {ps : List Str} {sp : Sp} {dvs : List V} {ds : List Value} {E : L2.St → XK} {x m : Str} {p pos apos : Pos} {e o : Expr} {es : List Expr} {ta : TE} {t : TA}
end
end My
namespace My
open PySem PySem.Spec PyProof.Rows L2
/-! ### comprehensions with two walks -/
/-! ### pairs of sizes, feet, rules broken -/
def PrV (H : Hp) (v : V) (p : Nat × Nat) : Prop := ∃ T, v = .ref T ∧ H T = some (.tup [.int (p.1 : Int), .int (p.2 : Int)])
theorem PrV.same {H H' : Hp} {v : V} {p : Nat × Nat} (a : PrV H v p) (s : Same H H') : PrV H' v p := by
  obtain ⟨T, e, h⟩ := a
  exact ⟨T, e, s _ _ h⟩
theorem PrV.nl {H H' : Hp} {v : V} {p : Nat × Nat} (a : PrV H v p) (s : Nl H H') : PrV H' v p := by
  obtain ⟨T, e, h⟩ := a
  exact ⟨T, e, s _ _ h rfl⟩
theorem PrV.kp {H H' : Hp} {h : Addr} {n : Nat} {v : V} {p : Nat × Nat} (a : PrV H v p) (hh : HandAt H h n) (s : Kp h H H') : PrV H' v p := by
  obtain ⟨T, e, h⟩ := a
  exact ⟨T, e, s.get hh h rfl⟩
/-- a grid, its ladders, their bits -/
structure GC (K : PySem.W.Frag) (CM CL CG : Addr) (H : Hp) (p : Addr) (j k : Nat) (L1 L2 : Addr) (zs ys : List Q2) (g : Q2) : Prop where
  ag : GrdAt K CM CL CG H p j L1 L2 g
  a1 : LadE K CM CL H L1 k zs
  a2 : LadE K CM CL H L2 k ys
  j0 : 0 < j
  j1 : j ≤ 1000
  k0 : 0 < k
  k1 : k ≤ 1000
  l0 : 0 < zs.length
  l1 : zs.length ≤ 24
  m0 : 0 < ys.length
  m1 : ys.length ≤ 24
section
variable {K : PySem.W.Frag} {CM CL CG p h L1 L2 : Addr} {H H' : Hp} {j k n : Nat} {zs ys : List Q2} {g : Q2}
theorem GC.same (a : GC K CM CL CG H p j k L1 L2 zs ys g) (s : Same H H') : GC K CM CL CG H' p j k L1 L2 zs ys g := by
  obtain ⟨r1, lo1, hi1, a1⟩ := a.a1
  obtain ⟨r2, lo2, hi2, a2⟩ := a.a2
  exact { a with ag := a.ag.same s, a1 := ⟨_, _, _, a1.same s⟩, a2 := ⟨_, _, _, a2.same s⟩ }
theorem GC.kp (a : GC K CM CL CG H p j k L1 L2 zs ys g) (hh : HandAt H h n) (s : Kp h H H') : GC K CM CL CG H' p j k L1 L2 zs ys g := by
  obtain ⟨r1, lo1, hi1, a1⟩ := a.a1
  obtain ⟨r2, lo2, hi2, a2⟩ := a.a2
  exact { a with ag := a.ag.kp hh s, a1 := ⟨_, _, _, a1.kp hh s⟩, a2 := ⟨_, _, _, a2.kp hh s⟩ }
end
/-- a foot: two Measures -/
def FtV (K : PySem.W.Frag) (CM : Addr) (H : Hp) (m : Nat) (v : V) (f : Q2 × Q2) : Prop := ∃ t f1 f2, v = .ref t ∧ SqT K H t [.ref f1, .ref f2] ∧ QAt CM H f1 m f.1 ∧ QAt CM H f2 m f.2
theorem FtV.same {K : PySem.W.Frag} {CM : Addr} {H H' : Hp} {m : Nat} {v : V} {f : Q2 × Q2} (a : FtV K CM H m v f) (s : Same H H') : FtV K CM H' m v f := by
  obtain ⟨t, f1, f2, e, h1, h2, h3⟩ := a
  exact ⟨t, f1, f2, e, s.sqt h1, h2.same s, h3.same s⟩
theorem FtV.nl {K : PySem.W.Frag} {CM : Addr} {H H' : Hp} {m : Nat} {v : V} {f : Q2 × Q2} (a : FtV K CM H m v f) (s : Nl H H') : FtV K CM H' m v f := by
  obtain ⟨t, f1, f2, e, h1, h2, h3⟩ := a
  exact ⟨t, f1, f2, e, sqt_nl h1 s, h2.nl s, h3.nl s⟩
theorem FtV.kp {K : PySem.W.Frag} {CM : Addr} {H H' : Hp} {h : Addr} {n m : Nat} {v : V} {f : Q2 × Q2} (a : FtV K CM H m v f) (hh : HandAt H h n) (s : Kp h H H') : FtV K CM H' m v f := by
  obtain ⟨t, f1, f2, e, h1, h2, h3⟩ := a
  exact ⟨t, f1, f2, e, sqt_kp h1 hh s, h2.kp hh s, h3.kp hh s⟩
/-- several feet -/
structure Fts (K : PySem.W.Frag) (CM : Addr) (H : Hp) (m : Nat) (us : List V) (fs : List (Q2 × Q2)) : Prop where
  len : us.length = fs.length
  all : ∀ (i : Nat) (v : V) (f : Q2 × Q2), us[i]? = some v → fs[i]? = some f → FtV K CM H m v f
section
variable {K : PySem.W.Frag} {CM h : Addr} {H H' : Hp} {m n : Nat} {us : List V} {fs : List (Q2 × Q2)}
theorem Fts.same (a : Fts K CM H m us fs) (s : Same H H') : Fts K CM H' m us fs := ⟨a.len, fun i v f h1 h2 => (a.all i v f h1 h2).same s⟩
theorem Fts.nl (a : Fts K CM H m us fs) (s : Nl H H') : Fts K CM H' m us fs := ⟨a.len, fun i v f h1 h2 => (a.all i v f h1 h2).nl s⟩
theorem Fts.kp (a : Fts K CM H m us fs) (hh : HandAt H h n) (s : Kp h H H') : Fts K CM H' m us fs := ⟨a.len, fun i v f h1 h2 => (a.all i v f h1 h2).kp hh s⟩
theorem Fts.of (a : Fts K CM H m us fs) {i : Nat} {v : V} (h1 : us[i]? = some v) : ∃ f, fs[i]? = some f ∧ FtV K CM H m v f := by
  have hi : i < fs.length := by rw [← a.len]; exact (List.getElem?_eq_some_iff.mp h1).1
  exact ⟨_, List.getElem?_eq_getElem hi, a.all i v _ h1 (List.getElem?_eq_getElem hi)⟩
theorem Fts.at (a : Fts K CM H m us fs) {i : Nat} {f : Q2 × Q2} (h1 : fs[i]? = some f) : ∃ v, us[i]? = some v ∧ FtV K CM H m v f := by
  have hi : i < us.length := by rw [a.len]; exact (List.getElem?_eq_some_iff.mp h1).1
  exact ⟨_, List.getElem?_eq_getElem hi, a.all i _ f (List.getElem?_eq_getElem hi) h1⟩
end
def FoV (H : Hp) (v : V) : Option (Nat × Str) → Prop
  | none => v = .non
  | some q => ∃ T, v = .ref T ∧ H T = some (.tup [.int (q.1 : Int), .str q.2])
theorem FoV.same {H H' : Hp} {v : V} (s : Same H H') : ∀ {o : Option (Nat × Str)}, FoV H v o → FoV H' v o
  | none, h => h
  | some _, ⟨T, h1, h2⟩ => ⟨T, h1, s _ _ h2⟩
/-- a paper -/
def PpV (H : Hp) (v : V) (p : Nat × Nat) (q : Nat × Str) : Prop := ∃ T, v = .ref T ∧ H T = some (.tup [.int (p.1 : Int), .int (p.2 : Int), .int (q.1 : Int), .str q.2])
theorem PpV.same {H H' : Hp} {v : V} {p : Nat × Nat} {q : Nat × Str} (a : PpV H v p q) (s : Same H H') : PpV H' v p q := by
  obtain ⟨T, e, h⟩ := a
  exact ⟨T, e, s _ _ h⟩
theorem PpV.nl {H H' : Hp} {v : V} {p : Nat × Nat} {q : Nat × Str} (a : PpV H v p q) (s : Nl H H') : PpV H' v p q := by
  obtain ⟨T, e, h⟩ := a
  exact ⟨T, e, s _ _ h rfl⟩
theorem PpV.kp {H H' : Hp} {h : Addr} {n : Nat} {v : V} {p : Nat × Nat} {q : Nat × Str} (a : PpV H v p q) (hh : HandAt H h n) (s : Kp h H H') : PpV H' v p q := by
  obtain ⟨T, e, h⟩ := a
  exact ⟨T, e, s.get hh h rfl⟩
/-- the papers of pairs each of which is broken -/
structure Pps (H : Hp) (us : List V) (ps : List (Nat × Nat)) (F : Nat × Nat → Option (Nat × Str)) : Prop where
  len : us.length = ps.length
  all : ∀ (i : Nat) (v : V) (p : Nat × Nat), us[i]? = some v → ps[i]? = some p → ∃ q, F p = some q ∧ PpV H v p q
section
variable {H H' : Hp} {h : Addr} {n : Nat} {us : List V} {ps : List (Nat × Nat)} {F : Nat × Nat → Option (Nat × Str)}
theorem Pps.same (a : Pps H us ps F) (s : Same H H') : Pps H' us ps F := ⟨a.len, fun i v p h1 h2 => by
  obtain ⟨q, e, h⟩ := a.all i v p h1 h2
  exact ⟨q, e, h.same s⟩⟩
theorem Pps.nl (a : Pps H us ps F) (s : Nl H H') : Pps H' us ps F := ⟨a.len, fun i v p h1 h2 => by
  obtain ⟨q, e, h⟩ := a.all i v p h1 h2
  exact ⟨q, e, h.nl s⟩⟩
theorem Pps.kp (a : Pps H us ps F) (hh : HandAt H h n) (s : Kp h H H') : Pps H' us ps F := ⟨a.len, fun i v p h1 h2 => by
  obtain ⟨q, e, h⟩ := a.all i v p h1 h2
  exact ⟨q, e, h.kp hh s⟩⟩
end
/-- what pair_for tells -/
def ToldV (H : Hp) (v : V) (ps : List (Nat × Nat)) (F : Nat × Nat → Option (Nat × Str)) : Option (Nat × Nat) → Prop
  | some p => ∃ T w, v = .ref T ∧ H T = some (.tup [.str "pair", w]) ∧ PrV H w p
  | none => ∃ T q us, v = .ref T ∧ H T = some (.tup [.str "none", .ref q]) ∧ H q = some (.tup us) ∧ Pps H us ps F
theorem ToldV.same {H H' : Hp} {v : V} {ps : List (Nat × Nat)} {F : Nat × Nat → Option (Nat × Str)} (s : Same H H') : ∀ {o : Option (Nat × Nat)}, ToldV H v ps F o → ToldV H' v ps F o
  | some _, ⟨T, w, h1, h2, h3⟩ => ⟨T, w, h1, s _ _ h2, h3.same s⟩
  | none, ⟨T, q, us, h1, h2, h3, h4⟩ => ⟨T, q, us, h1, s _ _ h2, s _ _ h3, h4.same s⟩
theorem ToldV.nl {H H' : Hp} {v : V} {ps : List (Nat × Nat)} {F : Nat × Nat → Option (Nat × Str)} (s : Nl H H') : ∀ {o : Option (Nat × Nat)}, ToldV H v ps F o → ToldV H' v ps F o
  | some _, ⟨T, w, h1, h2, h3⟩ => ⟨T, w, h1, s _ _ h2 rfl, h3.nl s⟩
  | none, ⟨T, q, us, h1, h2, h3, h4⟩ => ⟨T, q, us, h1, s _ _ h2 rfl, s _ _ h3 rfl, h4.nl s⟩
theorem ToldV.kp {H H' : Hp} {h : Addr} {n : Nat} {v : V} {ps : List (Nat × Nat)} {F : Nat × Nat → Option (Nat × Str)} (hh : HandAt H h n) (s : Kp h H H') : ∀ {o : Option (Nat × Nat)}, ToldV H v ps F o → ToldV H' v ps F o
  | some _, ⟨T, w, h1, h2, h3⟩ => ⟨T, w, h1, s.get hh h2 rfl, h3.kp hh s⟩
  | none, ⟨T, q, us, h1, h2, h3, h4⟩ => ⟨T, q, us, h1, s.get hh h2 rfl, s.get hh h3 rfl, h4.kp hh s⟩
end My
/-! ### zip of two walks, each over a list (false) or a tuple (true) -/
namespace My
open PySem PySem.Spec PyProof.Rows L2
def KI (b : Bool) (h : Heap) (it l : Addr) (i : Nat) : Prop := if b = true then h.IsTupleIter it l i else h.IsListIter it l i
def KS (b : Bool) (h : Heap) (l : Addr) (items : Array Value) : Prop := if b = true then h.IsTuple l items else h.IsList l items
section
variable {b : Bool} {h h' : Heap} {it l c : Addr} {i : Nat} {items : Array Value}
theorem KI.ext (a : KI b h it l i) (k : Heap.ExtBut c h h') (n : it ≠ c) : KI b h' it l i := by
  cases b with
  | false => exact Heap.IsListIter.extBut (show h.IsListIter it l i from a) k n
  | true => exact Heap.IsTupleIter.extBut (show h.IsTupleIter it l i from a) k n
theorem KI.move (a : KI b h it l i) (k : ∀ o, h.get? it = some o → h'.get? it = some o) : KI b h' it l i := by
  cases b with
  | false => exact Heap.IsListIter.at (show h.IsListIter it l i from a) k
  | true => exact Heap.IsTupleIter.at (show h.IsTupleIter it l i from a) k
theorem KI.obj (a : KI b h it l i) : ∃ o, h.get? it = some o ∧ ∀ v, o.data ≠ .cell v := by
  cases b with
  | false =>
    obtain ⟨o, e, _, d⟩ := (show h.IsListIter it l i from a)
    exact ⟨o, e, fun v q => by rw [d] at q; cases q⟩
  | true =>
    obtain ⟨o, e, _, d⟩ := (show h.IsTupleIter it l i from a)
    exact ⟨o, e, fun v q => by rw [d] at q; cases q⟩
theorem KS.ext (a : KS b h l items) (k : Heap.ExtBut c h h') (n : l ≠ c) : KS b h' l items := by
  cases b with
  | false => exact Heap.IsList.extBut (show h.IsList l items from a) k n
  | true => exact Heap.IsTuple.extBut (show h.IsTuple l items from a) k n
theorem KS.lt (a : KS b h l items) : l < h.objs.size := by
  cases b with
  | false =>
    obtain ⟨o, e, _⟩ := (show h.IsList l items from a)
    exact Heap.lt_size e
  | true =>
    obtain ⟨o, e, _⟩ := (show h.IsTuple l items from a)
    exact Heap.lt_size e
end
section
variable {prog : Program} {w : World} {A : Around} {E : Value → Shared → Prop} {s : Shared} {b : Bool} {it l : Addr} {i : Nat} {items : Array Value}
theorem ki_item {x : Value} {Q : Value → Shared → Prop} (a : KI b s.heap it l i) (q : KS b s.heap l items) (hx : items[i]? = some x)
    (f : ∀ h', KI b h' it l (i + 1) → Heap.SameBut it s.heap h' → Q x { s with heap := h' }) : wpAny (model prog w) A (Builtin.SmallTypes.nextOf (.ref it)) Q E s := by
  cases b with
  | false => exact wpAny_nextOf_list_item (show s.heap.IsListIter it l i from a) (show s.heap.IsList l items from q) hx f
  | true => exact RZ.nextOf_tuple_item (show s.heap.IsTupleIter it l i from a) (show s.heap.IsTuple l items from q) hx f
theorem ki_end {Q : Value → Shared → Prop} (hh : A.handled = none) (a : KI b s.heap it l i) (q : KS b s.heap l items) (hx : items[i]? = none)
    (f : ∀ h' e, Heap.ExtBut it s.heap h' → (∃ o, h'.get? e = some o ∧ o.cls = .type "StopIteration") → E (.ref e) { s with heap := h' }) : wpAny (model prog w) A (Builtin.SmallTypes.nextOf (.ref it)) Q E s := by
  cases b with
  | false => exact wpAny_nextOf_list_end hh (show s.heap.IsListIter it l i from a) (show s.heap.IsList l items from q) hx f
  | true => exact RZ.nextOf_tuple_end hh (show s.heap.IsTupleIter it l i from a) (show s.heap.IsTuple l items from q) hx f
end

/-- all but four places keep their objects -/
def Kept4 (z TO i1 i2 : Addr) (h h' : Heap) : Prop := ∀ c o, c ≠ z → c ≠ TO → c ≠ i1 → c ≠ i2 → h.get? c = some o → h'.get? c = some o
/-- a zip in the midst: what stands -/
structure ZAt (b1 b2 : Bool) (h : Heap) (z TI TO i1 i2 l1 l2 : Addr) (k1 k2 : Nat) (f0 a b : Value) : Prop where
  hz : IsZip h z TI TO f0
  ti : IsPair h TI (.ref i1) (.ref i2)
  to : IsPair h TO a b
  i1 : KI b1 h i1 l1 k1
  i2 : KI b2 h i2 l2 k2
section
variable {prog : Program} {w : World} {A : Around} {E : Value → Shared → Prop} {s : Shared} {b1 b2 : Bool} {z TI TO i1 i2 l1 l2 : Addr} {k1 k2 : Nat} {xs ys : Array Value} {x y a b : Value}
theorem zn_item {Q : Value → Shared → Prop} (D : ZipApart z TI TO i1 i2 l1 l2) (Z : ZAt b1 b2 s.heap z TI TO i1 i2 l1 l2 k1 k2 .none a b) (s1 : KS b1 s.heap l1 xs) (s2 : KS b2 s.heap l2 ys) (hx : xs[k1]? = some x) (hy : ys[k2]? = some y)
    (f : ∀ h', ZAt b1 b2 h' z TI TO i1 i2 l1 l2 (k1 + 1) (k2 + 1) (rawInt s.heap.objs.size) x y → IsPair h' s.heap.objs.size x y → h'.objs.size = s.heap.objs.size + 1 → Kept4 z TO i1 i2 s.heap h' → Q (.ref s.heap.objs.size) { s with heap := h' }) :
    wpAny (model prog w) A (Builtin.«zip.__next__» ⟨[.ref z], []⟩) (fun fin s' => ∃ v, fin = .done (.ret v) ∧ Q v s') E s := by
  obtain ⟨z0, t0, o0, a0, c0⟩ := Z
  show wpAny _ _ (field (.ref z) 2 >>= _) _ _ _
  apply wpAny_bind
  apply wpAny_field z0 rfl (x := .bool false) rfl
  show wpAny _ _ (field (.ref z) 3 >>= _) _ _ _
  apply wpAny_bind
  apply wpAny_field z0 rfl (x := .ref TI) rfl
  apply wpAny_bind
  apply wpAny_seqItems t0 rfl
  show wpAny _ _ (Builtin.SmallTypes.ownedTupleIsFree (.ref z) >>= _) _ _ _
  apply wpAny_bind
  unfold Builtin.SmallTypes.ownedTupleIsFree
  apply wpAny_bind
  apply wpAny_field z0 rfl (x := .none) rfl
  apply wpAny_pure
  simp only [if_true]
  apply wpAny_bind
  apply wpAny_rule
  apply wpAny_bind
  apply wpAny_field z0 rfl (x := .ref TO) rfl
  apply wpAny_bind
  refine wpAny_setField_rec z0 (by simp) fun g1 z1 e1 => ?_
  replace z1 : IsZip g1 z TI TO .ellipsis := z1
  have x1 := e1.extBut
  apply wpAny_bind
  simp only [List.zipIdx_cons, List.zipIdx_nil, List.forIn_cons, List.forIn_nil]
  apply wpAny_bind
  apply wpAny_bind
  apply wpAny_onRaise
  show wpAny _ _ (Builtin.SmallTypes.nextOf (.ref i1) >>= _) _ _ _
  apply wpAny_bind
  refine ki_item (a0.ext x1 D.i1z) (s1.ext x1 D.l1z) hx fun g2 a2 e2 => wpAny_pure ?_
  have x2 := e2.extBut
  have o2 : IsPair g2 TO a b := x2 _ _ D.TOi1 (x1 _ _ D.TOz o0)
  apply wpAny_bind
  apply wpAny_seqItems o2 rfl
  apply wpAny_bind
  refine wpAny_updateSeq_pair o2 fun g3 o3 e3 => ?_
  replace o3 : IsPair g3 TO x b := o3
  have x3 := e3.extBut
  apply wpAny_bind
  apply wpAny_letGo
  apply wpAny_pure
  apply wpAny_bind
  apply wpAny_bind
  apply wpAny_onRaise
  show wpAny _ _ (Builtin.SmallTypes.nextOf (.ref i2) >>= _) _ _ _
  apply wpAny_bind
  refine ki_item (((c0.ext x1 D.i2z).ext x2 D.i12.symm).ext x3 D.TOi2.symm) (((s2.ext x1 D.l2z).ext x2 D.l2i1).ext x3 D.l2TO) hy fun g4 c4 e4 => wpAny_pure ?_
  have x4 := e4.extBut
  have o4 : IsPair g4 TO x b := x4 _ _ D.TOi2 o3
  apply wpAny_bind
  apply wpAny_seqItems o4 rfl
  apply wpAny_bind
  refine wpAny_updateSeq_pair o4 fun g5 o5 e5 => ?_
  replace o5 : IsPair g5 TO x y := o5
  have x5 := e5.extBut
  apply wpAny_bind
  apply wpAny_letGo
  apply wpAny_pure
  apply wpAny_pure
  apply wpAny_bind
  apply wpAny_seqItems o5 rfl
  apply wpAny_bind
  refine wpAny_newTuple ?_
  have sz5 : g5.objs.size = s.heap.objs.size := by rw [e5.1, e4.1, e3.1, e2.1, e1.1]
  have z5 : IsZip g5 z TI TO .ellipsis := x5 _ _ D.TOz.symm (x4 _ _ D.i2z.symm (x3 _ _ D.TOz.symm (x2 _ _ D.i1z.symm z1)))
  have kp5 : Kept4 z TO i1 i2 s.heap g5 := fun c o n1 n2 n3 n4 q => x5 _ _ n2 (x4 _ _ n4 (x3 _ _ n2 (x2 _ _ n3 (x1 _ _ n1 q))))
  have a5 := ((a2.ext x3 D.TOi1.symm).ext x4 D.i12).ext x5 D.TOi1.symm
  have c5 := c4.ext x5 D.TOi2.symm
  have zl : z < g5.objs.size := Heap.lt_size z5
  show wpAny _ _ (Builtin.SmallTypes.ownedTupleHandOut (.ref z) (.ref g5.objs.size) >>= _) _ _ _
  apply wpAny_bind
  unfold Builtin.SmallTypes.ownedTupleHandOut
  have z6 : IsZip (g5.push { cls := .type "tuple", data := .seq #[x, y] }) z TI TO .ellipsis := Heap.get?_push_of_some _ z5
  apply wpAny_bind
  refine wpAny_setField_rec z6 (by simp) fun g7 z7 e7 => ?_
  replace z7 : IsZip g7 z TI TO (rawInt g5.objs.size) := z7
  refine wpAny_setField_rec z7 (by simp) fun g8 z8 e8 => ?_
  replace z8 : IsZip g8 z TI TO (rawInt g5.objs.size) := z8
  have up : ∀ c o, c ≠ z → g5.get? c = some o → g8.get? c = some o := fun c o n q => e8.extBut _ _ n (e7.extBut _ _ n (Heap.get?_push_of_some _ q))
  have new : IsPair g8 g5.objs.size x y := e8.extBut _ _ (Nat.ne_of_gt zl) (e7.extBut _ _ (Nat.ne_of_gt zl) (Heap.get?_push_size _ rfl))
  have sz8 : g8.objs.size = g5.objs.size + 1 := by rw [e8.1, e7.1, Heap.size_push]
  rw [sz5] at z8 new sz8
  refine wpAny_pure ⟨_, rfl, ?_⟩
  show Q (.ref g5.objs.size) _
  rw [sz5]
  refine f g8 ⟨z8, up _ _ D.TIz (kp5 _ _ D.TIz D.TITO D.TIi1 D.TIi2 t0), up _ _ D.TOz o5, a5.move fun o q => up _ o D.i1z q, c5.move fun o q => up _ o D.i2z q⟩ new sz8 fun c o n1 n2 n3 n4 q => up c o n1 (kp5 c o n1 n2 n3 n4 q)
theorem zn_end {Q : Fin → Shared → Prop} (hh : A.handled = none) (D : ZipApart z TI TO i1 i2 l1 l2) (Z : ZAt b1 b2 s.heap z TI TO i1 i2 l1 l2 k1 k2 .none a b) (s1 : KS b1 s.heap l1 xs) (s2 : KS b2 s.heap l2 ys) (he : xs[k1]? = none ∨ ys[k2]? = none)
    (f : ∀ h' e, Kept4 z TO i1 i2 s.heap h' → (∃ o, h'.get? e = some o ∧ o.cls = .type "StopIteration") → E (.ref e) { s with heap := h' }) :
    wpAny (model prog w) A (Builtin.«zip.__next__» ⟨[.ref z], []⟩) Q E s := by
  obtain ⟨z0, t0, o0, a0, c0⟩ := Z
  show wpAny _ _ (field (.ref z) 2 >>= _) _ _ _
  apply wpAny_bind
  apply wpAny_field z0 rfl (x := .bool false) rfl
  show wpAny _ _ (field (.ref z) 3 >>= _) _ _ _
  apply wpAny_bind
  apply wpAny_field z0 rfl (x := .ref TI) rfl
  apply wpAny_bind
  apply wpAny_seqItems t0 rfl
  show wpAny _ _ (Builtin.SmallTypes.ownedTupleIsFree (.ref z) >>= _) _ _ _
  apply wpAny_bind
  unfold Builtin.SmallTypes.ownedTupleIsFree
  apply wpAny_bind
  apply wpAny_field z0 rfl (x := .none) rfl
  apply wpAny_pure
  simp only [if_true]
  apply wpAny_bind
  apply wpAny_rule
  apply wpAny_bind
  apply wpAny_field z0 rfl (x := .ref TO) rfl
  apply wpAny_bind
  refine wpAny_setField_rec z0 (by simp) fun g1 z1 e1 => ?_
  replace z1 : IsZip g1 z TI TO .ellipsis := z1
  have x1 := e1.extBut
  apply wpAny_bind
  simp only [List.zipIdx_cons, List.zipIdx_nil, List.forIn_cons, List.forIn_nil]
  apply wpAny_bind
  apply wpAny_bind
  apply wpAny_onRaise
  show wpAny _ _ (Builtin.SmallTypes.nextOf (.ref i1) >>= _) _ _ _
  cases hx : xs[k1]? with
  | none =>
    apply wpAny_bind
    refine ki_end hh (a0.ext x1 D.i1z) (s1.ext x1 D.l1z) hx fun g2 e e2 he2 => ?_
    obtain ⟨oe, h1, h2⟩ := he2
    have z2 : IsZip g2 z TI TO .ellipsis := e2 _ _ D.i1z.symm z1
    have ne : e ≠ z := fun q => by subst q; rw [z2] at h1; cases h1; simp at h2
    refine wpAny_setField_rec z2 (by simp) fun g3 _ e3 => f g3 e (fun c o n1 _ n3 _ q => e3.extBut _ _ n1 (e2 _ _ n3 (x1 _ _ n1 q))) ⟨oe, e3.extBut _ _ ne h1, h2⟩
  | some x =>
    have hy : ys[k2]? = none := by
      rcases he with q | q
      · rw [hx] at q; cases q
      · exact q
    apply wpAny_bind
    refine ki_item (a0.ext x1 D.i1z) (s1.ext x1 D.l1z) hx fun g2 a2 e2 => wpAny_pure ?_
    have x2 := e2.extBut
    have o2 : IsPair g2 TO a b := x2 _ _ D.TOi1 (x1 _ _ D.TOz o0)
    apply wpAny_bind
    apply wpAny_seqItems o2 rfl
    apply wpAny_bind
    refine wpAny_updateSeq_pair o2 fun g3 o3 e3 => ?_
    have x3 := e3.extBut
    apply wpAny_bind
    apply wpAny_letGo
    apply wpAny_pure
    apply wpAny_bind
    apply wpAny_bind
    apply wpAny_onRaise
    show wpAny _ _ (Builtin.SmallTypes.nextOf (.ref i2) >>= _) _ _ _
    apply wpAny_bind
    refine ki_end hh (((c0.ext x1 D.i2z).ext x2 D.i12.symm).ext x3 D.TOi2.symm) (((s2.ext x1 D.l2z).ext x2 D.l2i1).ext x3 D.l2TO) hy fun g4 e e4 he4 => ?_
    obtain ⟨oe, h1, h2⟩ := he4
    have z4 : IsZip g4 z TI TO .ellipsis := e4 _ _ D.i2z.symm (x3 _ _ D.TOz.symm (x2 _ _ D.i1z.symm z1))
    have ne : e ≠ z := fun q => by subst q; rw [z4] at h1; cases h1; simp at h2
    refine wpAny_setField_rec z4 (by simp) fun g5 _ e5 => f g5 e (fun c o n1 n2 n3 n4 q => e5.extBut _ _ n1 (e4 _ _ n4 (x3 _ _ n2 (x2 _ _ n3 (x1 _ _ n1 q))))) ⟨oe, e5.extBut _ _ ne h1, h2⟩
theorem zp_item {Q : Option Value → Shared → Prop} (D : ZipApart z TI TO i1 i2 l1 l2) (Z : ZAt b1 b2 s.heap z TI TO i1 i2 l1 l2 k1 k2 .none a b) (s1 : KS b1 s.heap l1 xs) (s2 : KS b2 s.heap l2 ys) (hx : xs[k1]? = some x) (hy : ys[k2]? = some y)
    (f : ∀ h', ZAt b1 b2 h' z TI TO i1 i2 l1 l2 (k1 + 1) (k2 + 1) (rawInt s.heap.objs.size) x y → IsPair h' s.heap.objs.size x y → h'.objs.size = s.heap.objs.size + 1 → Kept4 z TO i1 i2 s.heap h' → Q (some (.ref s.heap.objs.size)) { s with heap := h' }) :
    wpAny (model prog w) A (pyNext (.ref z)) Q E s := by
  have hT : s.TypeIs (.ref z) "zip" := ⟨_, Z.hz, rfl⟩
  unfold pyNext
  apply wpAny_bind
  apply wpAny_attempt
  apply wpAny_callSpecial?_slot (name := Str.ofString "__next__") hT F.slot_zip_next
  apply wpAny_call_entry F.slot_zip_next hT F.entry_zip_next ?_ (F.args_zip_next_1 _)
  refine zn_item D Z s1 s2 hx hy fun h' p1 p2 p3 p4 => wpAny_pure (f h' p1 p2 p3 p4)
theorem zp_end {Q : Option Value → Shared → Prop} (hh : A.handled = none) (D : ZipApart z TI TO i1 i2 l1 l2) (Z : ZAt b1 b2 s.heap z TI TO i1 i2 l1 l2 k1 k2 .none a b) (s1 : KS b1 s.heap l1 xs) (s2 : KS b2 s.heap l2 ys) (he : xs[k1]? = none ∨ ys[k2]? = none)
    (f : ∀ h', Kept4 z TO i1 i2 s.heap h' → Q none { s with heap := h' }) : wpAny (model prog w) A (pyNext (.ref z)) Q E s := by
  have hT : s.TypeIs (.ref z) "zip" := ⟨_, Z.hz, rfl⟩
  unfold pyNext
  apply wpAny_bind
  apply wpAny_attempt
  apply wpAny_callSpecial?_slot (name := Str.ofString "__next__") hT F.slot_zip_next
  apply wpAny_call_entry F.slot_zip_next hT F.entry_zip_next ?_ (F.args_zip_next_1 _)
  refine zn_end hh D Z s1 s2 he fun h' e k q => ?_
  obtain ⟨o, h1, h2⟩ := q
  apply wpAny_bind
  exact wpAny_isInstance (T := "StopIteration") (b := true) ⟨o, h1, h2⟩ isSubtype_stop (wpAny_pure (f _ k))
end

/-- a list and a tuple as they stand at each turn -/
def ItzM (K : PySem.W.Frag) (a b : Addr) : It :=
  ⟨fun i H => ∃ (xs ys : List V) (x y : V), SqL K H a xs ∧ SqT K H b ys ∧ xs[i]? = some x ∧ ys[i]? = some y,
    fun i H v H' => ∃ T x y, v = .ref T ∧ H T = none ∧ H' = upd H T (.tup [x, y]) ∧ (∀ xs, SqL K H a xs → xs[i]? = some x) ∧ ∀ ys, SqT K H b ys → ys[i]? = some y,
    fun i H => ∃ xs ys : List V, SqL K H a xs ∧ SqT K H b ys ∧ (xs.length ≤ i ∨ ys.length ≤ i)⟩
theorem turn_zipM {P : Program} {w : World} {K : PySem.W.Frag} {elts : List Expr} {kk : Nat} {tpos : Pos} {a b z TI TO i1 i2 : Addr} (D : ZipApart z TI TO i1 i2 a b) :
    Turn P w K (.Tuple elts kk tpos) (ItzM K a b) [z, TI, TO, i1, i2] z (fun i h => ∃ x y, ZAt false true h z TI TO i1 i2 a b i i .none x y) where
  mem := by simp
  obj := fun i h st c hc => by
    obtain ⟨x, y, Z⟩ := st
    have e' : c = z ∨ c = TI ∨ c = TO ∨ c = i1 ∨ c = i2 := by simpa using hc
    rcases e' with rfl | rfl | rfl | rfl | rfl
    · exact ⟨_, Z.hz, fun v q => nomatch q⟩
    · exact ⟨_, Z.ti, fun v q => nomatch q⟩
    · exact ⟨_, Z.to, fun v q => nomatch q⟩
    · exact Z.i1.obj
    · exact Z.i2.obj
  keep := fun i h h' st k => by
    obtain ⟨x, y, Z⟩ := st
    exact ⟨x, y, k z (by simp) _ Z.hz, k TI (by simp) _ Z.ti, k TO (by simp) _ Z.to, Z.i1.move fun o q => k i1 (by simp) o q, Z.i2.move fun o q => k i2 (by simp) o q⟩
  item := by
    intro X hP hw hK hc i pins s σ H E I hf st hg
    subst hP hw hK
    obtain ⟨x0, y0, Z⟩ := st
    obtain ⟨xs, ys, x, y, qx, qy, hx, hy⟩ := hg
    obtain ⟨its, rv, p, _⟩ := I.list qx
    obtain ⟨its2, rv2, p2, _⟩ := I.tuple qy
    obtain ⟨u, hu, ru⟩ := rv.get hx
    obtain ⟨u2, hu2, ru2⟩ := rv2.get hy
    have zl : z < s.heap.objs.size := Heap.lt_size Z.hz
    refine zp_item D Z (show s.heap.IsList a _ from p.isList) (show s.heap.IsTuple b _ from p2) (x := u) (y := u2) (by simpa using hu) (by simpa using hu2) fun h1 Z1 new sz kp => ?_
    refine ⟨_, rfl, wpAny_letOwnedTupleGo_zip (s := { s with heap := h1 }) Z1.hz fun h2 z2 sb => ?_⟩
    have new2 : h2.get? s.heap.objs.size = some { cls := .type "tuple", data := .seq #[u, u2] } := (sb.2 _ (Nat.ne_of_gt zl)).trans new
    have ok : ObjOk X.prog X.w (upd H s.heap.objs.size (.tup [x, y])) h2 s.heap.objs.size (.tup [x, y]) :=
      ⟨by show 2 ≤ sizeLine; decide, [u, u2], .cons ru (.cons ru2 .nil), ⟨_, new2, rfl, _, rfl⟩⟩
    have I1 : Inv X pins σ (upd H s.heap.objs.size (.tup [x, y])) { s with heap := h2 } := by
      refine I.turnedNew (t' := s.toks) (ch := [z, TI, TO, i1, i2]) (fun c o hb q => ?_) hf (Nat.le_refl _) ok
      simp only [List.mem_cons, List.not_mem_nil, or_false, not_or] at hb
      exact (sb.2 c hb.1).trans (kp c o hb.1 hb.2.2.1 hb.2.2.2.1 hb.2.2.2.2 q)
    refine ⟨.ref s.heap.objs.size, _, I1, rfl, ⟨_, x, y, rfl, I.hok.fresh (Nat.le_refl _), rfl, fun l hl => by rw [I.list_inj hl qx]; exact hx, fun l hl => by rw [I.tuple_inj hl qy]; exact hy⟩, ⟨u, u2, z2, ?_, ?_, ?_, ?_⟩, fun c hcm => ?_⟩
    · exact (sb.2 _ D.TIz).trans Z1.ti
    · exact (sb.2 _ D.TOz).trans Z1.to
    · exact Z1.i1.move fun o q => (sb.2 _ D.i1z).trans q
    · exact Z1.i2.move fun o q => (sb.2 _ D.i2z).trans q
    · have lt : c < s.heap.objs.size := by
        have e' : c = z ∨ c = TI ∨ c = TO ∨ c = i1 ∨ c = i2 := by simpa using hcm
        rcases e' with rfl | rfl | rfl | rfl | rfl
        · exact zl
        · exact Heap.lt_size Z.ti
        · exact Heap.lt_size Z.to
        · obtain ⟨_, e1, _⟩ := Z.i1.obj; exact Heap.lt_size e1
        · obtain ⟨_, e1, _⟩ := Z.i2.obj; exact Heap.lt_size e1
      rw [upd_ne (Nat.ne_of_lt lt)]
      exact (hf c hcm).1
  done := by
    intro X hP hw hK hc i pins s σ H E I hf st hg
    subst hP hw hK
    obtain ⟨x0, y0, Z⟩ := st
    obtain ⟨xs, ys, qx, qy, he⟩ := hg
    obtain ⟨its, rv, p, _⟩ := I.list qx
    obtain ⟨its2, rv2, p2, _⟩ := I.tuple qy
    have l1 := rv.length
    have l2 := rv2.length
    have he2 : its.toArray[i]? = none ∨ its2.toArray[i]? = none := by
      rcases he with q | q
      · exact .inl (by simp; omega)
      · exact .inr (by simp; omega)
    refine zp_end (I.ok.hd hc) D Z (show s.heap.IsList a _ from p.isList) (show s.heap.IsTuple b _ from p2) he2 fun h1 kp => ⟨rfl, I.turnedL (t' := s.toks) (ch := [z, TI, TO, i1, i2]) (fun c o hb q => ?_) hf⟩
    simp only [List.mem_cons, List.not_mem_nil, or_false, not_or] at hb
    exact kp c o hb.1 hb.2.2.1 hb.2.2.2.1 hb.2.2.2.2 q
  self := fun A i s Q E st h => by
    obtain ⟨x, y, Z⟩ := st
    exact wpAny_pyIter_zip Z.hz h
/-- the heaps of zip(list, tuple) being made -/
abbrev zm1 (h : Heap) (l1 : Addr) : Heap := h.push { cls := .type "list_iterator", data := .fields #[.ref l1, .int 0 0] }
abbrev zm2 (h : Heap) (l1 l2 : Addr) : Heap := Heap.push (zm1 h l1) { cls := .type "tuple_iterator", data := .fields #[.ref l2, .int 0 0] }
abbrev zm3 (h : Heap) (l1 l2 : Addr) : Heap := Heap.push (zm2 h l1 l2) { cls := .type "tuple", data := .seq #[.ref h.objs.size, .ref (zm1 h l1).objs.size] }
abbrev zm4 (h : Heap) (l1 l2 : Addr) : Heap := Heap.push (zm3 h l1 l2) { cls := .type "tuple", data := .seq #[.none, .none] }
abbrev zm5 (h : Heap) (l1 l2 : Addr) : Heap := Heap.push (zm4 h l1 l2) { cls := .type "zip", data := .fields #[.none, .bool false, .bool false, .ref (zm2 h l1 l2).objs.size, .ref (zm3 h l1 l2).objs.size] }
theorem meets_zipM (l1 l2 : Addr) (xs ys : Array Value) :
    Meets (Builtin.«zip.__new__» ⟨[.type "zip", .ref l1, .ref l2], []⟩) (fun _ R s => s.heap.IsList l1 xs ∧ s.heap.IsTuple l2 ys ∧ R (.ok (.ret (.ref (zm4 s.heap l1 l2).objs.size))) { s with heap := zm5 s.heap l1 l2 }) := by
  refine .of_wp fun prog w A R s h => ?_
  obtain ⟨hp, g, d, tk, os⟩ := s
  obtain ⟨p1, p2, h⟩ := h
  have sz := sub_zip
  have q1 : Heap.IsList (Shared.heap ⟨hp, g, d, tk, os⟩) l1 xs := p1
  have q2 : Heap.IsTuple (Shared.heap ⟨zm1 hp l1, g, d, tk, os⟩) l2 ys := Heap.IsTuple.push p2 _
  wp_walk using wpAny_pyIter_list q1, wpAny_pyIter_tuple q2
  exact ⟨_, rfl, h⟩
theorem call_zipM {prog : Program} {w : World} {A : Around} {E : Value → Shared → Prop} {s : Shared} {l1 l2 : Addr} {xs ys : Array Value} {Q : Value → Shared → Prop} (p1 : s.heap.IsList l1 xs) (p2 : s.heap.IsTuple l2 ys)
    (f : ∀ h', ZAt false true h' (s.heap.objs.size + 4) (s.heap.objs.size + 2) (s.heap.objs.size + 3) s.heap.objs.size (s.heap.objs.size + 1) l1 l2 0 0 .none .none .none → (∀ c o, s.heap.get? c = some o → h'.get? c = some o) → Q (.ref (s.heap.objs.size + 4)) { s with heap := h' }) :
    wpAny (model prog w) A (call (.type "zip") [.ref l1, .ref l2]) Q E s := by
  refine callType_new F.called_zip (by decide) (F.typeCall_zip_2 _ _) (F.newCall_zip_2 _ _) (fun obj => F.args_object_init_3 obj _ _) F.entry_zip_new (meets_zipM l1 l2 xs ys) ⟨p1, p2, ?_⟩
  obtain ⟨hp, g, d, tk, os⟩ := s
  have n1 : (zm1 hp l1).objs.size = hp.objs.size + 1 := by simp [zm1, Heap.size_push]
  have n2 : (zm2 hp l1 l2).objs.size = hp.objs.size + 2 := by rw [Heap.size_push, n1]
  have n3 : (zm3 hp l1 l2).objs.size = hp.objs.size + 3 := by rw [Heap.size_push, n2]
  have n4 : (zm4 hp l1 l2).objs.size = hp.objs.size + 4 := by rw [Heap.size_push, n3]
  have keep : ∀ {h : Heap} {o o' : Obj} {c : Addr}, h.get? c = some o' → (h.push o).get? c = some o' := fun e => Heap.get?_push_of_some _ e
  have o5 : (zm5 hp l1 l2).get? (zm4 hp l1 l2).objs.size = some { cls := .type "zip", data := .fields #[.none, .bool false, .bool false, .ref (zm2 hp l1 l2).objs.size, .ref (zm3 hp l1 l2).objs.size] } := Heap.get?_push_size _ rfl
  have o4 : (zm5 hp l1 l2).get? (zm3 hp l1 l2).objs.size = some { cls := .type "tuple", data := .seq #[.none, .none] } := keep (Heap.get?_push_size _ rfl)
  have o3 : (zm5 hp l1 l2).get? (zm2 hp l1 l2).objs.size = some { cls := .type "tuple", data := .seq #[.ref hp.objs.size, .ref (zm1 hp l1).objs.size] } := keep (keep (Heap.get?_push_size _ rfl))
  have o2 : (zm5 hp l1 l2).get? (zm1 hp l1).objs.size = some { cls := .type "tuple_iterator", data := .fields #[.ref l2, .int 0 0] } := keep (keep (keep (Heap.get?_push_size _ rfl)))
  have o1 : (zm5 hp l1 l2).get? hp.objs.size = some { cls := .type "list_iterator", data := .fields #[.ref l1, .int 0 0] } := keep (keep (keep (keep (Heap.get?_push_size _ rfl))))
  show _ ∧ Q (.ref (zm4 hp l1 l2).objs.size) _
  rw [n2, n3, n4] at o5
  rw [n1, n2] at o3
  rw [n3] at o4
  rw [n1] at o2
  rw [n4]
  exact ⟨⟨_, o5, rfl⟩, f (zm5 hp l1 l2) ⟨o5, o3, o4, ⟨_, o1, rfl, rfl⟩, ⟨_, o2, rfl, rfl⟩⟩ fun c o q => keep (keep (keep (keep (keep q))))⟩
def iZipM (K : PySem.W.Frag) (ta : TA) : TI := fun σ H R => ta σ H fun vs H1 => ∃ a b xs ys, vs = [.ref a, .ref b] ∧ SqL K H1 a xs ∧ SqT K H1 b ys ∧ R (ItzM K a b) H1
theorem pi_zipM {X : Cx} {e e2 : Expr} {ta : TA} {p pos tpos : Pos} {elts : List Expr} {kk : Nat} (hg : Gl X "zip") (hm : X.mg "zip" = none) (ha : PA X [e, e2] ta)
    (hs : starEach [e, e2] X.env = (false, eval e X.env) :: starEach [e2] X.env := by rfl) (hpl : (backTo pos (starEach [e2] X.env)).any (·.1) = false := by rfl) :
    PI X (.Tuple elts kk tpos) (.Call (.Name "zip" p) [e, e2] [] pos) (iZipM X.K ta) := by
  constructor
  intro pins s σ H R I h
  refine Call_ (ld_blt I hg hm PyProof.Rows.boot_zip (PyProof.Rows.callWith_type1 (thn (ha.run pos pins s σ H _ I h) fun us s1 ⟨vs, H1, I1, r1, q1⟩ => ?_) hs hpl))
  obtain ⟨a, b, xs, ys, rfl, qx, qy, q⟩ := q1
  obtain ⟨u1, u2, rfl, ra, rb⟩ := vals2 r1
  cases ra
  cases rb
  obtain ⟨its, rv, p1, _⟩ := I1.list qx
  obtain ⟨its2, rv2, p2, _⟩ := I1.tuple qy
  have la : a < s1.heap.objs.size := KS.lt (b := false) (show KS false s1.heap a _ from p1.isList)
  have lb : b < s1.heap.objs.size := KS.lt (b := true) (show KS true s1.heap b _ from p2)
  refine call_zipM p1.isList p2 fun h1 Z kp => wpAny_pyIter_zip Z.hz ?_
  refine ⟨s1.heap.objs.size + 4, [s1.heap.objs.size + 4, s1.heap.objs.size + 2, s1.heap.objs.size + 3, s1.heap.objs.size, s1.heap.objs.size + 1], _, _, H1, rfl, I1.kept (t' := s1.toks) kp, turn_zipM (PySem.W.ktu_apart s1.heap.objs.size a b la lb), ⟨_, _, Z⟩, fun c hc => ?_, q⟩
  have le : s1.heap.objs.size ≤ c := by
    simp only [List.mem_cons, List.not_mem_nil, or_false] at hc
    rcases hc with rfl | rfl | rfl | rfl | rfl
    · exact Nat.le_add_right _ _
    · exact Nat.le_add_right _ _
    · exact Nat.le_add_right _ _
    · exact Nat.le_refl _
    · exact Nat.le_add_right _ _
  exact I1.fpOk le (I1.hok.fresh le)
theorem pi_zipMK {X : Cx} {K : PySem.W.Frag} {e e2 : Expr} {ta : TA} {p pos tpos : Pos} {elts : List Expr} {kk : Nat} (hg : Gl X "zip") (hm : X.mg "zip" = none) (ha : PA X [e, e2] ta)
    (hK : X.K = K := by rfl) (hs : starEach [e, e2] X.env = (false, eval e X.env) :: starEach [e2] X.env := by rfl) (hpl : (backTo pos (starEach [e2] X.env)).any (·.1) = false := by rfl) :
    PI X (.Tuple elts kk tpos) (.Call (.Name "zip" p) [e, e2] [] pos) (iZipM K ta) := by
  subst hK
  exact pi_zipM hg hm ha hs hpl
theorem walk_zipM {K : PySem.W.Frag} {a b : Addr} {xs ys : List V} {n : Nat} (hn : n = min xs.length ys.length) : Walk (ItzM K a b) n (fun H => SqL K H a xs ∧ SqT K H b ys) (YPair (fun i => xs[i]?) (fun i => ys[i]?)) where
  goes i H hi q := by
    have l : i < xs.length ∧ i < ys.length := by omega
    exact ⟨xs, ys, xs[i]'l.1, ys[i]'l.2, q.1, q.2, List.getElem?_eq_getElem l.1, List.getElem?_eq_getElem l.2⟩
  stops H q := ⟨xs, ys, q.1, q.2, by omega⟩
  yields i H v H' _ q y := by
    obtain ⟨T, x, z, e1, e2, e3, e4, e5⟩ := y
    exact ⟨T, x, z, e1, e2, e3, e4 xs q.1, e5 ys q.2⟩
/-! ### a > b of pairs of whole numbers -/
/-! ### t != () -/
end My
namespace My
open PySem PySem.Spec PyProof.Rows L2
end My
namespace My
open PySem PySem.Spec PyProof.Rows L2
/-! ### sorted(xs, key=len), xs a list of tuples -/
section
variable {prog : Program} {w : World} {A : Around} {E : Value → Shared → Prop} {s : Shared} {h0 : Heap} {a kS : Addr} {vs : List Value} {kz : List Int} {keys : Array Value} {e e1 : Nat} {P : PySem.Fin → Shared → Prop}
end
section
variable {prog : Program} {w : World} {A : Around} {E : Value → Shared → Prop} {s : Shared} {l : Addr} {vs : List Value} {kz : List Int} {Q : Value → Shared → Prop}
end
section
variable {X : Cx}
end
end My
namespace My
open PySem PySem.Spec PyProof.Rows L2
/-! ### min of a list of pairs of whole numbers -/
section
variable {prog : Program} {w : World} {A : Around} {R : Result → Shared → Prop} {I : Addr} {fp wr : List Addr} {n : Nat} {P : Nat → Value → Prop} {St : Nat → Heap → Prop}
end
section
variable {prog : Program} {w : World} {A : Around} {E : Value → Shared → Prop} {s : Shared}
end
end My
namespace My
open PySem PySem.Spec PyProof.Rows L2
/-! ### where two ladders part -/
/-- a rational number as a fraction -/
def ofR (r : Rat) : Q2 := (r.num, (r.den : Int))
theorem ofR_pos (r : Rat) : 0 < (ofR r).2 := by
  have := r.den_pos
  show (0 : Int) < (r.den : Int)
  omega
theorem toR_ofR (r : Rat) : toR (ofR r) = r := by
  unfold toR ofR
  show (r.num : Rat) / ((r.den : Int) : Rat) = r
  rw [← Rat.divInt_eq_div, Rat.num_divInt_den]
/-- the size of a measure, as a rational number -/
def sizF (zs : List Q2) (r : Str) (lo hi : Option Q2) (x : Rat) : Option Nat := sizeQ zs r lo hi (ofR x)
theorem posO_E {o : Option Q2} (h : PosO o) : PosE o := fun a e => by
  subst e
  exact h
theorem sizF_eq {zs : List Q2} {r : Str} {lo hi : Option Q2} {x : Q2} (L : LadQ zs r lo hi) (hx : 0 < x.2) : sizeQ zs r lo hi x = sizF zs r lo hi (toR x) :=
  sizeQ_congr L.pos (posO_E L.plo) (posO_E L.phi) (re_of_R hx (ofR_pos _) (toR_ofR _).symm)
def alkB (a b : Option Nat) (sh : Int) : Bool := match a, b with
  | none, none => true
  | some m, some n => decide ((n : Int) = (m : Int) + sh)
  | _, _ => false
/-- what parting tells: None for alike, else the measure, whether behind it, both sizes -/
abbrev PRes := Option (Rat × Bool × Option Nat × Option Nat)
def PartS (F G : Rat → Option Nat) (sh : Int) (lo hi : Rat) : PRes → Prop
  | none => ∀ x, lo ≤ x → x ≤ hi → alkB (F x) (G x) sh = true
  | some (m, false, a, b) => lo ≤ m ∧ m ≤ hi ∧ F m = a ∧ G m = b ∧ alkB a b sh = false ∧ ∀ x, lo ≤ x → x < m → alkB (F x) (G x) sh = true
  | some (m, true, a, b) => lo ≤ m ∧ m < hi ∧ alkB a b sh = false ∧ (∀ x, lo ≤ x → x ≤ m → alkB (F x) (G x) sh = true) ∧ ∃ e, m < e ∧ e ≤ hi ∧ ∀ x, m < x → x < e → F x = a ∧ G x = b
theorem midR {a b : Rat} (h : a < b) : a < (a + b) / 2 ∧ (a + b) / 2 < b := by
  constructor <;> grind
theorem PartS.uniq {F G : Rat → Option Nat} {sh : Int} {lo hi : Rat} : ∀ {r s : PRes}, PartS F G sh lo hi r → PartS F G sh lo hi s → r = s
  | none, none, _, _ => rfl
  | none, some (m, false, a, b), h, g => by
    obtain ⟨g1, g2, g3, g4, g5, g6⟩ := g
    have := h m g1 g2
    rw [g3, g4, g5] at this
    cases this
  | some (m, false, a, b), none, h, g => by
    obtain ⟨g1, g2, g3, g4, g5, g6⟩ := h
    have := g m g1 g2
    rw [g3, g4, g5] at this
    cases this
  | none, some (m, true, a, b), h, g => by
    obtain ⟨g1, g2, g3, g4, e, g5, g6, g7⟩ := g
    obtain ⟨m1, m2⟩ := midR g5
    have := h ((m + e) / 2) (by grind) (by grind)
    rw [(g7 _ m1 m2).1, (g7 _ m1 m2).2, g3] at this
    cases this
  | some (m, true, a, b), none, h, g => by
    obtain ⟨g1, g2, g3, g4, e, g5, g6, g7⟩ := h
    obtain ⟨m1, m2⟩ := midR g5
    have := g ((m + e) / 2) (by grind) (by grind)
    rw [(g7 _ m1 m2).1, (g7 _ m1 m2).2, g3] at this
    cases this
  | some (m, false, a, b), some (m', false, a', b'), h, g => by
    obtain ⟨h1, h2, h3, h4, h5, h6⟩ := h
    obtain ⟨g1, g2, g3, g4, g5, g6⟩ := g
    have e : m = m' := by
      by_cases c : m < m'
      · have := g6 m h1 c
        rw [h3, h4, h5] at this
        cases this
      · by_cases c' : m' < m
        · have := h6 m' g1 c'
          rw [g3, g4, g5] at this
          cases this
        · grind
    subst e
    rw [← h3, ← h4, ← g3, ← g4]
  | some (m, false, a, b), some (m', true, a', b'), h, g => by
    obtain ⟨h1, h2, h3, h4, h5, h6⟩ := h
    obtain ⟨g1, g2, g3, g4, e, g5, g6, g7⟩ := g
    by_cases c : m ≤ m'
    · have := g4 m h1 c
      rw [h3, h4, h5] at this
      cases this
    · by_cases d : e ≤ m
      · obtain ⟨m1, m2⟩ := midR g5
        have := h6 ((m' + e) / 2) (by grind) (by grind)
        rw [(g7 _ m1 m2).1, (g7 _ m1 m2).2, g3] at this
        cases this
      · have c2 : m' < m := by grind
        obtain ⟨m1, m2⟩ := midR c2
        have := h6 ((m' + m) / 2) (by grind) m2
        have q := g7 ((m' + m) / 2) m1 (by grind)
        rw [q.1, q.2, g3] at this
        cases this
  | some (m', true, a', b'), some (m, false, a, b), g, h => by
    obtain ⟨h1, h2, h3, h4, h5, h6⟩ := h
    obtain ⟨g1, g2, g3, g4, e, g5, g6, g7⟩ := g
    by_cases c : m ≤ m'
    · have := g4 m h1 c
      rw [h3, h4, h5] at this
      cases this
    · by_cases d : e ≤ m
      · obtain ⟨m1, m2⟩ := midR g5
        have := h6 ((m' + e) / 2) (by grind) (by grind)
        rw [(g7 _ m1 m2).1, (g7 _ m1 m2).2, g3] at this
        cases this
      · have c2 : m' < m := by grind
        obtain ⟨m1, m2⟩ := midR c2
        have := h6 ((m' + m) / 2) (by grind) m2
        have q := g7 ((m' + m) / 2) m1 (by grind)
        rw [q.1, q.2, g3] at this
        cases this
  | some (m, true, a, b), some (m', true, a', b'), h, g => by
    obtain ⟨h1, h2, h3, h4, d, h5, h6, h7⟩ := h
    obtain ⟨g1, g2, g3, g4, e, g5, g6, g7⟩ := g
    have key : ∀ (m m' d : Rat), m < d → m < m' → ∃ x, m < x ∧ x < d ∧ x ≤ m' := fun m m' d q1 q2 => by
      by_cases c : d ≤ m'
      · exact ⟨(m + d) / 2, (midR q1).1, (midR q1).2, by have := (midR q1).2; grind⟩
      · exact ⟨(m + m') / 2, (midR q2).1, by have := (midR q2).2; grind, by have := (midR q2).2; grind⟩
    have em : m = m' := by
      by_cases c : m < m'
      · obtain ⟨x, x1, x2, x3⟩ := key m m' d h5 c
        have := g4 x (by grind) x3
        rw [(h7 x x1 x2).1, (h7 x x1 x2).2, h3] at this
        cases this
      · by_cases c' : m' < m
        · obtain ⟨x, x1, x2, x3⟩ := key m' m e g5 c'
          have := h4 x (by grind) x3
          rw [(g7 x x1 x2).1, (g7 x x1 x2).2, g3] at this
          cases this
        · grind
    subst em
    obtain ⟨x, x1, x2, x3⟩ := key m e d h5 g5
    have x4 : m < (m + x) / 2 ∧ (m + x) / 2 < x := midR x1
    have p := h7 ((m + x) / 2) x4.1 (by grind)
    have q := g7 ((m + x) / 2) x4.1 (by grind)
    rw [← p.1, ← p.2, ← q.1, ← q.2]
/-- points from lo to hi between which nothing changes -/
structure Pts (F G : Rat → Option Nat) (lo hi : Rat) (ps : List Rat) : Prop where
  fst : ps[0]? = some lo
  lst : ps.getLast? = some hi
  rise : ∀ (i : Nat) (a b : Rat), ps[i]? = some a → ps[i + 1]? = some b → a < b
  gap : ∀ (i : Nat) (a b : Rat), ps[i]? = some a → ps[i + 1]? = some b → ∀ x y, a < x → x < b → a < y → y < b → F x = F y ∧ G x = G y
theorem riseR {ps : List Rat} (h : ∀ (i : Nat) (a b : Rat), ps[i]? = some a → ps[i + 1]? = some b → a < b) : ∀ {i j : Nat} {a b : Rat}, i < j → ps[i]? = some a → ps[j]? = some b → a < b
  | i, 0, _, _, hij, _, _ => by omega
  | i, j + 1, a, b, hij, ha, hb => by
    by_cases e : i = j
    · subst e; exact h i a b ha hb
    · have lj := (List.getElem?_eq_some_iff.mp hb).1
      have hc : ps[j]? = some ps[j] := List.getElem?_eq_getElem (by omega)
      have h1 := riseR h (show i < j by omega) ha hc
      have h2 := h j _ _ hc hb
      grind
theorem coverR : ∀ {ps : List Rat} {lo hi x : Rat}, ps[0]? = some lo → ps.getLast? = some hi → lo ≤ x → x ≤ hi → ∃ i a, ps[i]? = some a ∧ (x = a ∨ ∃ b, ps[i + 1]? = some b ∧ a < x ∧ x < b)
  | [], _, _, _, h, _, _, _ => by simp at h
  | [p], lo, hi, x, h, g, h1, h2 => by
    cases h
    cases g
    exact ⟨0, p, rfl, .inl (by grind)⟩
  | p :: q :: r, lo, hi, x, h, g, h1, h2 => by
    cases h
    by_cases c : x = p
    · exact ⟨0, p, rfl, .inl c⟩
    · by_cases d : x < q
      · exact ⟨0, p, rfl, .inr ⟨q, rfl, by grind, d⟩⟩
      · obtain ⟨i, a, e1, e2⟩ := coverR (ps := q :: r) (lo := q) (hi := hi) (x := x) rfl (by rw [List.getLast?_cons_cons] at g; exact g) (by grind) h2
        exact ⟨i + 1, a, by simpa using e1, by rcases e2 with e2 | ⟨b, e2, e3⟩
                                               · exact .inl e2
                                               · exact .inr ⟨b, by simpa using e2, e3⟩⟩
section
variable {F G : Rat → Option Nat} {sh : Int} {lo hi : Rat} {ps : List Rat}
theorem Pts.le (P : Pts F G lo hi ps) {i : Nat} {a : Rat} (h : ps[i]? = some a) : lo ≤ a ∧ a ≤ hi := by
  have l := (List.getElem?_eq_some_iff.mp h).1
  constructor
  · by_cases e : i = 0
    · subst e
      rw [P.fst] at h
      cases h
      exact Rat.le_refl
    · have := riseR P.rise (show 0 < i by omega) P.fst h
      grind
  · have hl : ps[ps.length - 1]? = some hi := by rw [← List.getLast?_eq_getElem?]; exact P.lst
    by_cases e : i = ps.length - 1
    · subst e
      rw [hl] at h
      cases h
      exact Rat.le_refl
    · have := riseR P.rise (show i < ps.length - 1 by omega) h hl
      grind
/-- all points and gaps ahead of the i-th are alike -/
theorem Pts.ahead (P : Pts F G lo hi ps) {i : Nat} {a : Rat} (h : ps[i]? = some a) (h1 : ∀ (j : Nat) (c : Rat), j < i → ps[j]? = some c → alkB (F c) (G c) sh = true)
    (h2 : ∀ (j : Nat) (c d : Rat), j < i → ps[j]? = some c → ps[j + 1]? = some d → ∃ y, c < y ∧ y < d ∧ alkB (F y) (G y) sh = true) : ∀ x, lo ≤ x → x < a → alkB (F x) (G x) sh = true := fun x x1 x2 => by
  obtain ⟨j, c, e1, e2⟩ := coverR P.fst P.lst x1 (by have := (P.le h).2; grind)
  have hj : j < i := by
    refine Nat.lt_of_not_le fun q => ?_
    have : a ≤ c := by
      by_cases e : i = j
      · subst e
        rw [h] at e1
        cases e1
        exact Rat.le_refl
      · have := riseR P.rise (show i < j by omega) h e1
        grind
    rcases e2 with e2 | ⟨b, _, e3, _⟩ <;> grind
  rcases e2 with rfl | ⟨b, e3, e4, e5⟩
  · exact h1 j _ hj e1
  · obtain ⟨y, y1, y2, y3⟩ := h2 j c b hj e1 e3
    have g := P.gap j c b e1 e3 x y e4 e5 y1 y2
    rw [g.1, g.2]
    exact y3
end
end My
namespace My
open PySem PySem.Spec PySem.Calls PyProof.Rows L2
/-! ### sorted(set(xs)) of a list of whole numbers, up to a thousand -/
section
variable {P : Program} {w : World} {A : Around} {E : Value → Shared → Prop} {s : Shared}
end
end My
namespace My
open PySem PySem.Spec PySem.Calls PyProof.Rows L2
/-! ### == and != of tuples whose items are whole numbers, texts, None or own objects -/
section
open GQ
open AutoSeq1 (wpAny_loadPart')
variable {prog : Program} {w : World} {A : Around} {R : Result → Shared → Prop}
end
section
variable {X : Cx} {n : Nat} {D : Eqb}
end
end My
namespace My
open PySem PySem.Spec PySem.Calls PyProof.Rows L2
/-! ### t[::-1] of a tuple -/
section
open HT
variable {prog : Program} {w : World} {A : Around} {E : Value → Shared → Prop} {s : Shared}
end
section
variable {X : Cx}
end
/-! ### things of any kind beside what is due, kind by kind -/
theorem TyOf.same' {K : PySem.W.Frag} {H H' : Hp} {v : V} {t : Value} (h : TyOf K H v t) (s : Same H H') : TyOf K H' v t := by
  cases h with
  | non => exact .non
  | bl x => exact .bl x
  | int i => exact .int i
  | str x => exact .str x
  | flt x => exact .flt x
  | lst e => exact .lst (s _ _ e)
  | frz e => exact .frz (s _ _ e)
  | tup e => exact .tup (s _ _ e)
  | dK e => exact .dK (s _ _ e)
  | dT e => exact .dT (s _ _ e)
  | ins e cl ha hn htk hm => exact .ins (s _ _ e) cl ha hn htk hm
theorem TyX.same' {K : PySem.W.Frag} {H H' : Hp} {v : V} {t : Value} (h : TyX K H v t) (s : Same H H') : TyX K H' v t := by
  cases h with
  | base h => exact .base (TyOf.same' h s)
  | byt b => exact .byt b
  | set e => exact .set (s _ _ e)
  | kList e c => exact .kList e c
  | kTuple e c => exact .kTuple e c
  | kDict e c => exact .kDict e c
  | fTuple e => exact .fTuple (s _ _ e)
  | fDict e => exact .fDict (s _ _ e)
inductive PK where
  | int (z : Int) | str (s : Str) | bl (b : Bool) | non | meas (z : Q2) | tup | oth
def PK.isT : PK → Bool | .tup => true | _ => false
def PK.isS : PK → Bool | .str _ => true | _ => false
def PK.isI : PK → Bool | .int _ => true | .bl _ => true | _ => false
def PK.isB : PK → Bool | .bl _ => true | _ => false
def PK.isM : PK → Bool | .meas _ => true | _ => false
def Isi (K : PySem.W.Frag) (H : Hp) (v : V) (u : Value) (b : Bool) : Prop := ∃ t, TyX K H v t ∧ PySem.W.kitOne K t u = some b
def PKat (CM : Addr) (H : Hp) (v : V) : PK → Prop
  | .int z => v = .int z
  | .str s => v = .str s
  | .bl b => v = .bl b
  | .non => v = .non
  | .meas z => ∃ (p : Addr) (j : Nat), v = .ref p ∧ QAt CM H p j z ∧ j ≤ 4000
  | .tup => ∃ a : Addr, v = .ref a
  | .oth => ∃ a : Addr, v = .ref a
structure PKs (K : PySem.W.Frag) (CM : Addr) (H : Hp) (v : V) (k : PK) : Prop where
  at_ : PKat CM H v k
  tup : Isi K H v (.type "tuple") k.isT
  str : Isi K H v (.type "str") k.isS
  int : Isi K H v (.type "int") k.isI
  bl : Isi K H v (.type "bool") k.isB
  mea : Isi K H v (.ref CM) k.isM
theorem PKs.same {K : PySem.W.Frag} {CM : Addr} {H H' : Hp} {v : V} {k : PK} (p : PKs K CM H v k) (s : Same H H') : PKs K CM H' v k := by
  have i : ∀ {u b}, Isi K H v u b → Isi K H' v u b := fun ⟨t, h, g⟩ => ⟨t, TyX.same' h s, g⟩
  refine ⟨?_, i p.tup, i p.str, i p.int, i p.bl, i p.mea⟩
  have h := p.at_
  cases k with
  | meas z =>
    obtain ⟨q, j, e, r, l⟩ := h
    exact ⟨q, j, e, r.same s, l⟩
  | _ => exact h
/-- a thing of any kind, a Measure, a Stretch or a Ladder -/
def ThgAt (CM CS CL h : Addr) (H : Hp) (v : V) : Prop := Thing h H v ∨ (∃ (p : Addr) (j : Nat) (z : Q2), v = .ref p ∧ QAt CM H p j z ∧ j ≤ 4000) ∨ ∃ (p C dx : Addr) (fs : List (Str × V)), v = .ref p ∧ H p = some (.ins C dx fs) ∧ (C = CS ∨ C = CL)
section
variable {K : PySem.W.Frag} {CM CS CL h : Addr} {H H' : Hp} {v : V} {n : Nat}
theorem ThgAt.same (t : ThgAt CM CS CL h H v) (s : Same H H') : ThgAt CM CS CL h H' v := by
  rcases t with t | ⟨p, j, z, e, q, l⟩ | ⟨p, C, dx, fs, e, g, c⟩
  · exact .inl (t.same s)
  · exact .inr (.inl ⟨p, j, z, e, q.same s, l⟩)
  · exact .inr (.inr ⟨p, C, dx, fs, e, s _ _ g, c⟩)
theorem ThgAt.kp (t : ThgAt CM CS CL h H v) (hh : HandAt H h n) (s : Kp h H H') : ThgAt CM CS CL h H' v := by
  rcases t with t | ⟨p, j, z, e, q, l⟩ | ⟨p, C, dx, fs, e, g, c⟩
  · exact .inl (t.kp hh s)
  · exact .inr (.inl ⟨p, j, z, e, q.kp hh s, l⟩)
  · exact .inr (.inr ⟨p, C, dx, fs, e, s.get hh g rfl, c⟩)
end
def Kds (K : PySem.W.Frag) (CM : Addr) (H : Hp) (xs : List V) (ks : List PK) : Prop := xs.length = ks.length ∧ ∀ (i : Nat) (x : V) (k : PK), xs[i]? = some x → ks[i]? = some k → PKs K CM H x k
theorem Kds.same {K : PySem.W.Frag} {CM : Addr} {H H' : Hp} {xs : List V} {ks : List PK} (p : Kds K CM H xs ks) (s : Same H H') : Kds K CM H' xs ks := ⟨p.1, fun i x k h1 h2 => (p.2 i x k h1 h2).same s⟩
/-- a thing that is looked at: a tuple of things with their kinds, or none -/
def Fnd (K : PySem.W.Frag) (CM : Addr) (H : Hp) (v : V) : Option (List PK) → Prop
  | none => ∃ k, PKs K CM H v k ∧ k.isT = false
  | some ks => ∃ (a : Addr) (xs : List V), v = .ref a ∧ SqT K H a xs ∧ xs.length ≤ 900 ∧ PKs K CM H v .tup ∧ Kds K CM H xs ks
theorem Fnd.same {K : PySem.W.Frag} {CM : Addr} {H H' : Hp} {v : V} : ∀ {o : Option (List PK)}, Fnd K CM H v o → Same H H' → Fnd K CM H' v o
  | none, ⟨k, p, e⟩, s => ⟨k, p.same s, e⟩
  | some ks, ⟨a, xs, e, q, l, p, d⟩, s => ⟨a, xs, e, s.sqt q, l, p.same s, d.same s⟩
/-- a thing that is no tuple -/
def ThgN (CM CS CL h : Addr) (H : Hp) (v : V) : Prop := v = .non ∨ (∃ b, v = .bl b) ∨ (∃ i, v = .int i) ∨ (∃ z, v = .str z) ∨ (∃ (a : Addr) (xs : List V), v = .ref a ∧ a ≠ h ∧ H a = some (.lst xs)) ∨ (∃ (a : Addr) (kvs : List (Key × V)), v = .ref a ∧ H a = some (.dK kvs)) ∨ (∃ (p : Addr) (j : Nat) (z : Q2), v = .ref p ∧ QAt CM H p j z ∧ j ≤ 4000) ∨ ∃ (p C dx : Addr) (fs : List (Str × V)), v = .ref p ∧ H p = some (.ins C dx fs) ∧ (C = CS ∨ C = CL)
/-- a thing, and if it is a tuple, of such things -/
def TopAt (CM CS CL h : Addr) (H : Hp) (v : V) : Prop := (∃ (a : Addr) (xs : List V), v = .ref a ∧ H a = some (.tup xs) ∧ xs.length ≤ 900 ∧ ∀ x ∈ xs, ThgAt CM CS CL h H x) ∨ ThgN CM CS CL h H v
section
variable {K : PySem.W.Frag} {CM CS CL h : Addr} {H H' : Hp} {v : V} {n : Nat}
theorem ThgN.kp (t : ThgN CM CS CL h H v) (hh : HandAt H h n) (s : Kp h H H') : ThgN CM CS CL h H' v := by
  rcases t with t | t | t | t | ⟨a, xs, e, n, t⟩ | ⟨a, xs, e, t⟩ | ⟨p, j, z, e, q, l⟩ | ⟨p, C, dx, fs, e, g, c⟩
  · exact .inl t
  · exact .inr (.inl t)
  · exact .inr (.inr (.inl t))
  · exact .inr (.inr (.inr (.inl t)))
  · exact .inr (.inr (.inr (.inr (.inl ⟨a, xs, e, n, s _ _ t n⟩))))
  · exact .inr (.inr (.inr (.inr (.inr (.inl ⟨a, xs, e, s.get hh t rfl⟩)))))
  · exact .inr (.inr (.inr (.inr (.inr (.inr (.inl ⟨p, j, z, e, q.kp hh s, l⟩))))))
  · exact .inr (.inr (.inr (.inr (.inr (.inr (.inr ⟨p, C, dx, fs, e, s.get hh g rfl, c⟩))))))
theorem TopAt.kp (t : TopAt CM CS CL h H v) (hh : HandAt H h n) (s : Kp h H H') : TopAt CM CS CL h H' v := by
  rcases t with ⟨a, xs, e, g, l, all⟩ | t
  · exact .inl ⟨a, xs, e, s.get hh g rfl, l, fun x hx => (all x hx).kp hh s⟩
  · exact .inr (t.kp hh s)
theorem TopAt.same (t : TopAt CM CS CL h H v) (hh : HandAt H h n) (s : Same H H') : TopAt CM CS CL h H' v := t.kp hh (Kp.same s)
end
end My
namespace My
open PySem PySem.Spec PyProof.Rows L2
/-! ### what sizes of two ladders have in common -/
theorem reO_self {o : Option Q2} (p : PosO o) : ReO o o := by
  cases o with
  | none => trivial
  | some a => exact ⟨p, p, rfl⟩
theorem szE_of {CM : Addr} {H : Hp} {k : Nat} {v : V} : ∀ {o : Option Q2}, QO CM H k v o → SzE k o
  | none, _ => trivial
  | some _, ⟨_, _, q⟩ => ⟨q.s1, q.s2⟩
theorem szL_of {CM : Addr} {H : Hp} {k : Nat} {ps : List V} {zs : List Q2} (m : Mks CM H k ps zs) : SzL k zs := fun z hz => by
  obtain ⟨i, hi⟩ := List.mem_iff_getElem?.mp hz
  obtain ⟨p, _, q⟩ := m.at hi
  exact ⟨q.s1, q.s2⟩
theorem mks_pos {C : Addr} {H : Hp} {k : Nat} {ps : List V} {qs : List Q2} (m : Mks C H k ps qs) : ∀ q ∈ qs, 0 < q.2 := fun z hz => by
  obtain ⟨i, hi⟩ := List.mem_iff_getElem?.mp hz
  obtain ⟨p, _, q⟩ := m.at hi
  exact q.pos
theorem poso_of {C : Addr} {H : Hp} {k : Nat} {v : V} : ∀ {o : Option Q2}, QO C H k v o → PosO o
  | none, _ => trivial
  | some _, ⟨_, _, q⟩ => q.pos
theorem ladq_of {K : PySem.W.Frag} {CM CL : Addr} {H : Hp} {p : Addr} {k : Nat} {zs : List Q2} {r : Str} {lo hi : Option Q2} (a : LadAt K CM CL H p k zs r lo hi) : LadQ zs r lo hi := by
  obtain ⟨⟨dx, T, ps, l, h, h1, h2, h3, h4, h5⟩, a1, a2, a3, a4, a5⟩ := a
  exact ⟨a3, mks_pos h3, poso_of h4, poso_of h5, a5⟩
/-- a Measure that both stretches hold, or none -/
def ShQ (CM : Addr) (H : Hp) (k : Nat) (v : V) (m1 m2 n1 n2 : Option Q2) (i1 i2 j1 j2 : Bool) : Prop :=
  (∃ (r : Addr) (z : Q2), v = .ref r ∧ QAt CM H r k z ∧ loIn m1 i1 z = true ∧ hiIn m2 i2 z = true ∧ loIn n1 j1 z = true ∧ hiIn n2 j2 z = true) ∨
  (someB (cutLo m1 i1 n1 j1).1 (cutHi m2 i2 n2 j2).1 (cutLo m1 i1 n1 j1).2 (cutHi m2 i2 n2 j2).2 = false ∧ v = .non)
def sp_some27 (CM CS : Addr) : Sp := fun vs H Q _ => ∃ (p : Addr) (k : Nat) (lo hi : Option Q2) (li hj : Bool), vs = [.ref p] ∧ StAt CM CS H p lo hi li hj ∧ SzE k lo ∧ SzE k hi ∧ someB lo hi li hj = true ∧ 0 < k ∧ k ≤ 2000 ∧
  ∀ (r : Addr) (z : Q2) (H' : Hp), Same H H' → QAt CM H' r (k + k + 12) z → loIn lo li z = true → hiIn hi hj z = true → Q (.ref r) H'
def sp_sh27 (CM CS : Addr) : Sp := fun vs H Q _ => ∃ (p q : Addr) (k : Nat) (m1 m2 n1 n2 : Option Q2) (i1 i2 j1 j2 : Bool), vs = [.ref p, .ref q] ∧ StAt CM CS H p m1 m2 i1 i2 ∧ StAt CM CS H q n1 n2 j1 j2 ∧ SzE k m1 ∧ SzE k m2 ∧ SzE k n1 ∧ SzE k n2 ∧ 0 < k ∧ k ≤ 2000 ∧
  ∀ (v : V) (H' : Hp), Same H H' → ShQ CM H' (k + k + 12) v m1 m2 n1 n2 i1 i2 j1 j2 → Q v H'
/-- a Measure that comes to size a of the one and to size b of the other, or none where none does -/
def MetV (CM : Addr) (H : Hp) (k : Nat) (v : V) (F G : Rat → Option Nat) (a b : Nat) : Prop :=
  (∃ (r : Addr) (z : Q2), v = .ref r ∧ QAt CM H r k z ∧ F (toR z) = some a ∧ G (toR z) = some b) ∨ (v = .non ∧ ∀ x, F x = some a → G x = some b → False)
theorem MetV.nl {CM : Addr} {H H' : Hp} {k : Nat} {v : V} {F G : Rat → Option Nat} {a b : Nat} (m : MetV CM H k v F G a b) (n : Nl H H') : MetV CM H' k v F G a b := by
  rcases m with ⟨r, z, e, q, h⟩ | m
  · exact .inl ⟨r, z, e, q.nl n, h⟩
  · exact .inr m
section
variable {zs zt : List Q2} {r rt : Str} {lo hi lt ht : Option Q2} {a b : Nat} {m1 m2 n1 n2 : Option Q2}
theorem lo_raw {x : Option Q2 × Bool} {m : Option Q2} {z : Q2} (re : ReO m x.1) (hz : 0 < z.2) : loIn m (x.2 && x.1.isSome) z = loIn x.1 x.2 z :=
  (loIn_alike (x := (m, x.2 && x.1.isSome)) (y := (x.1, x.2 && x.1.isSome)) ⟨re, fun _ => rfl⟩ (q := z) (r := z) ⟨hz, hz, rfl⟩).trans (loIn_flag (x := x) (q := z))
theorem hi_raw {x : Option Q2 × Bool} {m : Option Q2} {z : Q2} (re : ReO m x.1) (hz : 0 < z.2) : hiIn m (x.2 && x.1.isSome) z = hiIn x.1 x.2 z :=
  (hiIn_alike (x := (m, x.2 && x.1.isSome)) (y := (x.1, x.2 && x.1.isSome)) ⟨re, fun _ => rfl⟩ (q := z) (r := z) ⟨hz, hz, rfl⟩).trans (hiIn_flag (x := x) (q := z))
theorem in_raw (L : LadQ zs r lo hi) (ha : a < zs.length) (r1 : ReO m1 (sizE zs r lo hi a).1.1) (r2 : ReO m2 (sizE zs r lo hi a).2.1) {z : Q2} (hz : 0 < z.2) :
    (loIn m1 ((sizE zs r lo hi a).1.2 && (sizE zs r lo hi a).1.1.isSome) z = true ∧ hiIn m2 ((sizE zs r lo hi a).2.2 && (sizE zs r lo hi a).2.1.isSome) z = true) ↔ sizF zs r lo hi (toR z) = some a := by
  rw [lo_raw r1 hz, hi_raw r2 hz, ← sizF_eq L hz, ← siz_in L hz ha]
  unfold sizIn
  rw [Bool.and_eq_true]
/-- of two stretches of sizes -/
theorem met_of {CM : Addr} {H : Hp} {k : Nat} {v : V} (L : LadQ zs r lo hi) (M : LadQ zt rt lt ht) (ha : a < zs.length) (hb : b < zt.length) (p1 : PosO m1) (p2 : PosO m2) (q1 : PosO n1) (q2 : PosO n2)
    (r1 : ReO m1 (sizE zs r lo hi a).1.1) (r2 : ReO m2 (sizE zs r lo hi a).2.1) (s1 : ReO n1 (sizE zt rt lt ht b).1.1) (s2 : ReO n2 (sizE zt rt lt ht b).2.1)
    (h : ShQ CM H k v m1 m2 n1 n2 ((sizE zs r lo hi a).1.2 && (sizE zs r lo hi a).1.1.isSome) ((sizE zs r lo hi a).2.2 && (sizE zs r lo hi a).2.1.isSome) ((sizE zt rt lt ht b).1.2 && (sizE zt rt lt ht b).1.1.isSome) ((sizE zt rt lt ht b).2.2 && (sizE zt rt lt ht b).2.1.isSome)) :
    MetV CM H k v (sizF zs r lo hi) (sizF zt rt lt ht) a b := by
  rcases h with ⟨t, z, e, q, h1, h2, h3, h4⟩ | ⟨e, rfl⟩
  · exact .inl ⟨t, z, e, q, (in_raw L ha r1 r2 q.pos).mp ⟨h1, h2⟩, (in_raw M hb s1 s2 q.pos).mp ⟨h3, h4⟩⟩
  · refine .inr ⟨rfl, fun x f g => ?_⟩
    have hx := ofR_pos x
    have f1 := (in_raw L ha r1 r2 hx).mpr (by rw [toR_ofR]; exact f)
    have g1 := (in_raw M hb s1 s2 hx).mpr (by rw [toR_ofR]; exact g)
    have c1 := cutLo_in (i := ((sizE zs r lo hi a).1.2 && (sizE zs r lo hi a).1.1.isSome)) (j := ((sizE zt rt lt ht b).1.2 && (sizE zt rt lt ht b).1.1.isSome)) p1 q1 hx
    have c2 := cutHi_in (i := ((sizE zs r lo hi a).2.2 && (sizE zs r lo hi a).2.1.isSome)) (j := ((sizE zt rt lt ht b).2.2 && (sizE zt rt lt ht b).2.1.isSome)) p2 q2 hx
    rw [f1.1, g1.1] at c1
    rw [f1.2, g1.2] at c2
    rw [in_some (cutLo_pos p1 q1) (cutHi_pos p2 q2) hx c1 c2] at e
    cases e
end
/-- the sizes of the other one that size a meets: first and last -/
def LedS (F G : Rat → Option Nat) (a n : Nat) : Option (Nat × Nat) → Prop
  | none => ∀ b, b < n → ∀ x, F x = some a → G x = some b → False
  | some (c, d) => c < n ∧ d < n ∧ c ≤ d ∧ (∃ x, F x = some a ∧ G x = some c) ∧ (∃ x, F x = some a ∧ G x = some d) ∧ ∀ b x, F x = some a → G x = some b → c ≤ b ∧ b ≤ d
theorem LedS.uniq {F G : Rat → Option Nat} {a n : Nat} : ∀ {u v : Option (Nat × Nat)}, LedS F G a n u → LedS F G a n v → u = v
  | none, none, _, _ => rfl
  | none, some (c, d), h, ⟨g1, _, _, ⟨x, e1, e2⟩, _⟩ => (h c g1 x e1 e2).elim
  | some (c, d), none, ⟨g1, _, _, ⟨x, e1, e2⟩, _⟩, h => (h c g1 x e1 e2).elim
  | some (c, d), some (c', d'), ⟨_, _, _, ⟨x, e1, e2⟩, ⟨y, e3, e4⟩, h⟩, ⟨_, _, _, ⟨x', f1, f2⟩, ⟨y', f3, f4⟩, g⟩ => by
    have a1 := h c' x' f1 f2
    have a2 := h d' y' f3 f4
    have b1 := g c x e1 e2
    have b2 := g d y e3 e4
    rw [show c = c' by omega, show d = d' by omega]
/-! ### the sizes that one size meets are a run -/
section
variable {zs zt : List Q2} {r rt : Str} {lo hi lt ht : Option Q2} {a b c d : Nat} {x y z : Rat}
theorem ltq_of (h : ¬ y < x) : ltq (ofR y) (ofR x) = false := by
  cases e : ltq (ofR y) (ofR x) with
  | false => rfl
  | true =>
    have := (ltq_R (ofR_pos y) (ofR_pos x)).mp e
    rw [toR_ofR, toR_ofR] at this
    exact absurd this h
theorem sizF_iff : sizF zs r lo hi x = some a ↔ inO lo hi (ofR x) = true ∧ sizeR zs r (ofR x) = (a : Int) ∧ a < zs.length := by
  unfold sizF sizeQ
  by_cases h : inO lo hi (ofR x) = true
  · rw [if_pos h]
    by_cases g : 0 ≤ sizeR zs r (ofR x) ∧ sizeR zs r (ofR x) < zs.length
    · rw [if_pos g]
      constructor
      · intro e
        have e := Option.some.inj e
        exact ⟨h, by omega, by omega⟩
      · rintro ⟨_, e, _⟩
        rw [e]
        rfl
    · rw [if_neg g]
      constructor
      · intro e; cases e
      · rintro ⟨_, e, l⟩
        exact absurd ⟨by omega, by omega⟩ g
  · rw [if_neg h]
    constructor
    · intro e; cases e
    · rintro ⟨e, _⟩
      exact absurd e h
theorem sizR_le (p : PosL zs) (l : x ≤ y) : sizeR zs r (ofR x) ≤ sizeR zs r (ofR y) := sizeR_mono p (ofR_pos x) (ofR_pos y) (ltq_of (by grind))
theorem inO_conv (pl : PosO lo) (ph : PosO hi) (l1 : x ≤ z) (l2 : z ≤ y) (h1 : inO lo hi (ofR x) = true) (h2 : inO lo hi (ofR y) = true) : inO lo hi (ofR z) = true := by
  unfold inO at *
  rw [Bool.and_eq_true] at *
  constructor
  · cases lo with
    | none => rfl
    | some e =>
      have h : (!ltq (ofR x) e) = true := h1.1
      show (!ltq (ofR z) e) = true
      have pe : 0 < e.2 := pl
      cases g : ltq (ofR z) e with
      | false => rfl
      | true =>
        have g := (ltq_R (ofR_pos z) pe).mp g
        rw [toR_ofR] at g
        rw [(ltq_R (ofR_pos x) pe).mpr (by rw [toR_ofR]; grind)] at h
        cases h
  · cases hi with
    | none => rfl
    | some e =>
      have h : (!ltq e (ofR y)) = true := h2.2
      show (!ltq e (ofR z)) = true
      have pe : 0 < e.2 := ph
      cases g : ltq e (ofR z) with
      | false => rfl
      | true =>
        have g := (ltq_R pe (ofR_pos z)).mp g
        rw [toR_ofR] at g
        rw [(ltq_R pe (ofR_pos y)).mpr (by rw [toR_ofR]; grind)] at h
        cases h
/-- one size of a measure between two of that size -/
theorem siz_conv (L : LadQ zs r lo hi) (l1 : x ≤ z) (l2 : z ≤ y) (h1 : sizF zs r lo hi x = some a) (h2 : sizF zs r lo hi y = some a) : sizF zs r lo hi z = some a := by
  rw [sizF_iff] at *
  have e1 := sizR_le (r := r) L.pos l1
  have e2 := sizR_le (r := r) L.pos l2
  exact ⟨inO_conv L.plo L.phi l1 l2 h1.1 h2.1, by omega, h1.2.2⟩
theorem met_conv (L : LadQ zs r lo hi) (M : LadQ zt rt lt ht) (h1 : sizF zs r lo hi x = some a) (g1 : sizF zt rt lt ht x = some c) (h2 : sizF zs r lo hi y = some a) (g2 : sizF zt rt lt ht y = some d) (l1 : c ≤ b) (l2 : b ≤ d) : ∃ z, sizF zs r lo hi z = some a ∧ sizF zt rt lt ht z = some b := by
  by_cases e1 : b = c
  · subst e1; exact ⟨x, h1, g1⟩
  by_cases e2 : b = d
  · subst e2; exact ⟨y, h2, g2⟩
  have G1 := sizF_iff.mp g1
  have G2 := sizF_iff.mp g2
  have p := rulE_pos (r := rt) (n := b) M.pos
  obtain ⟨w, hw, i1, i2⟩ := some_in p.1 p.2 (rul_some (r := rt) (n := b) M.rise M.pos)
  have hb : b < zt.length := by omega
  have sw := (rul_in M.rise M.pos hw hb).mp (by unfold rulIn; rw [i1, i2]; rfl)
  have rw1 : sizeR zt rt (ofR (toR w)) = (b : Int) := by
    have f1 : ltq w (ofR (toR w)) = false := by
      cases e : ltq w (ofR (toR w)) with
      | false => rfl
      | true =>
        have := (ltq_R hw (ofR_pos _)).mp e
        rw [toR_ofR] at this
        exact absurd this (by grind)
    have f2 : ltq (ofR (toR w)) w = false := by
      cases e : ltq (ofR (toR w)) w with
      | false => rfl
      | true =>
        have := (ltq_R (ofR_pos _) hw).mp e
        rw [toR_ofR] at this
        exact absurd this (by grind)
    have m1 := sizeR_mono (r := rt) M.pos (ofR_pos (toR w)) hw f1
    have m2 := sizeR_mono (r := rt) M.pos hw (ofR_pos (toR w)) f2
    omega
  have lx : x ≤ toR w := Rat.not_lt.mp fun q => by
    have := sizR_le (r := rt) M.pos (Rat.le_of_lt q)
    omega
  have ly : toR w ≤ y := Rat.not_lt.mp fun q => by
    have := sizR_le (r := rt) M.pos (Rat.le_of_lt q)
    omega
  exact ⟨toR w, siz_conv L lx ly h1 h2, sizF_iff.mpr ⟨inO_conv M.plo M.phi lx ly G1.1 G2.1, rw1, hb⟩⟩
end
/-- the paper: a Measure for each size met, rising -/
structure PapS (CM : Addr) (H : Hp) (k : Nat) (ys : List V) (bs : List Nat) (F G : Rat → Option Nat) (a off n : Nat) : Prop where
  len : ys.length = bs.length
  rise : bs.Pairwise (· < ·)
  mem : ∀ b, b ∈ bs ↔ off ≤ b ∧ b < off + n ∧ ∃ x, F x = some a ∧ G x = some b
  all : ∀ (i : Nat) (y : V) (b : Nat), ys[i]? = some y → bs[i]? = some b → ∃ (r : Addr) (z : Q2), y = .ref r ∧ QAt CM H r k z ∧ F (toR z) = some a ∧ G (toR z) = some b
theorem pap_of {CM : Addr} {H : Hp} {k : Nat} {F G : Rat → Option Nat} {a : Nat} : ∀ {us : List V} {off : Nat}, (∀ i u, us[i]? = some u → MetV CM H k u F G a (off + i)) → ∃ bs, PapS CM H k (us.filter fun u => !decide (u = V.non)) bs F G a off us.length
  | [], off, _ => ⟨[], rfl, .nil, fun b => ⟨fun h => by simp at h, fun h => by have := h.1; have := h.2.1; simp at this; omega⟩, fun i y b h _ => by simp at h⟩
  | u :: us, off, h => by
    obtain ⟨bs, P⟩ := pap_of (us := us) (off := off + 1) (fun i v e => by
      have := h (i + 1) v (by simpa using e)
      rwa [show off + (i + 1) = off + 1 + i by omega] at this)
    have m0 := h 0 u rfl
    rcases m0 with ⟨r, z, rfl, q, f, g⟩ | ⟨rfl, no⟩
    · have tr : (!decide (V.ref r = V.non)) = true := rfl
      refine ⟨off :: bs, ?_, ?_, fun b => ?_, fun i y b h1 h2 => ?_⟩
      · rw [List.filter_cons, if_pos tr, List.length_cons, List.length_cons, P.len]
      · exact List.pairwise_cons.mpr ⟨fun b hb => by have := ((P.mem b).mp hb).1; omega, P.rise⟩
      · rw [List.mem_cons, P.mem b, List.length_cons]
        constructor
        · rintro (rfl | ⟨h1, h2, h3⟩)
          · exact ⟨Nat.le_refl _, by omega, _, f, g⟩
          · exact ⟨by omega, by omega, h3⟩
        · rintro ⟨h1, h2, h3⟩
          by_cases e : b = off
          · exact .inl e
          · exact .inr ⟨by omega, by omega, h3⟩
      · rw [List.filter_cons, if_pos tr] at h1
        cases i with
        | zero => cases h1; cases h2; exact ⟨r, z, rfl, q, f, g⟩
        | succ i => exact P.all i y b (by simpa using h1) (by simpa using h2)
    · refine ⟨bs, ?_, P.rise, fun b => ?_, fun i y b h1 h2 => ?_⟩
      · rw [List.filter_cons, if_neg (by simp)]
        exact P.len
      · rw [P.mem b, List.length_cons]
        constructor
        · rintro ⟨h1, h2, h3⟩
          exact ⟨by omega, by omega, h3⟩
        · rintro ⟨h1, h2, x, f, g⟩
          by_cases e : b = off
          · subst e
            exact (no x f (by simpa using g)).elim
          · exact ⟨by omega, by omega, x, f, g⟩
      · rw [List.filter_cons, if_neg (by simp)] at h1
        exact P.all i y b h1 h2
end My
namespace My
open PySem PySem.Spec PyProof.Rows L2
/-- a pot of draws: great cells, a seed, a turn -/
structure PotAt (H : Hp) (h g : Addr) (n : Nat) : Prop where
  ob : ∃ s t : Int, H h = some (.lst [.ref g, .int s, .int t]) ∧ 0 ≤ s ∧ s < 2305843009213693951 ∧ 0 ≤ t ∧ t ≤ (n : Int)
  gr : ∃ gs : List Int, H g = some (.lst (gs.map V.int)) ∧ (∀ z ∈ gs, 0 ≤ z) ∧ gs.length ≤ 63
  ne : g ≠ h
def Kp2 (h g : Addr) (H H' : Hp) : Prop := ∀ b o, H b = some o → b ≠ h → b ≠ g → H' b = some o
theorem Kp2.refl {h g : Addr} (H : Hp) : Kp2 h g H H := fun _ _ e _ _ => e
theorem Kp2.trans {h g : Addr} {A B C : Hp} (a : Kp2 h g A B) (b : Kp2 h g B C) : Kp2 h g A C := fun c o e n1 n2 => b c o (a c o e n1 n2) n1 n2
theorem Kp2.same {h g : Addr} {A B : Hp} (s : Same A B) : Kp2 h g A B := fun c o e _ _ => s c o e
theorem Kp2.up {h g p : Addr} {A B : Hp} {u : HO} (a : Kp2 h g A B) (np : B p = none) : Kp2 h g A (upd B p u) := a.trans (Kp2.same (same1 np))
theorem Kp2.puth {h g : Addr} {A B : Hp} {u : HO} (a : Kp2 h g A B) : Kp2 h g A (upd B h u) := fun c o e n1 n2 => by
  rw [upd_ne n1]
  exact a c o e n1 n2
theorem Kp2.putg {h g : Addr} {A B : Hp} {u : HO} (a : Kp2 h g A B) : Kp2 h g A (upd B g u) := fun c o e n1 n2 => by
  rw [upd_ne n2]
  exact a c o e n1 n2
section
variable {H H' : Hp} {h g p : Addr} {n : Nat}
theorem PotAt.same (a : PotAt H h g n) (s : Same H H') : PotAt H' h g n := by
  obtain ⟨⟨x, t, e, r⟩, ⟨gs, e2, r2⟩, ne⟩ := a
  exact ⟨⟨x, t, s _ _ e, r⟩, ⟨gs, s _ _ e2, r2⟩, ne⟩
theorem PotAt.mono {m : Nat} (a : PotAt H h g n) (l : n ≤ m) : PotAt H h g m := by
  obtain ⟨⟨x, t, e, r⟩, b, ne⟩ := a
  exact ⟨⟨x, t, e, r.1, r.2.1, r.2.2.1, by omega⟩, b, ne⟩
theorem PotAt.up {u : HO} (a : PotAt H h g n) (np : H p = none) : PotAt (upd H p u) h g n := a.same (same1 np)
theorem PotAt.nel (a : PotAt H h g n) (np : H p = none) : p ≠ h ∧ p ≠ g := by
  obtain ⟨⟨x, t, e, _⟩, ⟨gs, e2, _⟩, _⟩ := a
  exact ⟨fun q => (by rw [q, e] at np; cases np), fun q => (by rw [q, e2] at np; cases np)⟩
theorem PotAt.nl (a : PotAt H h g n) (k : Kp2 h g H H') : Nl H H' := fun c o e no => by
  obtain ⟨⟨x, t, e1, _⟩, ⟨gs, e2, _⟩, _⟩ := a
  refine k c o e (fun q => ?_) fun q => ?_
  · rw [q, e1] at e; cases e; cases no
  · rw [q, e2] at e; cases e; cases no
theorem PotAt.get {q : Addr} {o : HO} (a : PotAt H h g n) (k : Kp2 h g H H') (e : H q = some o) (no : notHand o = true) : H' q = some o := a.nl k _ _ e no
end
theorem cp10 : CPow 10 40 := ⟨by decide, by decide, by decide⟩
theorem p40 : (0 : Int) < 10 ^ (Int.toNat 40) := Int.pow_pos (by decide)
theorem cp18 : CPow 10 18 := ⟨by decide, by decide, by decide⟩
def sp_begin (K : PySem.W.Frag) : Sp := fun vs H Q _ => ∃ (a : Addr) (ns : List Int), vs = [.ref a] ∧ SqL K H a (ns.map V.int) ∧ ns.length ≤ 63 ∧ ∀ (h g : Addr) (H' : Hp), Same H H' → H h = none → H g = none → PotAt H' h g 0 → Q (.ref h) H'
def sp_pick27 : Sp := fun vs H Q _ => ∃ (h g : Addr) (n : Nat) (m : Int), vs = [.ref h, .int m] ∧ PotAt H h g n ∧ n < 100000 ∧ 0 < m ∧ m.natAbs.log2 < 9000 ∧ ∀ (d : Int) (H' : Hp), 0 ≤ d → d < m → PotAt H' h g (n + 1) → Kp2 h g H H' → Q (.int d) H'
theorem op_neL0 {X : Cx} (hu : X.A.units < cLine) : OpR X (compareOp .NotEq) (fun x y H Q => ∃ (a b : Addr) (xs : List V), x = .ref a ∧ y = .ref b ∧ SqL X.K H a xs ∧ SqL X.K H b [] ∧ Q (.bl (!xs.isEmpty)) H) := by
  intro pins s σ H x y v u Q I rx ry h
  obtain ⟨a, b, xs, rfl, rfl, ha, hb, q⟩ := h
  cases rx
  cases ry
  obtain ⟨its, rv, pl, _⟩ := I.list ha
  obtain ⟨its2, rv2, pl2, _⟩ := I.list hb
  have e2 : its2 = [] := by cases rv2; rfl
  subst e2
  cases xs with
  | nil =>
    have e1 : its = [] := by cases rv; rfl
    subst e1
    exact SeqAt.RcNeAt.lists (e := fun _ => true) pl.isList pl2.isList rfl hu (fun j h1 _ => absurd h1 (by simp)) X.prog X.w X.xe _ ⟨.bl false, H, I, rfl, q⟩
  | cons z r =>
    cases rv with
    | cons r1 rs => exact SeqAt.RcNeAt.lists_lengths pl.isList pl2.isList (by simp) hu X.prog X.w X.xe _ ⟨.bl true, H, I, rfl, q⟩

/-! ### fractions of the law: pairs in lowest terms -/
def PR (x : Rat) : HO := .tup [.int x.num, .int (x.den : Int)]
def SzR (k : Nat) (x : Rat) : Prop := Sz k x.num ∧ Sz k (x.den : Int)
theorem SzR.mono {a b : Nat} {x : Rat} (h : SzR a x) (l : a ≤ b) : SzR b x := ⟨h.1.mono l, h.2.mono l⟩
theorem den0 (x : Rat) : (0 : Int) < (x.den : Int) := by have := x.den_pos; omega
theorem toR_nd (x : Rat) : toR (x.num, (x.den : Int)) = x := by
  show (x.num : Rat) / ((x.den : Int) : Rat) = x
  rw [← Rat.divInt_eq_div]
  exact Rat.num_divInt_den x
theorem pr_of {t u a b : Int} (hb : 0 < b) (f : Fr t u a b) : (toR (a, b)).num = t ∧ ((toR (a, b)).den : Int) = u := by
  have up := f.pos
  obtain ⟨n, rfl⟩ := Int.eq_ofNat_of_zero_le (Int.le_of_lt up)
  have n0 : n ≠ 0 := by omega
  have co : Nat.Coprime t.natAbs n := f.co
  have e1 : toR (a, b) = toR (t, (n : Int)) := by
    have e := f.eq
    have p1 := posR hb
    have p2 := posR up
    have e : (t : Rat) * (b : Rat) = (a : Rat) * ((n : Int) : Rat) := by rw [← Rat.intCast_mul, ← Rat.intCast_mul, e]
    unfold toR
    show (a : Rat) / (b : Rat) = (t : Rat) / ((n : Int) : Rat)
    grind
  have e : toR (a, b) = (⟨t, n, n0, co⟩ : Rat) := by
    rw [e1]
    exact toR_nd ⟨t, n, n0, co⟩
  rw [e]
  exact ⟨rfl, rfl⟩
theorem szr_of {a b : Int} {k : Nat} (hb : 0 < b) (sa : Sz k a) (sb : Sz k b) : SzR k (toR (a, b)) := by
  have f := (fr_mk (a := a) (b := b) (c := sgn b * (Int.gcd a b : Int)) (by omega) rfl).2.2
  obtain ⟨e1, e2⟩ := pr_of hb f
  refine ⟨?_, ?_⟩
  · rw [e1]
    exact Nat.lt_of_le_of_lt f.lt sa
  · rw [e2]
    exact Nat.lt_of_le_of_lt f.lu sb
theorem lt_PR {x y : Rat} : decide (x.num * (y.den : Int) < y.num * (x.den : Int)) = decide (x < y) := by
  have := ltq_R (a := (x.num, (x.den : Int))) (b := (y.num, (y.den : Int))) (den0 x) (den0 y)
  rw [toR_nd, toR_nd] at this
  exact decide_eq_decide.mpr (by rw [← this]; unfold ltq; exact decide_eq_true_iff.symm)
theorem add_PR {x y : Rat} : toR (x.num * (y.den : Int) + y.num * (x.den : Int), (x.den : Int) * (y.den : Int)) = x + y := by
  have h1 := posR (den0 x)
  have h2 := posR (den0 y)
  have e1 := toR_nd x
  have e2 := toR_nd y
  unfold toR at *
  rw [Rat.intCast_mul, Rat.intCast_add, Rat.intCast_mul, Rat.intCast_mul]
  grind
theorem half_PR {x : Rat} : toR (x.num, 2 * (x.den : Int)) = x / 2 := by
  have h1 := posR (den0 x)
  have e1 := toR_nd x
  unfold toR at *
  rw [Rat.intCast_mul]
  grind
theorem szr_add {x y : Rat} {k : Nat} (h : SzR k x) (g : SzR k y) : SzR (k + k + 1) (x + y) := by
  rw [← add_PR]
  exact szr_of (Int.mul_pos (den0 x) (den0 y)) (Sz.add (h.1.mul g.2) (g.1.mul h.2)) ((h.2.mul g.2).mono (by omega))
theorem szr_half {x : Rat} {k : Nat} (h : SzR k x) : SzR (2 + k) (x / 2) := by
  rw [← half_PR]
  exact szr_of (by have := den0 x; omega) (h.1.mono (by omega)) (Sz.mul (show Sz 2 2 by decide) h.2)
theorem PR.inj {x y : Rat} (e1 : x.num = y.num) (e2 : (x.den : Int) = (y.den : Int)) : x = y := by
  rw [← toR_nd x, ← toR_nd y, e1, e2]
theorem cmw {i j : Int} {k : Nat} (h : Sz k i) (g : Sz k j) (l : k ≤ 4000) : CMulW i j := by
  have h1 := PySem.Flt.log2_lt_of (Nat.succ_pos k) (h.mono (Nat.le_succ k))
  have h2 := PySem.Flt.log2_lt_of (Nat.succ_pos k) (g.mono (Nat.le_succ k))
  show _ + _ < 1000000
  omega
theorem Kp2.seq {K : PySem.W.Frag} {h g l : Addr} {H H' : Hp} {xs : List V} (k : Kp2 h g H H') (n1 : l ≠ h) (n2 : l ≠ g) (a : SqL K H l xs) : SqL K H' l xs := by
  rcases a with (a | ⟨o, a⟩) | a
  · exact .inl (.inl (k _ _ a n1 n2))
  · exact .inl (.inr ⟨o, k _ _ a n1 n2⟩)
  · exact .inr a
def sp_of27 (K : PySem.W.Frag) : Sp := fun vs H Q _ => ∃ (h g l : Addr) (n : Nat) (xs : List V), vs = [.ref h, .ref l] ∧ PotAt H h g n ∧ n < 100000 ∧ SqL K H l xs ∧ l ≠ h ∧ l ≠ g ∧ 0 < xs.length ∧ xs.length ≤ 1000 ∧
  ∀ (i : Nat) (x : V) (H' : Hp), xs[i]? = some x → PotAt H' h g (n + 1) → Kp2 h g H H' → Q x H'
def sp_parts27 : Sp := fun vs H Q _ => ∃ a b : Int, vs = [.int a, .int b] ∧ 0 < b ∧ b.natAbs.log2 < 9000 ∧ ∀ (p : Addr) (H' : Hp), H p = none → Same H H' → H' p = some (PR (toR (a, b))) → Q (.ref p) H'
def sp_less27 : Sp := fun vs H Q _ => ∃ (a b : Addr) (x y : Rat) (k : Nat), vs = [.ref a, .ref b] ∧ H a = some (PR x) ∧ H b = some (PR y) ∧ SzR k x ∧ SzR k y ∧ k ≤ 4000 ∧ Q (.bl (decide (x < y))) H
def sp_plus27 : Sp := fun vs H Q _ => ∃ (a b : Addr) (x y : Rat) (k : Nat), vs = [.ref a, .ref b] ∧ H a = some (PR x) ∧ H b = some (PR y) ∧ SzR k x ∧ SzR k y ∧ 0 < k ∧ k ≤ 4000 ∧ ∀ (p : Addr) (H' : Hp), H p = none → Same H H' → H' p = some (PR (x + y)) → Q (.ref p) H'
def sp_mid27 : Sp := fun vs H Q _ => ∃ (a b : Addr) (x y : Rat) (k : Nat), vs = [.ref a, .ref b] ∧ H a = some (PR x) ∧ H b = some (PR y) ∧ SzR k x ∧ SzR k y ∧ 0 < k ∧ k ≤ 4000 ∧ ∀ (p : Addr) (H' : Hp), H p = none → Same H H' → H' p = some (PR ((x + y) / 2)) → Q (.ref p) H'

/-! ### the law's own stretches -/
abbrev LS := Option Rat × Bool × Option Rat × Bool
def OP (H : Hp) (v : V) : Option Rat → Prop
  | none => v = .non
  | some q => ∃ a, v = .ref a ∧ H a = some (PR q)
theorem OP.same {H H' : Hp} {v : V} {o : Option Rat} (s : Same H H') (h : OP H v o) : OP H' v o := by
  cases o with
  | none => exact h
  | some q =>
    obtain ⟨a, e, h⟩ := h
    exact ⟨a, e, s _ _ h⟩
structure LSAt (H : Hp) (a : Addr) (s : LS) : Prop where
  ob : ∃ u v, H a = some (.tup [u, .bl s.2.1, v, .bl s.2.2.2]) ∧ OP H u s.1 ∧ OP H v s.2.2.1
theorem LSAt.same {H H' : Hp} {a : Addr} {s : LS} (e : Same H H') (h : LSAt H a s) : LSAt H' a s := by
  obtain ⟨u, v, h1, h2, h3⟩ := h.ob
  exact ⟨u, v, e _ _ h1, h2.same e, h3.same e⟩
def ZzO (k : Nat) (o : Option Rat) : Prop := ∀ q, o = some q → SzR k q
def ZzL (k : Nat) (s : LS) : Prop := ZzO k s.1 ∧ ZzO k s.2.2.1
def loB (o : Option Rat) (i : Bool) (x : Rat) : Bool := match o with | none => true | some a => decide (a < x) || (i && decide (a = x))
def hiB (o : Option Rat) (i : Bool) (x : Rat) : Bool := match o with | none => true | some a => decide (x < a) || (i && decide (a = x))
def insB (s : LS) (x : Rat) : Bool := loB s.1 s.2.1 x && hiB s.2.2.1 s.2.2.2 x
def loCut (o : Option Rat) (i : Bool) (p : Option Rat) (j : Bool) : Option Rat × Bool :=
  match p with
  | none => (o, i)
  | some b => match o with
    | none => (some b, j)
    | some a => if b < a then (some a, i) else (some b, j && (i || decide (a ≠ b)))
def hiCut (o : Option Rat) (i : Bool) (p : Option Rat) (j : Bool) : Option Rat × Bool :=
  match p with
  | none => (o, i)
  | some b => match o with
    | none => (some b, j)
    | some a => if a < b then (some a, i) else (some b, j && (i || decide (a ≠ b)))
def cutL (s t : LS) : LS := ((loCut s.1 s.2.1 t.1 t.2.1).1, (loCut s.1 s.2.1 t.1 t.2.1).2, (hiCut s.2.2.1 s.2.2.2 t.2.2.1 t.2.2.2).1, (hiCut s.2.2.1 s.2.2.2 t.2.2.1 t.2.2.2).2)
def fullB (s : LS) : Bool := match s.1, s.2.2.1 with
  | some a, some b => decide (a < b) || (decide (a = b) && s.2.1 && s.2.2.2)
  | _, _ => true
theorem loCut_ok {o p : Option Rat} {i j : Bool} {x : Rat} : loB (loCut o i p j).1 (loCut o i p j).2 x = (loB o i x && loB p j x) := by
  cases p with
  | none => simp [loCut, loB]
  | some b =>
    cases o with
    | none => simp [loCut, loB]
    | some a =>
      unfold loCut loB
      cases i <;> cases j <;> split <;> grind
theorem hiCut_ok {o p : Option Rat} {i j : Bool} {x : Rat} : hiB (hiCut o i p j).1 (hiCut o i p j).2 x = (hiB o i x && hiB p j x) := by
  cases p with
  | none => simp [hiCut, hiB]
  | some b =>
    cases o with
    | none => simp [hiCut, hiB]
    | some a =>
      unfold hiCut hiB
      cases i <;> cases j <;> split <;> grind
theorem insB_cut {s t : LS} {x : Rat} : insB (cutL s t) x = (insB s x && insB t x) := by
  unfold insB cutL
  rw [loCut_ok, hiCut_ok]
  cases loB s.1 s.2.1 x <;> cases loB t.1 t.2.1 x <;> simp
/-! ### ladders of the law -/
structure LD where
  ms : List Rat
  r : Str
  lo : Option Rat
  hi : Option Rat
def oR (o : Option Rat) : Option Q2 := o.map ofR
def zR (ms : List Rat) : List Q2 := ms.map ofR
structure LdOk (d : LD) : Prop where
  len0 : 0 < d.ms.length
  len1 : d.ms.length ≤ 24
  rise : ∀ (i : Nat) (a b : Rat), d.ms[i]? = some a → d.ms[i + 1]? = some b → a < b
  rule : IsRule d.r
  span : ∀ a b, d.lo = some a → d.hi = some b → a ≤ b
abbrev LD.F (d : LD) : Rat → Option Nat := sizF (zR d.ms) d.r (oR d.lo) (oR d.hi)
theorem zR_get {ms : List Rat} {i : Nat} : (zR ms)[i]? = ms[i]?.map ofR := List.getElem?_map
theorem zR_len {ms : List Rat} : (zR ms).length = ms.length := List.length_map ..
theorem oR_pos : ∀ {o : Option Rat}, PosO (oR o)
  | none => trivial
  | some x => ofR_pos x
theorem zR_pos {ms : List Rat} : PosL (zR ms) := fun z hz => by
  obtain ⟨x, _, rfl⟩ := List.mem_map.mp hz
  exact ofR_pos x
theorem ltq_of_lt {x y : Rat} : ltq (ofR x) (ofR y) = decide (x < y) := by
  rw [Bool.eq_iff_iff, ltq_R (ofR_pos x) (ofR_pos y), toR_ofR, toR_ofR]
  exact decide_eq_true_iff.symm
theorem LdOk.riseQ {d : LD} (h : LdOk d) : RiseQ (zR d.ms) := fun i a b h1 h2 => by
  rw [zR_get] at h1 h2
  cases e1 : d.ms[i]? with
  | none => rw [e1] at h1; cases h1
  | some x =>
    cases e2 : d.ms[i + 1]? with
    | none => rw [e2] at h2; cases h2
    | some y =>
      rw [e1] at h1
      rw [e2] at h2
      cases h1
      cases h2
      rw [ltq_of_lt]
      exact decide_eq_true (h.rise i x y e1 e2)
theorem LdOk.spanQ {d : LD} (h : LdOk d) : spanB (oR d.lo) (oR d.hi) = true := by
  cases e1 : d.lo with
  | none => rfl
  | some a =>
    cases e2 : d.hi with
    | none => rfl
    | some b =>
      show (!ltq (ofR b) (ofR a)) = true
      rw [ltq_of_lt, decide_eq_false (Rat.not_lt.mpr (h.span a b e1 e2))]
      rfl
theorem LdOk.lq {d : LD} (h : LdOk d) : LadQ (zR d.ms) d.r (oR d.lo) (oR d.hi) := ⟨h.riseQ, zR_pos, oR_pos, oR_pos, h.spanQ⟩
def lwR (ms : List Rat) : Nat → Option Rat
  | 0 => none
  | j + 1 => ms[j]?
def mdR (ms : List Rat) : Nat → Option Rat
  | 0 => none
  | j + 1 => match ms[j]?, ms[j + 1]? with
    | some a, some b => some ((a + b) / 2)
    | _, _ => none
def rulR (d : LD) (k : Nat) : LS :=
  if d.r = "up" then (lwR d.ms k, false, d.ms[k]?, true) else if d.r = "down" then (d.ms[k]?, true, d.ms[k + 1]?, false) else (mdR d.ms k, true, mdR d.ms (k + 1), false)
def partL (d : LD) (k : Nat) : LS := cutL (rulR d k) (d.lo, true, d.hi, true)
theorem loIn_R {o : Option Q2} {i : Bool} {z : Q2} (p : PosO o) (hz : 0 < z.2) : loIn o i z = loB (o.map toR) i (toR z) := by
  cases o with
  | none => rfl
  | some a =>
    have h1 : ltq a z = decide (toR a < toR z) := by
      rw [Bool.eq_iff_iff, ltq_R p hz]
      exact decide_eq_true_iff.symm
    have h2 : eqq a z = decide (toR a = toR z) := by
      rw [Bool.eq_iff_iff]
      constructor
      · intro e
        exact decide_eq_true (re_R (z := a) (w := z) ⟨p, hz, of_decide_eq_true e⟩)
      · intro e
        exact decide_eq_true (re_of_R p hz (of_decide_eq_true e)).2.2
    show (ltq a z || (i && eqq a z)) = (decide (toR a < toR z) || (i && decide (toR a = toR z)))
    rw [h1, h2]
theorem hiIn_R {o : Option Q2} {i : Bool} {z : Q2} (p : PosO o) (hz : 0 < z.2) : hiIn o i z = hiB (o.map toR) i (toR z) := by
  cases o with
  | none => rfl
  | some a =>
    have h1 : ltq z a = decide (toR z < toR a) := by
      rw [Bool.eq_iff_iff, ltq_R hz p]
      exact decide_eq_true_iff.symm
    have h2 : eqq z a = decide (toR a = toR z) := by
      rw [Bool.eq_iff_iff]
      constructor
      · intro e
        exact decide_eq_true (re_R (z := z) (w := a) ⟨hz, p, of_decide_eq_true e⟩).symm
      · intro e
        exact decide_eq_true (re_of_R hz p (of_decide_eq_true e).symm).2.2
    show (ltq z a || (i && eqq z a)) = (decide (toR z < toR a) || (i && decide (toR a = toR z)))
    rw [h1, h2]
theorem oR_toR {o : Option Rat} : (oR o).map toR = o := by
  cases o with
  | none => rfl
  | some x => show some (toR (ofR x)) = some x; rw [toR_ofR]
theorem get_toR {ms : List Rat} {i : Nat} : ((zR ms)[i]?).map toR = ms[i]? := by
  rw [zR_get]
  exact oR_toR
theorem endQ_nat {zs : List Q2} {i : Nat} : endQ zs (i : Int) = zs[i]? := by
  unfold endQ
  by_cases h : i < zs.length
  · rw [if_pos ⟨by omega, by omega⟩]; rfl
  · rw [if_neg (by omega)]
    exact (List.getElem?_eq_none (by omega)).symm
theorem endQ_m1 {zs : List Q2} {i : Int} (h : i < 0) : endQ zs i = none := by
  unfold endQ
  rw [if_neg (by omega)]
theorem lw_toR {ms : List Rat} {k : Nat} : (endQ (zR ms) ((k : Int) - 1)).map toR = lwR ms k := by
  cases k with
  | zero => rw [endQ_m1 (by omega)]; rfl
  | succ j =>
    rw [show ((j + 1 : Nat) : Int) - 1 = (j : Int) by omega, endQ_nat, get_toR]
    rfl
theorem md_at {ms : List Rat} {j : Nat} : ((midq (zR ms))[j]?).map toR = mdR ms (j + 1) := by
  have ln := midq_len (zR ms)
  rw [zR_len] at ln
  cases e1 : ms[j]? with
  | none =>
    have := List.getElem?_eq_none_iff.mp e1
    rw [List.getElem?_eq_none (by omega)]
    show none = match ms[j]?, ms[j + 1]? with | some a, some b => some ((a + b) / 2) | _, _ => none
    rw [e1]
  | some a =>
    cases e2 : ms[j + 1]? with
    | none =>
      have := List.getElem?_eq_none_iff.mp e2
      rw [List.getElem?_eq_none (by omega)]
      show none = match ms[j]?, ms[j + 1]? with | some a, some b => some ((a + b) / 2) | _, _ => none
      rw [e1, e2]
    | some b =>
      rw [midq_get (zR ms) j (ofR a) (ofR b) (by rw [zR_get, e1]; rfl) (by rw [zR_get, e2]; rfl)]
      show some (toR (qhalf (ofR a) (ofR b))) = match ms[j]?, ms[j + 1]? with | some a, some b => some ((a + b) / 2) | _, _ => none
      rw [e1, e2, half_R (ofR_pos a) (ofR_pos b), toR_ofR, toR_ofR]
theorem md_lo {ms : List Rat} {k : Nat} : (endQ (midq (zR ms)) ((k : Int) - 1)).map toR = mdR ms k := by
  cases k with
  | zero => rw [endQ_m1 (by omega)]; rfl
  | succ j => rw [show ((j + 1 : Nat) : Int) - 1 = (j : Int) by omega, endQ_nat, md_at]
theorem md_hi {ms : List Rat} {k : Nat} : (endQ (midq (zR ms)) (k : Int)).map toR = mdR ms (k + 1) := by rw [endQ_nat, md_at]
theorem rul_ins {d : LD} {k : Nat} {x : Rat} : insB (rulR d k) x = rulIn (zR d.ms) d.r k (ofR x) := by
  have p := rulE_pos (r := d.r) (n := k) (zR_pos (ms := d.ms))
  unfold rulIn insB
  rw [loIn_R p.1 (ofR_pos x), hiIn_R p.2 (ofR_pos x), toR_ofR]
  unfold rulR rulE
  split
  · simp only [lw_toR, get_toR]
  · split
    · simp only [get_toR]
      rw [show (k : Int) + 1 = ((k + 1 : Nat) : Int) by omega, endQ_nat, get_toR]
    · simp only [md_lo, md_hi]
theorem own_ins {lo hi : Option Rat} {x : Rat} : insB (lo, true, hi, true) x = inO (oR lo) (oR hi) (ofR x) := by
  unfold insB inO
  congr 1
  · cases lo with
    | none => rfl
    | some a =>
      show (decide (a < x) || (true && decide (a = x))) = !ltq (ofR x) (ofR a)
      rw [ltq_of_lt, Bool.eq_iff_iff]
      simp
      grind
  · cases hi with
    | none => rfl
    | some a =>
      show (decide (x < a) || (true && decide (a = x))) = !ltq (ofR a) (ofR x)
      rw [ltq_of_lt, Bool.eq_iff_iff]
      simp
      grind
theorem part_in {d : LD} {k : Nat} {x : Rat} (h : LdOk d) (hk : k < d.ms.length) : insB (partL d k) x = true ↔ d.F x = some k := by
  unfold partL LD.F
  rw [insB_cut, rul_ins, own_ins, sizF_iff, Bool.and_eq_true, rul_in h.riseQ zR_pos (ofR_pos x) (by rw [zR_len]; exact hk), zR_len]
  exact ⟨fun ⟨a, b⟩ => ⟨b, a, hk⟩, fun ⟨a, b, _⟩ => ⟨b, a⟩⟩
def SzD (k : Nat) (d : LD) : Prop := (∀ x ∈ d.ms, SzR k x) ∧ ZzO k d.lo ∧ ZzO k d.hi
theorem ZzO.mono {a b : Nat} {o : Option Rat} (h : ZzO a o) (l : a ≤ b) : ZzO b o := fun q e => (h q e).mono l
theorem SzD.mono {a b : Nat} {d : LD} (h : SzD a d) (l : a ≤ b) : SzD b d := ⟨fun x m => (h.1 x m).mono l, h.2.1.mono l, h.2.2.mono l⟩
theorem SzD.get {k : Nat} {d : LD} (h : SzD k d) {i : Nat} : ZzO k d.ms[i]? := fun _ e => h.1 _ (List.mem_of_getElem? e)
theorem LD.F_lt {d : LD} {x : Rat} {b : Nat} (h : d.F x = some b) : b < d.ms.length := by
  have := sizeQ_lt (show sizeQ _ _ _ _ _ = some b from h)
  rwa [zR_len] at this
/-! ### they on the heap -/
def RsV (H : Hp) (vs : List V) (ms : List Rat) : Prop := vs.length = ms.length ∧ ∀ (i : Nat) (x : Rat), ms[i]? = some x → ∃ a : Addr, vs[i]? = some (V.ref a) ∧ H a = some (PR x)
structure LdAt (H : Hp) (p : Addr) (d : LD) : Prop where
  ob : ∃ (M : Addr) (u w : V) (vs : List V), H p = some (.tup [.ref M, .str d.r, u, w]) ∧ H M = some (.lst vs) ∧ RsV H vs d.ms ∧ OP H u d.lo ∧ OP H w d.hi
theorem RsV.same {H H' : Hp} {vs : List V} {ms : List Rat} (h : RsV H vs ms) (s : Same H H') : RsV H' vs ms := ⟨h.1, fun i x e => by
  obtain ⟨a, e1, e2⟩ := h.2 i x e
  exact ⟨a, e1, s _ _ e2⟩⟩
theorem RsV.nl {H H' : Hp} {vs : List V} {ms : List Rat} (h : RsV H vs ms) (s : Nl H H') : RsV H' vs ms := ⟨h.1, fun i x e => by
  obtain ⟨a, e1, e2⟩ := h.2 i x e
  exact ⟨a, e1, s _ _ e2 rfl⟩⟩
theorem OP.nl {H H' : Hp} {v : V} {o : Option Rat} (h : OP H v o) (s : Nl H H') : OP H' v o := by
  cases o with
  | none => exact h
  | some q =>
    obtain ⟨a, e, h⟩ := h
    exact ⟨a, e, s _ _ h rfl⟩
theorem LdAt.same {H H' : Hp} {p : Addr} {d : LD} (h : LdAt H p d) (s : Same H H') : LdAt H' p d := by
  obtain ⟨M, u, w, vs, h1, h2, h3, h4, h5⟩ := h.ob
  exact ⟨M, u, w, vs, s _ _ h1, s _ _ h2, h3.same s, h4.same s, h5.same s⟩
theorem rsv_ne {H : Hp} {h g M : Addr} {n : Nat} {vs : List V} {ms : List Rat} (pt : PotAt H h g n) (e : H M = some (.lst vs)) (r : RsV H vs ms) (l : 0 < ms.length) : M ≠ h ∧ M ≠ g := by
  obtain ⟨⟨s, t, e1, _⟩, ⟨gs, e2, _⟩, _⟩ := pt
  obtain ⟨r1, r2⟩ := r
  obtain ⟨a, ea, _⟩ := r2 0 _ (List.getElem?_eq_getElem l)
  refine ⟨fun q => ?_, fun q => ?_⟩
  · rw [q, e1] at e
    cases e
    cases e3 : ms[1]? with
    | none =>
      have := List.getElem?_eq_none_iff.mp e3
      simp at r1
      omega
    | some x =>
      obtain ⟨b, eb, _⟩ := r2 1 x e3
      simp at eb
  · rw [q, e2] at e
    cases e
    rw [List.getElem?_map] at ea
    cases e4 : gs[0]? with
    | none => rw [e4] at ea; cases ea
    | some z => rw [e4] at ea; cases ea
theorem LdAt.kp {H H' : Hp} {h g p : Addr} {n : Nat} {d : LD} (a : LdAt H p d) (l : 0 < d.ms.length) (pt : PotAt H h g n) (k : Kp2 h g H H') : LdAt H' p d := by
  obtain ⟨M, u, w, vs, h1, h2, h3, h4, h5⟩ := a.ob
  have ne := rsv_ne pt h2 h3 l
  have s := pt.nl k
  exact ⟨M, u, w, vs, s _ _ h1 rfl, k _ _ h2 ne.1 ne.2, h3.nl s, h4.nl s, h5.nl s⟩
/-- the stretch of a size, or none -/
def LPart (H : Hp) (v : V) (s : LS) : Prop := (fullB s = true ∧ ∃ a, v = .ref a ∧ LSAt H a s) ∨ (fullB s = false ∧ v = .non)
theorem LPart.same {H H' : Hp} {v : V} {s : LS} (h : LPart H v s) (e : Same H H') : LPart H' v s := by
  rcases h with ⟨f, a, rfl, g⟩ | h
  · exact .inl ⟨f, a, rfl, g.same e⟩
  · exact .inr h

theorem PotAt.put {H : Hp} {h g D : Addr} {n : Nat} {u : HO} (a : PotAt H h g n) (n1 : D ≠ h) (n2 : D ≠ g) : PotAt (upd H D u) h g n := by
  obtain ⟨⟨x, t, e, r⟩, ⟨gs, e2, r2⟩, ne⟩ := a
  exact ⟨⟨x, t, by rw [upd_ne (Ne.symm n1)]; exact e, r⟩, ⟨gs, by rw [upd_ne (Ne.symm n2)]; exact e2, r2⟩, ne⟩
theorem Kp2.putN {h g D : Addr} {A B : Hp} {u : HO} (a : Kp2 h g A B) (np : A D = none) : Kp2 h g A (upd B D u) := fun c o e n1 n2 => by
  rw [upd_ne (ne_of_none e np)]
  exact a c o e n1 n2
def LdV (P : LD → Prop) (H : Hp) (v : V) : Prop := ∃ p d, v = .ref p ∧ LdAt H p d ∧ P d
theorem LdAt.put {P : LD → Prop} (hP : ∀ d, P d → 0 < d.ms.length) {H : Hp} {p D : Addr} {d : LD} {acc : List V} {u : HO} (a : LdAt H p d) (l : 0 < d.ms.length) (e : H D = some (.lst acc)) (al : ∀ v ∈ acc, LdV P H v) : LdAt (upd H D u) p d := by
  obtain ⟨M, u', w, vs, h1, h2, h3, h4, h5⟩ := a.ob
  have ne : M ≠ D := fun q => by
    rw [q, e] at h2
    cases h2
    obtain ⟨r1, r2⟩ := h3
    obtain ⟨b, eb, hb⟩ := r2 0 _ (List.getElem?_eq_getElem l)
    obtain ⟨q', d', e', la, _⟩ := al _ (List.mem_of_getElem? eb)
    cases e'
    obtain ⟨M', u2, w2, vs2, g1, _⟩ := la.ob
    rw [hb] at g1
    cases g1
  have pn : ∀ b ts, H b = some (.tup ts) → (upd H D u) b = some (.tup ts) := fun b ts e3 => by
    rw [upd_ne (fun q => by rw [q, e] at e3; cases e3)]
    exact e3
  have op : ∀ {v : V} {o : Option Rat}, OP H v o → OP (upd H D u) v o := fun {v o} h => by
    cases o with
    | none => exact h
    | some q =>
      obtain ⟨a, e, h⟩ := h
      exact ⟨a, e, pn _ _ h⟩
  exact ⟨M, u', w, vs, pn _ _ h1, by rw [upd_ne ne]; exact h2, ⟨h3.1, fun i x ei => by
    obtain ⟨b, e1, e2⟩ := h3.2 i x ei
    exact ⟨b, e1, pn _ _ e2⟩⟩, op h4, op h5⟩
theorem lcLd {J : It} {n : Nat} {G : Hp → Prop} {Y : Nat → Hp → V → Hp → Prop} {f : TG} {tt : TT} {te : TE} {vs : List Nat} {σ : L2.St} {H1 : Hp} {D : Addr} {Qd : Hp → Prop} {h g : Addr} {c m : Nat} (P : LD → Prop) (hP : ∀ d, P d → 0 < d.ms.length) (w : Walk J n G Y) (hG : ∀ H, G H) (hz : n < sizeLine) (pt : PotAt H1 h g m) (hD : H1 D = none)
    (hs : ∀ (i : Nat) (x : V) (H H' : Hp) (N : VK) (M : Hp → Prop), i < n → Kp2 h g H1 H → PotAt H h g (m + c * i) → Y i H x H' → (∀ p d H4, Kp2 h g H H4 → PotAt H4 h g (m + c * (i + 1)) → LdAt H4 p d → P d → N (.ref p) H4) →
      f x (wipe σ vs) H' fun σ2 H2 => wipe σ2 vs = wipe σ vs ∧ tt σ2 H2 fun b H3 => if b = true then te σ2 H3 N else M H3)
    (hd : ∀ H ys, Kp2 h g H1 H → PotAt H h g (m + c * n) → H D = some (.lst ys) → ys.length = n → (∀ v ∈ ys, LdV P H v) → Qd H) :
    ∃ W : Nat → Nat → Hp → Prop, (∃ m, W 0 m (upd H1 D (.lst []))) ∧ ∀ i m H, W i m H →
      (J.stop i H ∧ Qd H) ∨ (J.go i H ∧ ∃ Nx : Hp → Prop, (∀ H', Nx H' → ∃ m', m' < m ∧ W (i + 1) m' H') ∧ ∀ x H', J.yld i H x H' → f x (wipe σ vs) H' fun σ2 H2 => wipe σ2 vs = wipe σ vs ∧ tt σ2 H2 fun b H3 =>
        if b = true then te σ2 H3 fun y H4 => ∃ acc, H4 D = some (.lst acc) ∧ acc.length < sizeLine ∧ Nx (upd H4 D (.lst (acc ++ [y]))) else Nx H3) := by
  obtain ⟨n1, n2⟩ := pt.nel hD
  refine lc_it w (fun i H => Kp2 h g H1 H ∧ PotAt H h g (m + c * i) ∧ ∃ ys, H D = some (.lst ys) ∧ ys.length = i ∧ ∀ v ∈ ys, LdV P H v) ⟨(Kp2.refl _).up hD, pt.up hD, [], upd_same, rfl, fun v hv => by simp at hv⟩ (fun i H _ p => hG _) (fun i x H H' hi p y => ?_) (fun H p => ?_)
  · obtain ⟨s1, pi, ys, h1, h2, h3⟩ := p
    refine hs i x H H' _ _ hi s1 pi y (fun q d H4 s4 p4 L4 Pd => ?_)
    have hD4 := s4 _ _ h1 n1 n2
    have al : ∀ v ∈ ys, LdV P H4 v := fun v hv => by
      obtain ⟨q', d', e, l, pd⟩ := h3 v hv
      exact ⟨q', d', e, l.kp (hP _ pd) pi s4, pd⟩
    refine ⟨ys, hD4, by omega, ?_, p4.put n1 n2, ys ++ [.ref q], upd_same, by rw [List.length_append, h2]; rfl, fun v hv => ?_⟩
    · exact (s1.trans s4).putN hD
    · rcases List.mem_append.mp hv with hv | hv
      · obtain ⟨q', d', e, l, pd⟩ := al v hv
        exact ⟨q', d', e, l.put hP (hP _ pd) hD4 al, pd⟩
      · rw [List.mem_singleton.mp hv]
        exact ⟨q, d, rfl, L4.put hP (hP _ Pd) hD4 al, Pd⟩
  · obtain ⟨s1, pi, ys, h1, h2, h3⟩ := p
    exact hd H ys s1 (by rw [show n = n from rfl]; exact pi) h1 h2 h3
/-! ### scaled; whole parts -/
theorem mul_PR {x y : Rat} : toR (x.num * y.num, (x.den : Int) * (y.den : Int)) = x * y := by
  have h1 := posR (den0 x)
  have h2 := posR (den0 y)
  have e1 := toR_nd x
  have e2 := toR_nd y
  unfold toR at *
  rw [Rat.intCast_mul, Rat.intCast_mul]
  grind
theorem szr_mul {x y : Rat} {k j : Nat} (h : SzR k x) (g : SzR j y) : SzR (k + j) (x * y) := by
  rw [← mul_PR]
  exact szr_of (Int.mul_pos (den0 x) (den0 y)) (h.1.mul g.1) (h.2.mul g.2)
def LD.sc (d : LD) (c : Rat) : LD := ⟨d.ms.map (· * c), d.r, d.lo.map (· * c), d.hi.map (· * c)⟩
theorem lt_sc {a b c : Rat} (h : a < b) (hc : 0 < c) : a * c < b * c := Rat.mul_lt_mul_of_pos_right h hc
theorem LdOk.sc {d : LD} {c : Rat} (h : LdOk d) (hc : 0 < c) : LdOk (d.sc c) := by
  refine ⟨?_, ?_, ?_, h.rule, ?_⟩
  · show 0 < (d.ms.map (· * c)).length
    rw [List.length_map]; exact h.len0
  · show (d.ms.map (· * c)).length ≤ 24
    rw [List.length_map]; exact h.len1
  · intro i a b h1 h2
    have h1 : (d.ms.map (· * c))[i]? = some a := h1
    have h2 : (d.ms.map (· * c))[i + 1]? = some b := h2
    rw [List.getElem?_map] at h1 h2
    cases e1 : d.ms[i]? with
    | none => rw [e1] at h1; cases h1
    | some x =>
      cases e2 : d.ms[i + 1]? with
      | none => rw [e2] at h2; cases h2
      | some y =>
        rw [e1] at h1
        rw [e2] at h2
        cases h1
        cases h2
        exact lt_sc (h.rise i x y e1 e2) hc
  · intro a b h1 h2
    have h1 : d.lo.map (· * c) = some a := h1
    have h2 : d.hi.map (· * c) = some b := h2
    cases e1 : d.lo with
    | none => rw [e1] at h1; cases h1
    | some x =>
      cases e2 : d.hi with
      | none => rw [e2] at h2; cases h2
      | some y =>
        rw [e1] at h1
        rw [e2] at h2
        cases h1
        cases h2
        have := h.span x y e1 e2
        by_cases e : x = y
        · subst e; exact Rat.le_refl
        · exact Rat.le_of_lt (lt_sc (by grind) hc)
theorem zzo_sc {k j : Nat} {c : Rat} {o : Option Rat} (h : ZzO k o) (g : SzR j c) : ZzO (k + j) (o.map (· * c)) := fun q e => by
  cases o with
  | none => cases e
  | some x => cases e; exact szr_mul (h x rfl) g
theorem SzD.sc {k j : Nat} {c : Rat} {d : LD} (h : SzD k d) (g : SzR j c) : SzD (k + j) (d.sc c) := ⟨fun x hx => by
  obtain ⟨y, hy, rfl⟩ := List.mem_map.mp hx
  exact szr_mul (h.1 y hy) g, zzo_sc h.2.1 g, zzo_sc h.2.2 g⟩
structure LdG (d : LD) : Prop where
  ok : LdOk d
  sz : SzD 140 d
/-- so many parts of 8797236 -/
def WhM (x : Rat) (b : Nat) : Prop := ∃ n : Int, toR (n, 8797236) = x ∧ n.natAbs ≤ b
theorem WhM.mono {x : Rat} {a b : Nat} (h : WhM x a) (l : a ≤ b) : WhM x b := by
  obtain ⟨n, e, g⟩ := h
  exact ⟨n, e, Nat.le_trans g l⟩
theorem WhM.add {x y : Rat} {a b : Nat} (h : WhM x a) (g : WhM y b) : WhM (x + y) (a + b) := by
  obtain ⟨n, rfl, h⟩ := h
  obtain ⟨m, rfl, g⟩ := g
  refine ⟨n + m, ?_, by omega⟩
  unfold toR
  rw [Rat.intCast_add]
  grind
theorem WhM.sz {x : Rat} {b : Nat} (h : WhM x b) (l : b ≤ 1000000000) : SzR 30 x := by
  obtain ⟨n, rfl, h⟩ := h
  exact szr_of (by decide) (by show n.natAbs < 2 ^ 30; omega) (by decide)
theorem WhM.mid {x y : Rat} {a b : Nat} (h : WhM x a) (g : WhM y b) (l : a ≤ 1000000000) (m : b ≤ 1000000000) : SzR 34 ((x + y) / 2) := by
  obtain ⟨n, rfl, h⟩ := h
  obtain ⟨k, rfl, g⟩ := g
  have e : (toR (n, 8797236) + toR (k, 8797236)) / 2 = toR (n + k, 17594472) := by
    unfold toR
    rw [Rat.intCast_add]
    grind
  rw [e]
  exact szr_of (by decide) (by show (n + k).natAbs < 2 ^ 34; omega) (by decide)
theorem WhM.fifth {x : Rat} {a : Nat} {s : Int} (h : WhM x a) (l : a ≤ 1000000000) (hs : s.natAbs ≤ 1) : SzR 34 (x + toR (s, 5)) := by
  obtain ⟨n, rfl, h⟩ := h
  have e : toR (n, 8797236) + toR (s, 5) = toR (5 * n + 8797236 * s, 43986180) := by
    unfold toR
    rw [Rat.intCast_add, Rat.intCast_mul, Rat.intCast_mul]
    grind
  rw [e]
  exact szr_of (by decide) (by show (5 * n + 8797236 * s).natAbs < 2 ^ 34; omega) (by decide)
/-- steps to draw from -/
def PoolV (b : Nat) (H : Hp) (v : V) : Prop := ∃ (a : Addr) (x : Rat), v = .ref a ∧ H a = some (PR x) ∧ WhM x b
def PoolP (b : Nat) (H : Hp) (v : V) : Prop := ∃ (a : Addr) (x : Rat), v = .ref a ∧ H a = some (PR x) ∧ 0 < x ∧ WhM x b
theorem PoolP.nl {b : Nat} {H H' : Hp} {v : V} (h : PoolP b H v) (s : Nl H H') : PoolP b H' v := by
  obtain ⟨a, x, e, e2, r⟩ := h
  exact ⟨a, x, e, s _ _ e2 rfl, r⟩
theorem PoolP.same {b : Nat} {H H' : Hp} {v : V} (h : PoolP b H v) (s : Same H H') : PoolP b H' v := by
  obtain ⟨a, x, e, e2, r⟩ := h
  exact ⟨a, x, e, s _ _ e2, r⟩

theorem PoolV.nl {b : Nat} {H H' : Hp} {v : V} (h : PoolV b H v) (s : Nl H H') : PoolV b H' v := by
  obtain ⟨a, x, e, e2, r⟩ := h
  exact ⟨a, x, e, s _ _ e2 rfl, r⟩
theorem Kp2.non {h g p : Addr} {A B : Hp} {n : Nat} (k : Kp2 h g A B) (pt : PotAt B h g n) (np : B p = none) : A p = none := by
  obtain ⟨n1, n2⟩ := pt.nel np
  cases e : A p with
  | none => rfl
  | some o => rw [k _ _ e n1 n2] at np; cases np
def oD : Option Rat → PyData
  | none => .none
  | some q => .tuple [.int q.num, .int (q.den : Int)]
theorem op_dp {K : PySem.W.Frag} {H : Hp} {v : V} : ∀ {o : Option Rat}, OP H v o → Dp K H v (oD o)
  | none, h => by cases h; exact .non
  | some q, ⟨a, e, h⟩ => by subst e; exact .tup (SqT.of h) (.cons (.int _) (.cons (.int _) .nil))
theorem notin_ends {K : PySem.W.Frag} {H : Hp} {E : Addr} {a b : V} {oa ob : Option Rat} {Q : VK} (hE : H E = some (.lst [a, b])) (h1 : OP H a oa) (h2 : OP H b ob) (q : Q (.bl (oa.isSome && ob.isSome)) H) : rNotInD K .non (.ref E) H Q :=
  ⟨.none, [oD oa, oD ob], .non, .lst (SqL.of hE) (.cons (op_dp h1) (.cons (op_dp h2) .nil)), rfl, by cases oa <;> cases ob <;> rfl, by
    have e : (!([oD oa, oD ob].any fun z => PyData.eqv z .none)) = (oa.isSome && ob.isSome) := by cases oa <;> cases ob <;> simp [oD, PyData.eqv]
    rw [e]
    exact q⟩
theorem mks_nl {C : Addr} {H H' : Hp} {k : Nat} {ps : List V} {zs : List Q2} (m : Mks C H k ps zs) (s : Nl H H') : Mks C H' k ps zs := ⟨m.len, fun i v z e1 e2 => by
  obtain ⟨p, e, q⟩ := m.all i v z e1 e2
  exact ⟨p, e, q.nl s⟩⟩
theorem LadAt.nl {K : PySem.W.Frag} {CM CL p : Addr} {H H' : Hp} {k : Nat} {zs : List Q2} {r : Str} {lo hi : Option Q2} (a : LadAt K CM CL H p k zs r lo hi) (s : Nl H H') : LadAt K CM CL H' p k zs r lo hi := by
  obtain ⟨⟨dx, T, ps, l, u, h1, h2, h3, h4, h5⟩, a1, a2, a3, a4, a5⟩ := a
  refine ⟨⟨dx, T, ps, l, u, s _ _ h1 rfl, ?_, mks_nl h3 s, QO.nl s h4, QO.nl s h5⟩, a1, a2, a3, a4, a5⟩
  rcases h2 with (h2 | ⟨o, h2⟩) | h2
  · exact .inl (.inl (s _ _ h2 rfl))
  · exact .inl (.inr ⟨o, s _ _ h2 rfl⟩)
  · exact .inr h2
theorem ends_gen {tb : TS} {D : Ends} {σ : L2.St} {H : Hp} {I : L2.St → Hp → Prop} (e : D.nx = I) (h : ∀ D' : Ends, D'.nx = I → tb D' σ H) : tb D σ H := h D e
/-! ### what a ladder is drawn from -/
def PoolAt (H : Hp) (P : Addr) : Prop := ∃ ps : List V, H P = some (.lst ps) ∧ ps.length = 8 ∧ ∀ v ∈ ps, PoolP 26391708 H v
theorem PoolAt.ne {H : Hp} {h g P : Addr} {n : Nat} (a : PoolAt H P) (pt : PotAt H h g n) : P ≠ h ∧ P ≠ g := by
  obtain ⟨⟨s, t, e1, _⟩, ⟨gs, e2, _⟩, _⟩ := pt
  obtain ⟨ps, e, l, al⟩ := a
  refine ⟨fun q => ?_, fun q => ?_⟩
  · rw [q, e1] at e
    cases e
    cases l
  · rw [q, e2] at e
    cases e
    cases gs with
    | nil => cases l
    | cons z t =>
      obtain ⟨b, x, e, _⟩ := al (.int z) (by simp)
      cases e
theorem PoolAt.kp {H H' : Hp} {h g P : Addr} {n : Nat} (a : PoolAt H P) (pt : PotAt H h g n) (k : Kp2 h g H H') : PoolAt H' P := by
  have ne := a.ne pt
  obtain ⟨ps, e, l, al⟩ := a
  exact ⟨ps, k _ _ e ne.1 ne.2, l, fun v hv => (al v hv).nl (pt.nl k)⟩
theorem PoolAt.same {H H' : Hp} {P : Addr} (a : PoolAt H P) (s : Same H H') : PoolAt H' P := by
  obtain ⟨ps, e, l, al⟩ := a
  exact ⟨ps, s _ _ e, l, fun v hv => (al v hv).same s⟩
theorem PoolAt.put {H : Hp} {P M : Addr} {u : HO} {vs : List V} (a : PoolAt H P) (e : H M = some (.lst vs)) (n : P ≠ M) : PoolAt (upd H M u) P := by
  obtain ⟨ps, e1, l, al⟩ := a
  exact ⟨ps, by rw [upd_ne n]; exact e1, l, fun v hv => (al v hv).nl (Nl.put e)⟩
def StepAt (H : Hp) (v : V) : Prop := v = .non ∨ PoolP 26391708 H v
theorem StepAt.nl {H H' : Hp} {v : V} (a : StepAt H v) (s : Nl H H') : StepAt H' v := a.imp_right fun q => q.nl s
theorem StepAt.same {H H' : Hp} {v : V} (a : StepAt H v) (s : Same H H') : StepAt H' v := a.imp_right fun q => q.same s
def MkD (H : Hp) (M : Addr) (ms : List Rat) : Prop := ∃ vs : List V, H M = some (.lst vs) ∧ RsV H vs ms ∧ (∀ (i : Nat) (a b : Rat), ms[i]? = some a → ms[i + 1]? = some b → a < b) ∧ ∀ (i : Nat) (x : Rat), ms[i]? = some x → WhM x ((4 + 3 * i) * 8797236)
theorem MkD.same {H H' : Hp} {M : Addr} {ms : List Rat} (a : MkD H M ms) (s : Same H H') : MkD H' M ms := by
  obtain ⟨vs, e, r, b⟩ := a
  exact ⟨vs, s _ _ e, r.same s, b⟩
theorem MkD.kp {H H' : Hp} {h g M : Addr} {n : Nat} {ms : List Rat} (a : MkD H M ms) (l : 0 < ms.length) (pt : PotAt H h g n) (k : Kp2 h g H H') : MkD H' M ms := by
  obtain ⟨vs, e, r, b⟩ := a
  have ne := rsv_ne pt e r l
  exact ⟨vs, k _ _ e ne.1 ne.2, r.nl (pt.nl k), b⟩
theorem MkD.put {H : Hp} {M E : Addr} {u : HO} {vs : List V} {ms : List Rat} (a : MkD H M ms) (e : H E = some (.lst vs)) (n : M ≠ E) : MkD (upd H E u) M ms := by
  obtain ⟨ws, e1, r, b⟩ := a
  exact ⟨ws, by rw [upd_ne n]; exact e1, r.nl (Nl.put e), b⟩
theorem MkD.snoc {H : Hp} {M c : Addr} {vs : List V} {ms : List Rat} {x y : Rat} (e : H M = some (.lst vs)) (r : RsV H vs ms) (ri : ∀ (i : Nat) (a b : Rat), ms[i]? = some a → ms[i + 1]? = some b → a < b) (wh : ∀ (i : Nat) (x : Rat), ms[i]? = some x → WhM x ((4 + 3 * i) * 8797236)) {i : Nat} (li : ms.length = i + 1) (hx : ms[i]? = some x) (y0 : 0 < y) (wy : WhM y 26391708) (hc : H c = some (PR (x + y))) : MkD (upd H M (.lst (vs ++ [.ref c]))) M (ms ++ [x + y]) := by
  have nl : Nl H (upd H M (.lst (vs ++ [.ref c]))) := Nl.put e
  have lv : vs.length = i + 1 := by rw [r.1, li]
  refine ⟨vs ++ [.ref c], upd_same, ⟨by rw [List.length_append, List.length_append, r.1]; rfl, fun j z hz => ?_⟩, fun j a b h1 h2 => ?_, fun j z hz => ?_⟩
  · by_cases hj : j < ms.length
    · rw [List.getElem?_append_left hj] at hz
      obtain ⟨d, e1, e2⟩ := r.2 j z hz
      exact ⟨d, by rw [List.getElem?_append_left (by omega)]; exact e1, nl _ _ e2 rfl⟩
    · have hj2 : j = i + 1 := by
        have := (List.getElem?_eq_some_iff.mp hz).1
        rw [List.length_append, List.length_singleton] at this
        omega
      subst hj2
      rw [List.getElem?_append_right (by omega), li, Nat.sub_self] at hz
      cases hz
      exact ⟨c, by rw [List.getElem?_append_right (by omega), lv, Nat.sub_self]; rfl, nl _ _ hc rfl⟩
  · by_cases hj : j + 1 < ms.length
    · rw [List.getElem?_append_left (by omega)] at h1
      rw [List.getElem?_append_left hj] at h2
      exact ri j a b h1 h2
    · have hj2 : j = i := by
        have := (List.getElem?_eq_some_iff.mp h2).1
        rw [List.length_append, List.length_singleton] at this
        omega
      subst hj2
      rw [List.getElem?_append_left (by omega), hx] at h1
      rw [List.getElem?_append_right (by omega), li, Nat.sub_self] at h2
      cases h1
      cases h2
      grind
  · by_cases hj : j < ms.length
    · rw [List.getElem?_append_left hj] at hz
      exact wh j z hz
    · have hj2 : j = i + 1 := by
        have := (List.getElem?_eq_some_iff.mp hz).1
        rw [List.length_append, List.length_singleton] at this
        omega
      subst hj2
      rw [List.getElem?_append_right (by omega), li, Nat.sub_self] at hz
      cases hz
      exact ((wh i x hx).add wy).mono (by omega)
/-- an end, or none -/
def ElV (H : Hp) (v : V) : Prop := v = .non ∨ ∃ (a : Addr) (x : Rat), v = .ref a ∧ H a = some (PR x) ∧ SzR 34 x
theorem ElV.nl {H H' : Hp} {v : V} (a : ElV H v) (s : Nl H H') : ElV H' v := a.imp_right fun ⟨b, x, e, e2, z⟩ => ⟨b, x, e, s _ _ e2 rfl, z⟩
theorem ElV.op {H : Hp} {v : V} (a : ElV H v) : ∃ o, OP H v o ∧ ZzO 34 o := by
  rcases a with rfl | ⟨b, x, rfl, e, z⟩
  · exact ⟨none, rfl, fun _ e => by cases e⟩
  · exact ⟨some x, ⟨b, rfl, e⟩, fun _ e => by cases e; exact z⟩
end My
/-! ### zip of a tuple and a list -/
namespace My
open PySem PySem.Spec PyProof.Rows L2
end My
namespace My
open PySem PySem.Spec PyProof.Rows L2
/-! ### max(xs, key=f), f a def of one's own that tells a whole number of each -/
section
variable {X : Cx} {n : Nat} {f : Addr} {fd : FuncData} {ps : List Str} {sp : Sp}
end
end My
namespace My
open PySem PySem.Spec PyProof.Rows L2
/-! ### d.update(o), sorted(d): dicts of whole numbers -/
section
variable {prog : Program} {w : World} {A : Around} {E : Value → Shared → Prop} {s : Shared} {K : Type} [DecidableEq K] {knd : KeyKind prog w K} {d : Addr} {kvs : List (K × Value)} {ep : Nat}
end
end My
namespace My
open PySem PySem.Spec PyProof.Rows L2
/-! ### measures at all ends, between and beyond: they meet all that is met -/
/-- an end of a ladder: a mark, a midst of two neighbours, least, most -/
def EndL (d : LD) (e : Rat) : Prop := e ∈ d.ms ∨ (∃ (i : Nat) (x y : Rat), d.ms[i]? = some x ∧ d.ms[i + 1]? = some y ∧ e = (x + y) / 2) ∨ d.lo = some e ∨ d.hi = some e
theorem loCut_ends {o p : Option Rat} {i j : Bool} {e : Rat} (h : (loCut o i p j).1 = some e) : o = some e ∨ p = some e := by
  unfold loCut at h
  cases p with
  | none => exact .inl h
  | some b =>
    cases o with
    | none => exact .inr h
    | some a =>
      by_cases c : b < a
      · simp only [c, if_true] at h
        exact .inl h
      · simp only [c, if_false] at h
        exact .inr h
theorem hiCut_ends {o p : Option Rat} {i j : Bool} {e : Rat} (h : (hiCut o i p j).1 = some e) : o = some e ∨ p = some e := by
  unfold hiCut at h
  cases p with
  | none => exact .inl h
  | some b =>
    cases o with
    | none => exact .inr h
    | some a =>
      by_cases c : a < b
      · simp only [c, if_true] at h
        exact .inl h
      · simp only [c, if_false] at h
        exact .inr h
theorem lw_end {d : LD} {k : Nat} {e : Rat} (h : lwR d.ms k = some e) : EndL d e := by
  cases k with
  | zero => cases h
  | succ k => exact .inl (List.mem_of_getElem? (show d.ms[k]? = some e from h))
theorem md_end {d : LD} {k : Nat} {e : Rat} (h : mdR d.ms k = some e) : EndL d e := by
  cases k with
  | zero => cases h
  | succ k =>
    have h : (match d.ms[k]?, d.ms[k + 1]? with
      | some a, some b => some ((a + b) / 2)
      | _, _ => none) = some e := h
    cases e1 : d.ms[k]? with
    | none => rw [e1] at h; cases h
    | some x =>
      cases e2 : d.ms[k + 1]? with
      | none => rw [e1, e2] at h; cases h
      | some y =>
        rw [e1, e2] at h
        exact .inr (.inl ⟨k, x, y, e1, e2, (Option.some.inj h).symm⟩)
theorem rul_ends {d : LD} {k : Nat} {e : Rat} (h : (rulR d k).1 = some e ∨ (rulR d k).2.2.1 = some e) : EndL d e := by
  unfold rulR at h
  split at h
  · rcases h with h | h
    · exact lw_end h
    · exact .inl (List.mem_of_getElem? h)
  · split at h
    · rcases h with h | h
      · exact .inl (List.mem_of_getElem? h)
      · exact .inl (List.mem_of_getElem? h)
    · rcases h with h | h
      · exact md_end (k := k) h
      · exact md_end (k := k + 1) h
theorem part_ends {d : LD} {k : Nat} {e : Rat} (h : (partL d k).1 = some e ∨ (partL d k).2.2.1 = some e) : EndL d e := by
  rcases h with h | h
  · rcases loCut_ends (show (loCut (rulR d k).1 (rulR d k).2.1 d.lo true).1 = some e from h) with h | h
    · exact rul_ends (.inl h)
    · exact .inr (.inr (.inl h))
  · rcases hiCut_ends (show (hiCut (rulR d k).2.2.1 (rulR d k).2.2.2 d.hi true).1 = some e from h) with h | h
    · exact rul_ends (.inr h)
    · exact .inr (.inr (.inr h))
theorem loB_gap {o : Option Rat} {i : Bool} {u v x y : Rat} (h : ∀ e, o = some e → ¬ (u < e ∧ e < v)) (x1 : u < x) (x2 : x < v) (y1 : u < y) (y2 : y < v) (g : loB o i x = true) : loB o i y = true := by
  cases o with
  | none => rfl
  | some a =>
    have q := h a rfl
    simp only [loB, Bool.or_eq_true, Bool.and_eq_true, decide_eq_true_eq] at *
    grind
theorem hiB_gap {o : Option Rat} {i : Bool} {u v x y : Rat} (h : ∀ e, o = some e → ¬ (u < e ∧ e < v)) (x1 : u < x) (x2 : x < v) (y1 : u < y) (y2 : y < v) (g : hiB o i x = true) : hiB o i y = true := by
  cases o with
  | none => rfl
  | some a =>
    have q := h a rfl
    simp only [hiB, Bool.or_eq_true, Bool.and_eq_true, decide_eq_true_eq] at *
    grind
theorem F_gap1 {d : LD} (ok : LdOk d) {u v x y : Rat} {k : Nat} (h : ∀ e, EndL d e → ¬ (u < e ∧ e < v)) (x1 : u < x) (x2 : x < v) (y1 : u < y) (y2 : y < v) (g : d.F x = some k) : d.F y = some k := by
  have hk := LD.F_lt g
  have hi := Bool.and_eq_true_iff.mp (show (loB _ _ x && hiB _ _ x) = true from (part_in ok hk).mpr g)
  refine (part_in ok hk).mp (show (loB _ _ y && hiB _ _ y) = true from ?_)
  rw [loB_gap (fun e q => h e (part_ends (.inl q))) x1 x2 y1 y2 hi.1, hiB_gap (fun e q => h e (part_ends (.inr q))) x1 x2 y1 y2 hi.2]
  rfl
theorem F_gap {d : LD} (ok : LdOk d) {u v x y : Rat} (h : ∀ e, EndL d e → ¬ (u < e ∧ e < v)) (x1 : u < x) (x2 : x < v) (y1 : u < y) (y2 : y < v) : d.F x = d.F y := by
  cases e : d.F x with
  | some k => exact (F_gap1 ok h x1 x2 y1 y2 e).symm
  | none =>
    cases g : d.F y with
    | none => rfl
    | some k =>
      rw [F_gap1 ok h y1 y2 x1 x2 g] at e
      cases e
/-- the midsts of neighbours -/
def midsR : List Rat → List Rat
  | a :: b :: t => (a + b) / 2 :: midsR (b :: t)
  | _ => []
theorem mids_len : ∀ l : List Rat, (midsR l).length = l.length - 1
  | [] => rfl
  | [_] => rfl
  | a :: b :: t => by
    show (midsR (b :: t)).length + 1 = _
    rw [mids_len (b :: t)]
    simp
theorem mids_get : ∀ {l : List Rat} {i : Nat} {a b : Rat}, l[i]? = some a → l[i + 1]? = some b → (midsR l)[i]? = some ((a + b) / 2)
  | [], i, a, b, h, _ => by simp at h
  | [_], i, a, b, _, h => by simp at h
  | x :: y :: t, 0, a, b, h, g => by
    cases h
    cases g
    rfl
  | x :: y :: t, i + 1, a, b, h, g => mids_get (l := y :: t) (by simpa using h) (by simpa using g)
/-- where a number lies among rising ones -/
theorem lies : ∀ {l : List Rat}, l.Pairwise (· < ·) → ∀ x : Rat, x ∈ l ∨ (∃ (i : Nat) (a b : Rat), l[i]? = some a ∧ l[i + 1]? = some b ∧ a < x ∧ x < b) ∨ (∀ e ∈ l, x < e) ∨ ∀ e ∈ l, e < x
  | [], _, x => .inr (.inr (.inl fun e h => by simp at h))
  | a :: t, h, x => by
    obtain ⟨h1, h2⟩ := List.pairwise_cons.mp h
    by_cases c : x < a
    · refine .inr (.inr (.inl fun e he => ?_))
      rcases List.mem_cons.mp he with rfl | he
      · exact c
      · have := h1 e he
        grind
    by_cases c2 : x = a
    · exact .inl (by rw [c2]; exact List.mem_cons_self)
    have c3 : a < x := by grind
    rcases lies h2 x with q | ⟨i, b, d, e1, e2, r⟩ | q | q
    · exact .inl (List.mem_cons_of_mem _ q)
    · exact .inr (.inl ⟨i + 1, b, d, by simpa using e1, by simpa using e2, r⟩)
    · cases t with
      | nil => exact .inr (.inr (.inr fun e he => by
          cases List.mem_singleton.mp he
          exact c3))
      | cons b t => exact .inr (.inl ⟨0, a, b, rfl, rfl, c3, q b List.mem_cons_self⟩)
    · refine .inr (.inr (.inr fun e he => ?_))
      rcases List.mem_cons.mp he with rfl | he
      · exact c3
      · exact q e he
/-- ends, between, beyond -/
def triedR (E : List Rat) (a b : Rat) : List Rat := E ++ midsR E ++ [a + -1, b + 1]
theorem pw_get {l : List Rat} (h : l.Pairwise (· < ·)) {i j : Nat} {a b : Rat} (e1 : l[i]? = some a) (e2 : l[j]? = some b) (ij : i < j) : a < b := by
  obtain ⟨h1, rfl⟩ := List.getElem?_eq_some_iff.mp e1
  obtain ⟨h2, rfl⟩ := List.getElem?_eq_some_iff.mp e2
  exact List.pairwise_iff_getElem.mp h i j h1 h2 ij
theorem tried_ok {E : List Rat} {a b : Rat} (pw : E.Pairwise (· < ·)) (ha : E[0]? = some a) (hb : E[E.length - 1]? = some b) (x : Rat) : ∃ p, p ∈ triedR E a b ∧ ∀ d : LD, LdOk d → (∀ e, EndL d e → e ∈ E) → d.F p = d.F x := by
  rcases lies pw x with q | ⟨i, c, d', e1, e2, x1, x2⟩ | q | q
  · exact ⟨x, List.mem_append_left _ (List.mem_append_left _ q), fun _ _ _ => rfl⟩
  · refine ⟨(c + d') / 2, List.mem_append_left _ (List.mem_append_right _ (List.mem_of_getElem? (mids_get e1 e2))), fun d ok al => F_gap ok (u := c) (v := d') (fun e he ⟨g1, g2⟩ => ?_) (by grind) (by grind) x1 x2⟩
    obtain ⟨j, hj⟩ := List.mem_iff_getElem?.mp (al e he)
    by_cases l1 : j ≤ i
    · by_cases l2 : j = i
      · subst l2
        rw [e1] at hj
        cases hj
        grind
      · have := pw_get pw hj e1 (by omega)
        grind
    · by_cases l2 : j = i + 1
      · subst l2
        rw [e2] at hj
        cases hj
        grind
      · have := pw_get pw e2 hj (by omega)
        grind
  · have qa := q a (List.mem_of_getElem? ha)
    have lo : ∀ e ∈ E, a ≤ e := fun e he => by
      obtain ⟨j, hj⟩ := List.mem_iff_getElem?.mp he
      by_cases l2 : j = 0
      · subst l2
        rw [ha] at hj
        cases hj
        grind
      · have := pw_get pw ha hj (by omega)
        grind
    obtain ⟨u, u1, u2⟩ : ∃ u : Rat, u < x ∧ u < a + -1 := by
      by_cases c : x < a + -1
      · exact ⟨x - 1, by grind, by grind⟩
      · exact ⟨a - 2, by grind, by grind⟩
    refine ⟨a + -1, List.mem_append_right _ (by simp), fun d ok al => F_gap ok (u := u) (v := a) (fun e he ⟨_, g2⟩ => ?_) u2 (by grind) u1 qa⟩
    have := lo e (al e he)
    grind
  · have qb := q b (List.mem_of_getElem? hb)
    have hi : ∀ e ∈ E, e ≤ b := fun e he => by
      obtain ⟨j, hj⟩ := List.mem_iff_getElem?.mp he
      have lj := (List.getElem?_eq_some_iff.mp hj).1
      by_cases l2 : j = E.length - 1
      · subst l2
        rw [hb] at hj
        cases hj
        grind
      · have := pw_get pw hj hb (by omega)
        grind
    obtain ⟨v, v1, v2⟩ : ∃ v : Rat, x < v ∧ b + 1 < v := by
      by_cases c : x < b + 1
      · exact ⟨b + 2, by grind, by grind⟩
      · exact ⟨x + 1, by grind, by grind⟩
    refine ⟨b + 1, List.mem_append_right _ (by simp), fun d ok al => F_gap ok (u := b) (v := v) (fun e he ⟨g1, _⟩ => ?_) (by grind) v2 qb v1⟩
    have := hi e (al e he)
    grind
/-! ### put in one by one, rising -/
def cntR (ss : List Rat) (q : Rat) : Nat := (ss.filter fun s => decide (s < q)).length
def insR (ss : List Rat) (q : Rat) : List Rat := ss.take (cntR ss q) ++ [q] ++ ss.drop (cntR ss q)
theorem insR_mem (ss : List Rat) (q x : Rat) : x ∈ insR ss q ↔ x ∈ ss ∨ x = q := by
  unfold insR
  rw [List.mem_append, List.mem_append, List.mem_singleton]
  have h : x ∈ ss ↔ x ∈ ss.take (cntR ss q) ∨ x ∈ ss.drop (cntR ss q) := by
    rw [← List.mem_append, List.take_append_drop]
  rw [h]
  constructor
  · rintro ((h | h) | h)
    · exact .inl (.inl h)
    · exact .inr h
    · exact .inl (.inr h)
  · rintro ((h | h) | h)
    · exact .inl (.inl h)
    · exact .inr h
    · exact .inl (.inr h)
theorem insR_pw : ∀ {ss : List Rat} {q : Rat}, ss.Pairwise (· < ·) → q ∉ ss → (insR ss q).Pairwise (· < ·)
  | [], q, _, _ => by
    show [q].Pairwise (· < ·)
    exact List.pairwise_singleton _ _
  | a :: t, q, h, n => by
    obtain ⟨h1, h2⟩ := List.pairwise_cons.mp h
    have nq : ¬ q = a := fun e => n (by rw [e]; exact List.mem_cons_self)
    have nt : q ∉ t := fun e => n (List.mem_cons_of_mem _ e)
    by_cases c : a < q
    · have e : insR (a :: t) q = a :: insR t q := by
        have ec : cntR (a :: t) q = cntR t q + 1 := by
          unfold cntR
          rw [List.filter_cons_of_pos (by exact decide_eq_true c)]
          rfl
        unfold insR
        rw [ec]
        rfl
      rw [e]
      refine List.pairwise_cons.mpr ⟨fun x hx => ?_, insR_pw h2 nt⟩
      rcases (insR_mem t q x).mp hx with hx | rfl
      · exact h1 x hx
      · exact c
    · have qa : q < a := by grind
      have e0 : cntR (a :: t) q = 0 := by
        unfold cntR
        rw [List.length_eq_zero_iff, List.filter_eq_nil_iff]
        intro x hx
        rw [decide_eq_true_eq]
        rcases List.mem_cons.mp hx with rfl | hx
        · exact c
        · have := h1 x hx
          grind
      have e : insR (a :: t) q = q :: a :: t := by
        unfold insR
        rw [e0]
        rfl
      rw [e]
      refine List.pairwise_cons.mpr ⟨fun x hx => ?_, h⟩
      rcases List.mem_cons.mp hx with rfl | hx
      · exact qa
      · have := h1 x hx
        grind
theorem cntR_le (ss : List Rat) (q : Rat) : cntR ss q ≤ ss.length := List.length_filter_le _ _
def optR (q : Rat) : List V → List Rat → List (Option V)
  | w :: ws, s :: ss => (if s < q then some w else none) :: optR q ws ss
  | _, _ => []
theorem optR_len {q : Rat} : ∀ {ws : List V} {ss : List Rat}, ws.length = ss.length → (optR q ws ss).length = ws.length
  | [], [], _ => rfl
  | [], _ :: _, h => by simp at h
  | _ :: _, [], h => by simp at h
  | w :: ws, s :: ss, h => by
    show (optR q ws ss).length + 1 = _
    rw [optR_len (by simpa using h)]
    rfl
theorem optR_get {q s : Rat} {w : V} : ∀ {ws : List V} {ss : List Rat} {i : Nat}, ws[i]? = some w → ss[i]? = some s → (optR q ws ss)[i]? = some (if s < q then some w else none)
  | [], _, i, h, _ => by simp at h
  | _ :: _, [], i, _, h => by simp at h
  | w0 :: ws, s0 :: ss, 0, h, g => by
    cases h
    cases g
    rfl
  | w0 :: ws, s0 :: ss, i + 1, h, g => optR_get (ws := ws) (ss := ss) (by simpa using h) (by simpa using g)
theorem optR_cnt {q : Rat} : ∀ {ws : List V} {ss : List Rat}, ws.length = ss.length → ((optR q ws ss).filterMap id).length = cntR ss q
  | [], [], _ => rfl
  | [], _ :: _, h => by simp at h
  | _ :: _, [], h => by simp at h
  | w :: ws, s :: ss, h => by
    have ih := optR_cnt (q := q) (ws := ws) (ss := ss) (by simpa using h)
    show (((if s < q then some w else none) :: optR q ws ss).filterMap id).length = _
    unfold cntR at ih ⊢
    by_cases c : s < q
    · rw [if_pos c, List.filter_cons_of_pos (by exact decide_eq_true c)]
      show (((optR q ws ss).filterMap id).length + 1) = _
      rw [ih]
      rfl
    · rw [if_neg c, List.filter_cons_of_neg (by rw [decide_eq_true_eq]; exact c)]
      exact ih
theorem RsV.app {H : Hp} {vs ws : List V} {ms ns : List Rat} (a : RsV H vs ms) (b : RsV H ws ns) : RsV H (vs ++ ws) (ms ++ ns) := by
  refine ⟨by rw [List.length_append, List.length_append, a.1, b.1], fun i x e => ?_⟩
  by_cases hi : i < ms.length
  · rw [List.getElem?_append_left hi] at e
    obtain ⟨p, e1, e2⟩ := a.2 i x e
    exact ⟨p, by rw [List.getElem?_append_left (by rw [a.1]; exact hi)]; exact e1, e2⟩
  · rw [List.getElem?_append_right (by omega)] at e
    obtain ⟨p, e1, e2⟩ := b.2 _ x e
    exact ⟨p, by rw [List.getElem?_append_right (by rw [a.1]; omega), a.1]; exact e1, e2⟩
theorem RsV.take {H : Hp} {vs : List V} {ms : List Rat} (a : RsV H vs ms) (n : Nat) : RsV H (vs.take n) (ms.take n) := by
  refine ⟨by rw [List.length_take, List.length_take, a.1], fun i x e => ?_⟩
  rw [List.getElem?_take] at e
  split at e
  · obtain ⟨p, e1, e2⟩ := a.2 i x e
    exact ⟨p, by rw [List.getElem?_take, if_pos (by assumption)]; exact e1, e2⟩
  · cases e
theorem RsV.drop {H : Hp} {vs : List V} {ms : List Rat} (a : RsV H vs ms) (n : Nat) : RsV H (vs.drop n) (ms.drop n) := by
  refine ⟨by rw [List.length_drop, List.length_drop, a.1], fun i x e => ?_⟩
  rw [List.getElem?_drop] at e
  obtain ⟨p, e1, e2⟩ := a.2 _ x e
  exact ⟨p, by rw [List.getElem?_drop]; exact e1, e2⟩
theorem RsV.one {H : Hp} {a : Addr} {q : Rat} (h : H a = some (PR q)) : RsV H [.ref a] [q] := ⟨rfl, fun i x e => by
  cases i with
  | zero => cases e; exact ⟨a, rfl, h⟩
  | succ i => simp at e⟩
theorem RsV.none {H : Hp} : RsV H [] [] := ⟨rfl, fun i x e => by simp at e⟩
theorem RsV.insr {H : Hp} {vs : List V} {ms : List Rat} {a : Addr} {q : Rat} (r : RsV H vs ms) (h : H a = some (PR q)) : RsV H (vs.take (cntR ms q) ++ [.ref a] ++ vs.drop (cntR ms q)) (insR ms q) := ((r.take _).app (RsV.one h)).app (r.drop _)
theorem RsV.dp {K : PySem.W.Frag} {H : Hp} {D : Addr} {vs : List V} {ms : List Rat} (hD : H D = some (.lst vs)) (r : RsV H vs ms) : Dp K H (.ref D) (.list (ms.map fun q => intsD [q.num, (q.den : Int)])) := by
  refine .lst (SqL.of hD) (dpAll_of (fun q : Rat => intsD [q.num, (q.den : Int)]) r.1 fun i v q e1 e2 => ?_)
  obtain ⟨a, g1, g2⟩ := r.2 i q e2
  rw [e1] at g1
  cases g1
  exact dpT (zs := [q.num, (q.den : Int)]) g2
theorem any_rats (ms : List Rat) (q : Rat) : ((ms.map fun q => intsD [q.num, (q.den : Int)]).any fun z => PyData.eqv z (intsD [q.num, (q.den : Int)])) = decide (q ∈ ms) := by
  rw [Bool.eq_iff_iff, List.any_eq_true, decide_eq_true_eq]
  constructor
  · rintro ⟨z, hz, e⟩
    obtain ⟨x, hx, rfl⟩ := List.mem_map.mp hz
    rw [eqv_intsD, decide_eq_true_eq] at e
    injection e with e1 e2
    injection e2 with e3 _
    rw [PR.inj e1.symm e3.symm]
    exact hx
  · intro h
    exact ⟨_, List.mem_map.mpr ⟨q, h, rfl⟩, by rw [eqv_intsD]; exact decide_eq_true rfl⟩
/-- the ends of a ladder, as the law gathers them -/
def endsR (d : LD) : List Rat := d.ms ++ midsR d.ms ++ (d.lo.toList ++ d.hi.toList)
theorem ends_all {d : LD} {e : Rat} (h : EndL d e) : e ∈ endsR d := by
  unfold endsR
  rcases h with h | ⟨i, x, y, h1, h2, rfl⟩ | h | h
  · exact List.mem_append_left _ (List.mem_append_left _ h)
  · exact List.mem_append_left _ (List.mem_append_right _ (List.mem_of_getElem? (mids_get h1 h2)))
  · exact List.mem_append_right _ (List.mem_append_left _ (by rw [h]; simp))
  · exact List.mem_append_right _ (List.mem_append_right _ (by rw [h]; simp))
end My
namespace My
open PySem PySem.Spec PyProof.Rows L2
/-! ### d[k] = v, sorted(xs) with K by name -/
theorem setDictK {X : Cx} (hu : X.A.units + 64 < cLine) : PSet X rSetD := set_dict (Nat.lt_of_le_of_lt (Nat.add_le_add_left (by decide) _) hu)
theorem sortedIK {X : Cx} {K : PySem.W.Frag} (h : X.K = K := by rfl) : CallR X (.builtin "sorted") (rSorted K) := by
  subst h
  exact cr_sorted
end My
namespace K29
open PySem PySem.Spec PyProof.Rows L2 My
local macro_rules | `(tactic| walk_at "c") => `(tactic| first | exact Eq.refl _ | ((with_reducible show (_ : Int) ≤ _); omega) | ((with_reducible show (_ : Int) < _); omega) | ((with_reducible show (_ : Nat) ≤ _); omega) | ((with_reducible show (_ : Nat) < _); omega) | assumption | with_reducible exact lf_marks _ _ _ _ | with_reducible exact lf_rule _ _ _ _ | with_reducible exact lf_least _ _ _ _ | with_reducible exact lf_most _ _ _ _ | with_reducible exact mf_top _ _ | with_reducible exact mf_bottom _ _ | with_reducible exact sf_low _ _ _ _ | with_reducible exact sf_high _ _ _ _ | with_reducible exact sf_low_in _ _ _ _ | with_reducible exact sf_high_in _ _ _ _ | exact SqL.of (by assumption) | exact SqT.of (by assumption) | exact Or.inl (SqL.of (by assumption)) | exact Or.inr (SqT.of (by assumption)) | exact Or.inr (by assumption) | exact Or.inl (by assumption) | omega | exact atI_nat (by assumption) | exact atI_of (n := 0) rfl (by assumption) | exact logS (by omega) | exact Or.inl (Or.inl ⟨by omega, by omega⟩) | exact Or.inl (Or.inr ⟨by omega, by omega⟩) | exact szb rfl | exact szs (by omega) | exact szl (by omega) | exact Or.inl ⟨Eq.refl _, _, SqL.of (by assumption)⟩ | exact ⟨_, SqT.of (by assumption)⟩ | exact ⟨_, SqL.of (by assumption)⟩ | exact ⟨by omega, by omega, by omega, by omega⟩)
local macro_rules | `(tactic| walk_at "e") => `(tactic| first | rfl | exact ⟨rfl, rfl⟩ | exact ⟨rfl, rfl, rfl⟩ | assumption | exact trivial)
local macro_rules | `(tactic| walk_at "w1") => `(tactic| first
  | refine q_belowT (by assumption) (by assumption) (by omega) (by omega) ?_ | refine q_belowA (by assumption) (by assumption) (by omega) (by omega) ?_ | refine q_subT (by assumption) (by assumption) (by omega) (by omega) (by omega) ?_
  | refine meth_q (by assumption) (by decide +kernel) (by decide +kernel) ?_ | refine meth_l (by assumption) (by decide +kernel) (by decide +kernel) (by decide +kernel) (by decide +kernel) ?_ | refine meth_s (by assumption) (by decide +kernel) (by decide +kernel) (by decide +kernel) (by decide +kernel) ?_
  | apply @Exists.intro V | apply @Exists.intro Int | apply @Exists.intro Addr | apply @Exists.intro Bool | apply @Exists.intro (List V) | apply @Exists.intro Str | apply @Exists.intro Nat | apply @Exists.intro (List (Str × V))
  | refine And.intro (by walk_at "c") ?_ | refine iteT ?_ | refine iteF ?_ | refine iteDT (by omega) ?_ | refine iteDF (by omega) ?_ | refine iteNS (by omega) ?_ | refine iteNT (by omega) ?_)
local macro_rules | `(tactic| walk_at "w") => `(tactic| repeat (walk_at "w1"))
local macro_rules | `(tactic| walk_at "wa1") => `(tactic| first | refine q_addT (by assumption) (by assumption) (by omega) (by omega) (by omega) ?_ | refine q_mulT (by assumption) (by assumption) (by omega) (by omega) (by omega) ?_ | walk_at "w1")
local macro_rules | `(tactic| walk_at "wa") => `(tactic| repeat (walk_at "wa1"))
local macro_rules | `(tactic| walk_at "hand") => `(tactic| first | assumption | exact HandAt.up (by walk_at "hand") (by assumption))
local macro_rules | `(tactic| walk_at "hp") => `(tactic| first | assumption | exact upd_same | exact up1 (by assumption) (by walk_at "hp") | exact Kp.get (by assumption) (by walk_at "hand") (by walk_at "hp") (by rfl) | exact L2.Same.get (by assumption) (by walk_at "hp") | exact up2 (by assumption) (by walk_at "hp") (by rfl))
local macro_rules | `(tactic| walk_at "fc") => `(tactic| first | (with_reducible apply eq_id; apply Eq.refl) | (with_reducible apply ile_id; omega) | (with_reducible apply ilt_id; omega) | (with_reducible apply nle_id; omega) | (with_reducible apply nlt_id; omega) | assumption | (apply Eq.refl; done) | with_reducible exact lf_marks _ _ _ _ | with_reducible exact lf_rule _ _ _ _ | with_reducible exact lf_least _ _ _ _ | with_reducible exact lf_most _ _ _ _ | with_reducible exact mf_top _ _ | with_reducible exact mf_bottom _ _ | with_reducible exact sf_low _ _ _ _ | with_reducible exact sf_high _ _ _ _ | with_reducible exact sf_low_in _ _ _ _ | with_reducible exact sf_high_in _ _ _ _ | exact SqL.of (by assumption) | exact SqT.of (by assumption) | exact Or.inl (SqL.of (by assumption)) | exact Or.inr (SqT.of (by assumption)) | exact Or.inr (by assumption) | exact Or.inl (by assumption) | omega | exact atI_nat (by assumption) | exact atI_of (n := 0) rfl (by assumption) | exact logS (by omega) | exact Or.inl (Or.inl ⟨by omega, by omega⟩) | exact Or.inl (Or.inr ⟨by omega, by omega⟩) | exact szb rfl | exact szs (by omega) | exact szl (by omega) | exact Or.inl ⟨Eq.refl _, _, SqL.of (by assumption)⟩ | exact ⟨_, SqT.of (by assumption)⟩ | exact ⟨_, SqL.of (by assumption)⟩ | exact ⟨by omega, by omega, by omega, by omega⟩)
local macro_rules | `(tactic| walk_at "f1") => `(tactic| first
  | refine q_belowT (by assumption) (by assumption) (by omega) (by omega) ?_ | refine q_belowA (by assumption) (by assumption) (by omega) (by omega) ?_ | refine q_subT (by assumption) (by assumption) (by omega) (by omega) (by omega) ?_
  | refine meth_q (by assumption) (by decide +kernel) (by decide +kernel) ?_ | refine meth_l (by assumption) (by decide +kernel) (by decide +kernel) (by decide +kernel) (by decide +kernel) ?_ | refine meth_s (by assumption) (by decide +kernel) (by decide +kernel) (by decide +kernel) (by decide +kernel) ?_
  | apply @Exists.intro V | apply @Exists.intro Int | apply @Exists.intro Addr | apply @Exists.intro Bool | apply @Exists.intro (List V) | apply @Exists.intro Str | apply @Exists.intro Nat | apply @Exists.intro (List (Str × V))
  | (apply And.intro; (focus (walk_at "fc"))) | (with_reducible apply iteT) | (with_reducible apply iteF) | refine iteDT (by omega) ?_ | refine iteDF (by omega) ?_ | refine iteNS (by omega) ?_ | refine iteNT (by omega) ?_)
local macro_rules | `(tactic| walk_at "f") => `(tactic| repeat (walk_at "f1"))


def sp_shby (CM CS : Addr) : Sp := fun vs H Q _ => ∃ (v w : V) (k : Nat) (zs zt : List Q2) (r rt : Str) (lo hi lt ht : Option Q2) (a b : Nat), vs = [v, w] ∧ RunV CM CS H v zs r lo hi a ∧ RunV CM CS H w zt rt lt ht b ∧ LadQ zs r lo hi ∧ LadQ zt rt lt ht ∧ a < zs.length ∧ b < zt.length ∧ SzE k (sizE zs r lo hi a).1.1 ∧ SzE k (sizE zs r lo hi a).2.1 ∧ SzE k (sizE zt rt lt ht b).1.1 ∧ SzE k (sizE zt rt lt ht b).2.1 ∧ 0 < k ∧ k ≤ 2000 ∧
  ∀ (u : V) (H' : Hp), Same H H' → MetV CM H' (k + k + 12) u (sizF zs r lo hi) (sizF zt rt lt ht) a b → Q u H'
theorem raw_sze {CM : Addr} {H : Hp} {v : V} {m e : Option Q2} {k : Nat} (a : MsV CM H v m) (l : LowO m) (r : ReO m e) (s : SzE k e) : SzE k m := by
  have q := qo_of a l r s
  cases m with
  | none => trivial
  | some m =>
    cases e with
    | none => exact r.elim
    | some e =>
      obtain ⟨p, rfl, ma⟩ := a
      obtain ⟨p', ep, qq⟩ := q
      cases ep
      obtain ⟨t, u, mt, fr⟩ := id qq.ob
      obtain ⟨e1, e2⟩ := ma.uniq mt
      have h1 := qq.s1.le fr.lt
      have h2 := qq.s2.le fr.lu
      rw [← e1] at h1
      rw [← e2] at h2
      exact ⟨h1, h2⟩
theorem none_met {zs : List Q2} {r : Str} {lo hi : Option Q2} {a : Nat} (L : LadQ zs r lo hi) (ha : a < zs.length) (h : sizB zs r lo hi a = false) {x : Rat} (f : sizF zs r lo hi x = some a) : False := by
  have := (siz_some (n := a) L).mpr ⟨ofR x, ofR_pos x, (siz_in L (ofR_pos x) ha).mpr f⟩
  rw [h] at this
  cases this
def sp_common27 (K : PySem.W.Frag) (CM CL : Addr) : Sp := fun vs H Q _ => ∃ (p q : Addr) (k : Nat) (zs zt : List Q2) (r rt : Str) (lo hi lt ht : Option Q2) (a : Nat), vs = [.ref p, .int a, .ref q] ∧ LadAt K CM CL H p k zs r lo hi ∧ LadAt K CM CL H q k zt rt lt ht ∧ a < zs.length ∧ 0 < k ∧ k ≤ 900 ∧
  ∀ (D : Addr) (us : List V) (H' : Hp), Same H H' → H' D = some (.lst us) → us.length = zt.length → (∀ (b : Nat) (u : V), us[b]? = some u → MetV CM H' (4 * k + 36) u (sizF zs r lo hi) (sizF zt rt lt ht) a b) → Q (.ref D) H'

theorem idx_first {n : Nat} {c : Nat → Bool} (ne : idx n c ≠ []) : ∃ i : Nat, (idx n c)[0]? = some (i : Int) ∧ i < n ∧ c i = true ∧ ∀ j, j < n → c j = true → i ≤ j := by
  have l0 := List.length_pos_iff.mpr ne
  have h0 : (idx n c)[0]? = some (idx n c)[0] := List.getElem?_eq_getElem l0
  obtain ⟨i, hi, ci, e⟩ := idx_mem.mp (List.mem_of_getElem? h0)
  refine ⟨i, by rw [h0, e], hi, ci, fun j hj cj => ?_⟩
  obtain ⟨q, hq, eq⟩ := List.mem_iff_getElem.mp (idx_mem.mpr ⟨j, hj, cj, rfl⟩)
  by_cases z : q = 0
  · subst z
    omega
  · have := List.pairwise_iff_getElem.mp (idx_sorted (n := n) (c := c)) 0 q l0 hq (by omega)
    omega
theorem idx_last {n : Nat} {c : Nat → Bool} (ne : idx n c ≠ []) : ∃ i : Nat, (idx n c)[(idx n c).length - 1]? = some (i : Int) ∧ i < n ∧ c i = true ∧ ∀ j, j < n → c j = true → j ≤ i := by
  have l0 := List.length_pos_iff.mpr ne
  have l1 : (idx n c).length - 1 < (idx n c).length := by omega
  have h0 : (idx n c)[(idx n c).length - 1]? = some (idx n c)[(idx n c).length - 1] := List.getElem?_eq_getElem l1
  obtain ⟨i, hi, ci, e⟩ := idx_mem.mp (List.mem_of_getElem? h0)
  refine ⟨i, by rw [h0, e], hi, ci, fun j hj cj => ?_⟩
  obtain ⟨q, hq, eq⟩ := List.mem_iff_getElem.mp (idx_mem.mpr ⟨j, hj, cj, rfl⟩)
  by_cases z : q = (idx n c).length - 1
  · subst z
    omega
  · have := List.pairwise_iff_getElem.mp (idx_sorted (n := n) (c := c)) q _ hq l1 (by omega)
    omega
/-- what led answers -/
def LedV (H : Hp) (v : V) : Option (Nat × Nat) → Prop
  | none => v = .non
  | some (c, d) => ∃ T : Addr, v = .ref T ∧ H T = some (.tup [.int c, .int d])
def metC (us : List V) (i : Nat) : Bool := match us[i]? with | some u => !decide (u = V.non) | none => false
theorem metC_at {us : List V} {i : Nat} {u : V} (h : us[i]? = some u) : metC us i = !decide (u = V.non) := by unfold metC; rw [h]
def sp_led (K : PySem.W.Frag) (CM CL : Addr) : Sp := fun vs H Q _ => ∃ (p q : Addr) (k : Nat) (zs zt : List Q2) (r rt : Str) (lo hi lt ht : Option Q2) (a : Nat), vs = [.ref p, .int a, .ref q] ∧ LadAt K CM CL H p k zs r lo hi ∧ LadAt K CM CL H q k zt rt lt ht ∧ a < zs.length ∧ 0 < k ∧ k ≤ 900 ∧
  ∀ (v : V) (u : Option (Nat × Nat)) (H' : Hp), Same H H' → LedV H' v u → LedS (sizF zs r lo hi) (sizF zt rt lt ht) a zt.length u → Q v H'
theorem met_non {CM : Addr} {H : Hp} {k : Nat} {v : V} {F G : Rat → Option Nat} {a b : Nat} (m : MetV CM H k v F G a b) : (!decide (v = V.non)) = true ↔ ∃ x, F x = some a ∧ G x = some b := by
  rcases m with ⟨r, z, rfl, q, f, g⟩ | ⟨rfl, no⟩
  · exact ⟨fun _ => ⟨_, f, g⟩, fun _ => rfl⟩
  · constructor
    · intro h
      rw [decide_eq_true rfl] at h
      cases h
    · rintro ⟨x, f, g⟩
      exact (no x f g).elim

def sp_ledpap (K : PySem.W.Frag) (CM CL : Addr) : Sp := fun vs H Q _ => ∃ (p q : Addr) (k : Nat) (zs zt : List Q2) (r rt : Str) (lo hi lt ht : Option Q2) (a : Nat), vs = [.ref p, .int a, .ref q] ∧ LadAt K CM CL H p k zs r lo hi ∧ LadAt K CM CL H q k zt rt lt ht ∧ a < zs.length ∧ 0 < k ∧ k ≤ 900 ∧
  ∀ (T : Addr) (ys : List V) (bs : List Nat) (H' : Hp), Same H H' → H' T = some (.tup ys) → ys.length ≤ 24 → PapS CM H' (4 * k + 36) ys bs (sizF zs r lo hi) (sizF zt rt lt ht) a 0 zt.length → Q (.ref T) H'
theorem nn_fm : ∀ l : List V, (l.map fun v => if (!decide (v = V.non)) = true then some v else none).filterMap _root_.id = l.filter fun v => !decide (v = V.non)
  | [] => rfl
  | x :: t => by
    rw [List.map_cons, List.filter_cons]
    cases e : (!decide (x = V.non)) with
    | true => simpa [e] using nn_fm t
    | false => simpa [e] using nn_fm t
theorem PapS.same {CM : Addr} {H H' : Hp} {k : Nat} {ys : List V} {bs : List Nat} {F G : Rat → Option Nat} {a off n : Nat} (p : PapS CM H k ys bs F G a off n) (s : Same H H') : PapS CM H' k ys bs F G a off n := ⟨p.len, p.rise, p.mem, fun i y b h1 h2 => by
  obtain ⟨r, z, e, q, f⟩ := p.all i y b h1 h2
  exact ⟨r, z, e, q.same s, f⟩⟩

def sp_comes (K : PySem.W.Frag) (CM CL : Addr) : Sp := fun vs H Q _ => ∃ (q t : Addr) (k : Nat) (zs : List Q2) (r : Str) (lo hi : Option Q2) (z : Q2) (n : Nat), vs = [.ref q, .ref t, .int n] ∧ LadAt K CM CL H q k zs r lo hi ∧ QAt CM H t k z ∧ 0 < k ∧ k ≤ 1000 ∧ sizF zs r lo hi (toR z) = some n ∧ ∀ H', Same H H' → Q (.bl true) H'
theorem run_list : ∀ {n c : Nat} {bs : List Nat}, bs.Pairwise (· < ·) → (∀ b, b ∈ bs ↔ c ≤ b ∧ b < c + n) → bs.length = n ∧ ∀ i b, bs[i]? = some b → b = c + i
  | 0, c, bs, _, h => by
    cases bs with
    | nil => exact ⟨rfl, fun i b e => by simp at e⟩
    | cons x t =>
      have := (h x).mp (List.mem_cons_self ..)
      omega
  | n + 1, c, bs, p, h => by
    cases bs with
    | nil =>
      have := (h c).mpr ⟨Nat.le_refl _, by omega⟩
      cases this
    | cons x t =>
      obtain ⟨p1, p2⟩ := List.pairwise_cons.mp p
      have hx := (h x).mp (List.mem_cons_self ..)
      have e : x = c := by
        rcases List.mem_cons.mp ((h c).mpr ⟨Nat.le_refl _, by omega⟩) with e | e
        · exact e.symm
        · have := p1 c e
          omega
      subst e
      obtain ⟨l, g⟩ := run_list (n := n) (c := x + 1) (bs := t) p2 fun b => by
        constructor
        · intro hb
          have h1 := (h b).mp (List.mem_cons_of_mem _ hb)
          have h2 := p1 b hb
          omega
        · intro hb
          rcases List.mem_cons.mp ((h b).mpr ⟨by omega, by omega⟩) with e | e
          · omega
          · exact e
      refine ⟨by rw [List.length_cons, l], fun i b e => ?_⟩
      cases i with
      | zero => cases e; rfl
      | succ i =>
        have := g i b (by simpa using e)
        omega
/-- paper and run belong together -/
theorem pap_run {CM : Addr} {H : Hp} {k : Nat} {ys : List V} {bs : List Nat} {zs zt : List Q2} {r rt : Str} {lo hi lt ht : Option Q2} {a c d : Nat} (L : LadQ zs r lo hi) (M : LadQ zt rt lt ht) (P : PapS CM H k ys bs (sizF zs r lo hi) (sizF zt rt lt ht) a 0 zt.length) (l : LedS (sizF zs r lo hi) (sizF zt rt lt ht) a zt.length (some (c, d))) :
    ys.length = d - c + 1 ∧ ∀ i y, ys[i]? = some y → ∃ (t : Addr) (z : Q2), y = .ref t ∧ QAt CM H t k z ∧ sizF zs r lo hi (toR z) = some a ∧ sizF zt rt lt ht (toR z) = some (c + i) := by
  obtain ⟨h1, h2, h3, ⟨x, f1, g1⟩, ⟨y, f2, g2⟩, h4⟩ := l
  obtain ⟨e1, e2⟩ := run_list (n := d - c + 1) (c := c) P.rise fun b => by
    rw [P.mem b]
    constructor
    · rintro ⟨_, _, z, f, g⟩
      have := h4 b z f g
      omega
    · rintro ⟨l1, l2⟩
      exact ⟨by omega, by omega, met_conv L M f1 g1 f2 g2 l1 (by omega)⟩
  refine ⟨by rw [P.len, e1], fun i y hy => ?_⟩
  have li := (List.getElem?_eq_some_iff.mp hy).1
  have lb : i < bs.length := by have := P.len; omega
  have hb : bs[i]? = some bs[i] := List.getElem?_eq_getElem lb
  obtain ⟨t, z, e, q, f, g⟩ := P.all i y _ hy hb
  rw [e2 i _ hb] at g
  exact ⟨t, z, e, q, f, g⟩
theorem pap_none {CM : Addr} {H : Hp} {k : Nat} {ys : List V} {bs : List Nat} {F G : Rat → Option Nat} {a n : Nat} (P : PapS CM H k ys bs F G a 0 n) (l : LedS F G a n none) : ys = [] := by
  have : bs = [] := by
    cases bs with
    | nil => rfl
    | cons b t =>
      obtain ⟨_, h, x, f, g⟩ := (P.mem b).mp (List.mem_cons_self ..)
      exact (l b (by omega) x f g).elim
  have e := P.len
  rw [this] at e
  exact List.length_eq_zero_iff.mp e
def sp_ispap (K : PySem.W.Frag) (CM CL : Addr) : Sp := fun vs H Q _ => ∃ (p q T S : Addr) (k : Nat) (zs zt : List Q2) (r rt : Str) (lo hi lt ht : Option Q2) (a c d : Nat) (ys : List V), vs = [.ref p, .int a, .ref q, .ref T, .ref S] ∧ LadAt K CM CL H p k zs r lo hi ∧ LadAt K CM CL H q k zt rt lt ht ∧ 0 < k ∧ k ≤ 1000 ∧ H T = some (.tup [.int c, .int d]) ∧ H S = some (.tup ys) ∧ c ≤ d ∧ d < 24 ∧ ys.length = d - c + 1 ∧
  (∀ i y, ys[i]? = some y → ∃ (t : Addr) (z : Q2), y = .ref t ∧ QAt CM H t k z ∧ sizF zs r lo hi (toR z) = some a ∧ sizF zt rt lt ht (toR z) = some (c + i)) ∧ ∀ H', Same H H' → Q (.bl true) H'
def sp_shled (K : PySem.W.Frag) (CM CL : Addr) : Sp := fun vs H Q _ => ∃ (p q S : Addr) (v : V) (k : Nat) (zs zt : List Q2) (r rt : Str) (lo hi lt ht : Option Q2) (a : Nat) (u : Option (Nat × Nat)) (ys : List V) (bs : List Nat), vs = [.ref p, .int a, .ref q, v, .ref S] ∧ LadAt K CM CL H p k zs r lo hi ∧ LadAt K CM CL H q k zt rt lt ht ∧ a < zs.length ∧ 0 < k ∧ k ≤ 200 ∧ LedV H v u ∧ LedS (sizF zs r lo hi) (sizF zt rt lt ht) a zt.length u ∧ H S = some (.tup ys) ∧ PapS CM H (4 * k + 36) ys bs (sizF zs r lo hi) (sizF zt rt lt ht) a 0 zt.length ∧ ∀ H', Same H H' → Q (.bl true) H'
def sp_istupU (K : PySem.W.Frag) : Sp := fun vs H Q _ => ∃ (a : Addr) (xs : List V) (n : Int), vs = [.ref a, .int n] ∧ SqT K H a xs ∧ Q (.bl (decide ((xs.length : Int) = n))) H

def sp_arew (K : PySem.W.Frag) : Sp := fun vs H Q _ => ∃ (a : Addr) (ns : List Int), vs = [.ref a] ∧ SqT K H a (ns.map V.int) ∧ ns.length ≤ 900 ∧ ∀ H', Same H H' → Q (.bl true) H'
theorem filT (n : Nat) : (List.replicate n (some (V.bl true))).filterMap _root_.id = (List.replicate n true).map V.bl := by
  induction n with
  | zero => rfl
  | succ n ih => rw [List.replicate_succ, List.replicate_succ]; simpa using ih
theorem allT (n : Nat) : (List.replicate n true).all _root_.id = true := by
  induction n with
  | zero => rfl
  | succ n ih => rw [List.replicate_succ]; simpa using ih


def sp_part27 : Sp := fun vs H Q _ => ∃ (p : Addr) (d : LD) (k j : Nat), vs = [.ref p, .int k] ∧ LdAt H p d ∧ k < d.ms.length ∧ SzD j d ∧ IsRule d.r ∧ 0 < j ∧ j ≤ 900 ∧ ∀ (v : V) (H' : Hp), Same H H' → LPart H' v (partL d k) → Q v H'
def sp_met27 : Sp := fun vs H Q _ => ∃ (v : V) (p : Addr) (s : LS) (d : LD) (j : Nat) (F : Rat → Option Nat) (a : Nat), vs = [v, .ref p] ∧ LPart H v s ∧ ZzL (j + j + 3) s ∧ LdAt H p d ∧ LdOk d ∧ SzD j d ∧ 0 < j ∧ j ≤ 900 ∧ (∀ x, insB s x = true ↔ F x = some a) ∧ ∀ (w : V) (u : Option (Nat × Nat)) (H' : Hp), Same H H' → LedV H' w u → LedS F d.F a d.ms.length u → Q w H'
def sp_made27 (K : PySem.W.Frag) (CM CL : Addr) : Sp := fun vs H Q _ => ∃ (p : Addr) (d : LD) (k : Nat), vs = [.ref p] ∧ LdAt H p d ∧ LdOk d ∧ SzD k d ∧ 0 < k ∧ k ≤ 900 ∧ ∀ (q : Addr) (H' : Hp), Same H H' → LadAt K CM CL H' q k (zR d.ms) d.r (oR d.lo) (oR d.hi) → Q (.ref q) H'
def sp_scaled27 : Sp := fun vs H Q _ => ∃ (p s : Addr) (d : LD) (c : Rat) (k : Nat), vs = [.ref p, .ref s] ∧ LdAt H p d ∧ H s = some (PR c) ∧ SzD k d ∧ SzR k c ∧ 0 < k ∧ k ≤ 900 ∧ d.ms.length ≤ 900 ∧ ∀ (q : Addr) (H' : Hp), Same H H' → LdAt H' q (d.sc c) → Q (.ref q) H'
theorem LedV.same27 {H H' : Hp} {v : V} {u : Option (Nat × Nat)} (a : LedV H v u) (s : Same H H') : LedV H' v u := by
  cases u with
  | none => exact a
  | some c =>
    obtain ⟨T, e, h⟩ := a
    exact ⟨T, e, s _ _ h⟩
/-- what a paper holds, against the run that is due -/
structure PapU (CM : Addr) (H : Hp) (k : Nat) (ys : List V) (F G : Rat → Option Nat) (a : Nat) (u : Option (Nat × Nat)) : Prop where
  len : (match u with | none => 0 | some (c, d) => (d : Int) - (c : Int) + 1) = (ys.length : Int)
  all : ∀ (i : Nat) (y : V), ys[i]? = some y → ∃ (t : Addr) (z : Q2) (c d : Nat), y = .ref t ∧ QAt CM H t k z ∧ F (toR z) = some a ∧ u = some (c, d) ∧ G (toR z) = some (c + i)
theorem PapU.same {CM : Addr} {H H' : Hp} {k : Nat} {ys : List V} {F G : Rat → Option Nat} {a : Nat} {u : Option (Nat × Nat)} (p : PapU CM H k ys F G a u) (s : Same H H') : PapU CM H' k ys F G a u := ⟨p.len, fun i y e => by
  obtain ⟨t, z, c, d, h1, h2, h3⟩ := p.all i y e
  exact ⟨t, z, c, d, h1, h2.same s, h3⟩⟩
theorem papU_of {CM : Addr} {H : Hp} {k : Nat} {ys : List V} {bs : List Nat} {zs zt : List Q2} {r rt : Str} {lo hi lt ht : Option Q2} {a : Nat} {u : Option (Nat × Nat)} (L : LadQ zs r lo hi) (M : LadQ zt rt lt ht) (P : PapS CM H k ys bs (sizF zs r lo hi) (sizF zt rt lt ht) a 0 zt.length) (l : LedS (sizF zs r lo hi) (sizF zt rt lt ht) a zt.length u) : PapU CM H k ys (sizF zs r lo hi) (sizF zt rt lt ht) a u := by
  cases u with
  | none =>
    have e := pap_none P l
    subst e
    exact ⟨rfl, fun i y e => by simp at e⟩
  | some cd =>
    obtain ⟨c, d⟩ := cd
    obtain ⟨e, al⟩ := pap_run L M P l
    have cd := l.2.2.1
    refine ⟨?_, fun i y h => ?_⟩
    · show (d : Int) - (c : Int) + 1 = _
      omega
    · obtain ⟨t, z, h1, h2, h3, h4⟩ := al i y h
      exact ⟨t, z, c, d, h1, h2, h3, rfl, h4⟩
theorem ZzL.mono27 {a b : Nat} {s : LS} (h : ZzL a s) (l : a ≤ b) : ZzL b s := ⟨h.1.mono l, h.2.mono l⟩
theorem cp30 : CPow 10 30 := ⟨by decide, by decide, by decide⟩
theorem lg24 {z : Int} (h : z ≤ 24) (h0 : 0 ≤ z) : z.natAbs.log2 < 9000 := Nat.lt_of_le_of_lt (Nat.log2_le_self _) (by omega)
def sp_drawn27 : Sp := fun vs H Q _ => ∃ (h g : Addr) (n m : Nat), vs = [.ref h, .int m] ∧ PotAt H h g n ∧ n < 90000 ∧ 0 < m ∧ m ≤ 24 ∧ ∀ (p : Addr) (d : LD) (H' : Hp), Kp2 h g H H' → PotAt H' h g (n + 40) → LdAt H' p d → LdOk d → SzD 34 d → Q (.ref p) H'
def sp_right27 : Sp := fun vs H Q _ => ∃ (h g p q : Addr) (n : Nat) (d e : LD), vs = [.ref h, .ref p, .ref q] ∧ PotAt H h g n ∧ n < 80000 ∧ LdAt H p d ∧ LdAt H q e ∧ LdG d ∧ LdG e ∧ ∀ H', Kp2 h g H H' → PotAt H' h g (n + 4) → Q (.bl true) H'
def sp_ladders27 : Sp := fun vs H Q _ => ∃ (h g : Addr) (n c m : Nat), vs = [.ref h, .int c, .int m] ∧ PotAt H h g n ∧ n < 80000 ∧ c ≤ 100 ∧ 0 < m ∧ m ≤ 24 ∧ ∀ (D : Addr) (ys : List V) (H' : Hp), H D = none → Kp2 h g H H' → PotAt H' h g (n + 1 + 40 * c) → H' D = some (.lst ys) → ys.length = c → (∀ v ∈ ys, LdV LdG H' v) → Q (.ref D) H'


def sp_rising29 : Sp := fun vs H Q _ => ∃ (P : Addr) (vs0 : List V) (qs : List Rat) (k : Nat), vs = [.ref P] ∧ H P = some (.lst vs0) ∧ RsV H vs0 qs ∧ (∀ x ∈ qs, SzR k x) ∧ k ≤ 4000 ∧ qs.length ≤ 900 ∧ ∀ (D : Addr) (ws : List V) (ss : List Rat) (H' : Hp), Same H H' → H' D = some (.lst ws) → RsV H' ws ss → ss.Pairwise (· < ·) → (∀ x, x ∈ ss ↔ x ∈ qs) → ss.length ≤ qs.length → Q (.ref D) H'
def optO (o : Option Rat) (v : V) : Option V := if o.isSome = true then some v else none
theorem optO_rsv {H : Hp} {u w : V} {lo hi : Option Rat} (a : OP H u lo) (b : OP H w hi) : RsV H ([optO lo u, optO hi w].filterMap id) (lo.toList ++ hi.toList) := by
  cases lo with
  | none =>
    cases hi with
    | none => exact RsV.none
    | some y =>
      obtain ⟨q, rfl, h⟩ := b
      exact RsV.one h
  | some x =>
    obtain ⟨p, rfl, g⟩ := a
    cases hi with
    | none => exact RsV.one g
    | some y =>
      obtain ⟨q, rfl, h⟩ := b
      exact (RsV.one g).app (RsV.one h)
theorem rsv_of {H : Hp} {ys : List V} {ms : List Rat} (l : ys.length = ms.length) (h : ∀ (i : Nat) (y : V), ys[i]? = some y → ∃ (a : Addr) (x : Rat), y = .ref a ∧ ms[i]? = some x ∧ H a = some (PR x)) : RsV H ys ms := ⟨l, fun i x e => by
  have li := (List.getElem?_eq_some_iff.mp e).1
  obtain ⟨a, x', e1, e2, e3⟩ := h i _ (List.getElem?_eq_getElem (by omega))
  rw [e2] at e
  cases e
  exact ⟨a, by rw [List.getElem?_eq_getElem (by omega), e1], e3⟩⟩
theorem ends_len {d : LD} : (endsR d).length ≤ d.ms.length + d.ms.length + 2 := by
  unfold endsR
  rw [List.length_append, List.length_append, List.length_append, mids_len]
  have h1 : d.lo.toList.length ≤ 1 := by cases d.lo <;> simp
  have h2 : d.hi.toList.length ≤ 1 := by cases d.hi <;> simp
  omega
theorem mids_mem : ∀ {l : List Rat} {x : Rat}, x ∈ midsR l → ∃ a b, a ∈ l ∧ b ∈ l ∧ x = (a + b) / 2
  | [], x, h => by simp [midsR] at h
  | [_], x, h => by simp [midsR] at h
  | a :: b :: t, x, h => by
    rcases List.mem_cons.mp (show x ∈ (a + b) / 2 :: midsR (b :: t) from h) with rfl | h
    · exact ⟨a, b, by simp, by simp, rfl⟩
    · obtain ⟨c, d, h1, h2, h3⟩ := mids_mem h
      exact ⟨c, d, List.mem_cons_of_mem _ h1, List.mem_cons_of_mem _ h2, h3⟩
theorem mids_sz {l : List Rat} {k : Nat} (h : ∀ x ∈ l, SzR k x) : ∀ x ∈ midsR l, SzR (2 + (k + k + 1)) x := fun x hx => by
  obtain ⟨a, b, h1, h2, rfl⟩ := mids_mem hx
  exact szr_half (szr_add (h a h1) (h b h2))
theorem ends_sz {d : LD} {k : Nat} (h : SzD k d) : ∀ x ∈ endsR d, SzR (2 + (k + k + 1)) x := fun x hx => by
  unfold endsR at hx
  rcases List.mem_append.mp hx with hx | hx
  · rcases List.mem_append.mp hx with hx | hx
    · exact (h.1 x hx).mono (by omega)
    · exact mids_sz h.1 x hx
  · rcases List.mem_append.mp hx with hx | hx
    · cases e : d.lo with
      | none => rw [e] at hx; simp at hx
      | some y =>
        rw [e] at hx
        have : x = y := by simpa using hx
        subst this
        exact (h.2.1 x e).mono (by omega)
    · cases e : d.hi with
      | none => rw [e] at hx; simp at hx
      | some y =>
        rw [e] at hx
        have : x = y := by simpa using hx
        subst this
        exact (h.2.2 x e).mono (by omega)
def flatE (ds : List LD) : List Rat := (ds.map endsR).flatten
theorem flatE_snoc (ds : List LD) (d : LD) : flatE (ds ++ [d]) = flatE ds ++ endsR d := by
  unfold flatE
  rw [List.map_append, List.flatten_append]
  simp
def sp_points29 : Sp := fun vs H Q _ => ∃ (p q : Addr) (d e : LD), vs = [.ref p, .ref q] ∧ LdAt H p d ∧ LdAt H q e ∧ LdG d ∧ LdG e ∧ ∀ (D : Addr) (ws : List V) (E : List Rat) (a b : Rat) (H' : Hp), Same H H' → H' D = some (.lst ws) → RsV H' ws (triedR E a b) → E.Pairwise (· < ·) → E[0]? = some a → E[E.length - 1]? = some b → (∀ x, EndL d x ∨ EndL e x → x ∈ E) → (∀ x ∈ triedR E a b, SzR 600 x) → ws.length ≤ 500 → Q (.ref D) H'


theorem keys_putT {κ : Type} [DecidableEq κ] (kvs : List (κ × V)) (k : κ) (v : V) : (putK kvs k v).map (·.1) = if k ∈ kvs.map (·.1) then kvs.map (·.1) else kvs.map (·.1) ++ [k] := by
  have e : (kvs.any fun kv => decide (kv.1 = k)) = decide (k ∈ kvs.map (·.1)) := by
    rw [Bool.eq_iff_iff, List.any_eq_true, decide_eq_true_eq, List.mem_map]
    constructor
    · rintro ⟨x, h1, h2⟩
      exact ⟨x, h1, of_decide_eq_true h2⟩
    · rintro ⟨x, h1, h2⟩
      exact ⟨x, h1, decide_eq_true h2⟩
  unfold putK
  rw [e]
  by_cases c : k ∈ kvs.map (·.1)
  · rw [if_pos (decide_eq_true c), if_pos c, List.map_map]
    refine List.map_congr_left fun x _ => ?_
    show (if x.1 = k then (x.1, v) else x).1 = x.1
    split <;> rfl
  · rw [if_neg (fun z => c (of_decide_eq_true z)), if_neg c, List.map_append]
    rfl
/-- a pair of whole numbers as a key -/
def kP (a b : Nat) : List Key := [Sum.inl (a : Int), Sum.inl (b : Int)]
theorem kP_inj {a b c d : Nat} (h : kP a b = kP c d) : a = c ∧ b = d := by
  unfold kP at h
  simp at h
  omega
/-- the keys of a dict of pairs, each once -/
structure KeysP (kvs : List (List Key × V)) (P : Nat → Nat → Prop) : Prop where
  nd : (kvs.map (·.1)).Nodup
  al : ∀ k ∈ kvs.map (·.1), ∃ a b : Nat, k = kP a b
  iff : ∀ a b : Nat, kP a b ∈ kvs.map (·.1) ↔ P a b
theorem KeysP.nil : KeysP [] fun _ _ => False := ⟨List.nodup_nil, fun k h => by simp at h, fun a b => by simp⟩
theorem KeysP.imp {kvs : List (List Key × V)} {P P' : Nat → Nat → Prop} (a : KeysP kvs P) (h : ∀ x y, P x y ↔ P' x y) : KeysP kvs P' := ⟨a.nd, a.al, fun x y => (a.iff x y).trans (h x y)⟩
theorem KeysP.put {kvs : List (List Key × V)} {P : Nat → Nat → Prop} (a : KeysP kvs P) (x y : Nat) (v : V) : KeysP (putK kvs (kP x y) v) fun c d => P c d ∨ (c = x ∧ d = y) := by
  have e := keys_putT kvs (kP x y) v
  by_cases c : kP x y ∈ kvs.map (·.1)
  · rw [if_pos c] at e
    refine ⟨by rw [e]; exact a.nd, by rw [e]; exact a.al, fun z w => ?_⟩
    rw [e, a.iff]
    constructor
    · exact .inl
    · rintro (h | ⟨rfl, rfl⟩)
      · exact h
      · exact (a.iff _ _).mp c
  · rw [if_neg c] at e
    refine ⟨?_, fun k hk => ?_, fun z w => ?_⟩
    · rw [e, List.nodup_append]
      refine ⟨a.nd, by simp, fun x hx b hb => ?_⟩
      cases List.mem_singleton.mp hb
      exact fun q => c (q ▸ hx)
    · rw [e] at hk
      rcases List.mem_append.mp hk with hk | hk
      · exact a.al k hk
      · cases List.mem_singleton.mp hk
        exact ⟨x, y, rfl⟩
    · rw [e, List.mem_append, a.iff, List.mem_singleton]
      constructor
      · rintro (h | h)
        · exact .inl h
        · exact .inr (kP_inj h)
      · rintro (h | ⟨rfl, rfl⟩)
        · exact .inl h
        · exact .inr rfl
/-- what comes with n -/
def thrK (n : Nat) : List Key → Option V
  | [Sum.inl a, Sum.inl b] => if a = (n : Int) then some (.int b) else none
  | _ => none
theorem thrK_at (n a b : Nat) : thrK n (kP a b) = if (a : Int) = (n : Int) then some (.int (b : Int)) else none := rfl
theorem thr_keys {n : Nat} : ∀ {ks : List (List Key)}, ks.Nodup → (∀ k ∈ ks, ∃ a b : Nat, k = kP a b) → ∃ ns : List Nat, (ks.map (thrK n)).filterMap _root_.id = (ns.map fun b : Nat => (b : Int)).map V.int ∧ ns.Nodup ∧ ∀ b, b ∈ ns ↔ kP n b ∈ ks
  | [], _, _ => ⟨[], rfl, List.nodup_nil, fun b => by simp⟩
  | k :: t, nd, al => by
    obtain ⟨nk, nt⟩ := List.nodup_cons.mp nd
    obtain ⟨ns, e, n2, mem⟩ := thr_keys (n := n) nt fun k hk => al k (List.mem_cons_of_mem _ hk)
    obtain ⟨a, b, rfl⟩ := al k (by simp)
    by_cases c : a = n
    · subst c
      refine ⟨b :: ns, ?_, List.nodup_cons.mpr ⟨fun h => nk ((mem b).mp h), n2⟩, fun x => ?_⟩
      · rw [List.map_cons, thrK_at, if_pos rfl, List.filterMap_cons]
        show V.int (b : Int) :: _ = _
        rw [e]
        rfl
      · rw [List.mem_cons, List.mem_cons, mem x]
        constructor
        · rintro (rfl | h)
          · exact .inl rfl
          · exact .inr h
        · rintro (h | h)
          · exact .inl (kP_inj h).2
          · exact .inr h
    · refine ⟨ns, ?_, n2, fun x => ?_⟩
      · rw [List.map_cons, thrK_at, if_neg (by omega), List.filterMap_cons]
        exact e
      · rw [List.mem_cons, mem x]
        constructor
        · exact .inr
        · rintro (h | h)
          · exact absurd (kP_inj h).1.symm c
          · exact h
theorem thr_ok {kvs : List (List Key × V)} {P : Nat → Nat → Prop} (K : KeysP kvs P) (n : Nat) : ∃ ns : List Nat, (kvs.map fun kv => thrK n kv.1).filterMap _root_.id = (ns.map fun b : Nat => (b : Int)).map V.int ∧ ns.Nodup ∧ ∀ b, b ∈ ns ↔ P n b := by
  obtain ⟨ns, e, nd, mem⟩ := thr_keys (n := n) K.nd K.al
  rw [List.map_map] at e
  exact ⟨ns, e, nd, fun b => (mem b).trans (K.iff n b)⟩
theorem nd_short : ∀ {n : Nat} {l : List Nat}, l.Nodup → (∀ x ∈ l, x < n) → l.length ≤ n
  | 0, [], _, _ => Nat.le_refl _
  | 0, a :: _, _, h => absurd (h a (by simp)) (Nat.not_lt_zero _)
  | n + 1, l, nd, h => by
    have h1 := nd_short (n := n) (l := l.erase n) (nd.erase n) fun x hx => by
      have h2 := h x (List.mem_of_mem_erase hx)
      have h3 : x ≠ n := fun q => by
        subst q
        exact (List.Nodup.mem_erase_iff nd).mp hx |>.1 rfl
      omega
    have := List.length_erase_le (a := n) (l := l)
    by_cases c : n ∈ l
    · rw [List.length_erase_of_mem c] at h1
      omega
    · rw [List.erase_of_not_mem c] at h1
      omega
/-- sorted: what a run says -/
theorem thr_run {ns : List Nat} {ns' : List Int} {c d : Nat} (cd : c ≤ d) (nd : ns.Nodup) (pm : ns'.Perm (ns.map fun b : Nat => (b : Int))) (so : ns'.Pairwise (· ≤ ·)) (mem : ∀ b, b ∈ ns ↔ c ≤ b ∧ b ≤ d) : ∃ zs : List Int, ns' = zs ∧ rgV (c : Int) ((d : Int) + 1) = zs.map V.int := by
  refine ⟨ns', rfl, ?_⟩
  have nd2 : ns'.Nodup := pm.nodup_iff.mpr (List.Pairwise.map (fun b : Nat => (b : Int)) (fun x y h q => h (by omega)) nd)
  have so2 : ns'.Pairwise (· < ·) := by
    refine (so.and nd2).imp fun {x y} h => ?_
    have h1 := h.1
    have h2 := h.2
    omega
  have al : ∀ z ∈ ns', 0 ≤ z := fun z hz => by
    obtain ⟨b, _, rfl⟩ := List.mem_map.mp (pm.mem_iff.mp hz)
    exact Int.natCast_nonneg b
  have em : ns' = (ns'.map Int.toNat).map fun b : Nat => (b : Int) := by
    rw [List.map_map]
    refine List.ext_getElem? fun i => ?_
    rw [List.getElem?_map]
    cases e : ns'[i]? with
    | none => rfl
    | some z =>
      have := al z (List.mem_of_getElem? e)
      show some z = some (((z.toNat : Nat) : Int))
      rw [Int.toNat_of_nonneg this]
  have so3 : (ns'.map Int.toNat).Pairwise (· < ·) := by
    rw [List.pairwise_map]
    refine so2.imp_of_mem fun {x y} hx hy h => ?_
    have := al x hx
    have := al y hy
    omega
  obtain ⟨e1, e2⟩ := run_list (n := d - c + 1) (c := c) so3 fun b => by
    rw [List.mem_map]
    constructor
    · rintro ⟨z, hz, rfl⟩
      obtain ⟨b, hb, rfl⟩ := List.mem_map.mp (pm.mem_iff.mp hz)
      have := (mem b).mp hb
      omega
    · intro h
      refine ⟨(b : Int), pm.mem_iff.mpr (List.mem_map.mpr ⟨b, (mem b).mpr (by omega), rfl⟩), rfl⟩
  rw [List.length_map] at e1
  refine List.ext_getElem? fun i => ?_
  unfold rgV
  rw [List.getElem?_map, List.getElem?_map]
  by_cases h : i < d - c + 1
  · rw [List.getElem?_range (by omega)]
    have hz : ns'[i]? = some (ns'[i]'(by omega)) := List.getElem?_eq_getElem (by omega)
    have := e2 i (ns'[i]'(by omega)).toNat (by rw [List.getElem?_map, hz]; rfl)
    have h0 := al _ (List.mem_of_getElem? hz)
    rw [hz]
    show some (V.int ((c : Int) + (i : Nat))) = some (V.int _)
    rw [show (c : Int) + (i : Nat) = ns'[i]'(by omega) by omega]
  · rw [List.getElem?_eq_none (by rw [List.length_range]; omega), List.getElem?_eq_none (by omega)]
    rfl
theorem thr_none {ns : List Nat} {ns' : List Int} (pm : ns'.Perm (ns.map fun b : Nat => (b : Int))) (mem : ∀ b, b ∉ ns) : ns' = [] := by
  have : ns = [] := List.eq_nil_iff_forall_not_mem.mpr mem
  subst this
  exact List.Perm.eq_nil pm
theorem lock_same {H H' : Hp} {d : Addr} {u f : HO} (hd : H d = some u) (s : Same (upd H d f) H') : Same H (upd H' d u) := fun b o e => by
  by_cases c : b = d
  · subst c
    rw [hd] at e
    cases e
    exact upd_same
  · rw [upd_ne c]
    exact s _ _ (by rw [upd_ne c]; exact e)
theorem new_same {H H' : Hp} {d : Addr} {f : HO} (n : H d = none) (s : Same H H') : Same H (upd H' d f) := fun b o e => by
  rw [upd_ne (ne_of_none e n)]
  exact s _ _ e
theorem RsV.put29 {H : Hp} {ws : List V} {xs : List Rat} {P : Addr} {u f : HO} (r : RsV H ws xs) (hP : H P = some u) (nt : ∀ q : Rat, u ≠ PR q) : RsV (upd H P f) ws xs := ⟨r.1, fun i x e => by
  obtain ⟨a, e1, h⟩ := r.2 i x e
  exact ⟨a, e1, by rw [upd_ne (fun q => by subst q; rw [hP] at h; exact nt x (Option.some.inj h))]; exact h⟩⟩
/-- the pairs met at all points tried -/
theorem tried_pairs {E : List Rat} {a b : Rat} {d e : LD} {k l : Nat} (pw : E.Pairwise (· < ·)) (ha : E[0]? = some a) (hb : E[E.length - 1]? = some b) (od : LdOk d) (oe : LdOk e) (al : ∀ x, EndL d x ∨ EndL e x → x ∈ E) : (∃ (t : Nat) (x : Rat), t < (triedR E a b).length ∧ (triedR E a b)[t]? = some x ∧ d.F x = some k ∧ e.F x = some l) ↔ ∃ x, d.F x = some k ∧ e.F x = some l := by
  constructor
  · rintro ⟨_, x, _, _, h⟩
    exact ⟨x, h⟩
  · rintro ⟨x, h1, h2⟩
    obtain ⟨p, hp, same⟩ := tried_ok pw ha hb x
    obtain ⟨t, ht⟩ := List.mem_iff_getElem?.mp hp
    exact ⟨t, p, (List.getElem?_eq_some_iff.mp ht).1, ht, by rw [same d od fun z hz => al z (.inl hz)]; exact h1, by rw [same e oe fun z hz => al z (.inr hz)]; exact h2⟩
/-- a run holds just what is met -/
theorem run_met {d e : LD} {a c n l : Nat} (od : LdOk d) (oe : LdOk e) (h : LedS d.F e.F a n (some (c, l))) (b : Nat) : (∃ x, d.F x = some a ∧ e.F x = some b) ↔ c ≤ b ∧ b ≤ l := by
  obtain ⟨h1, h2, h3, ⟨x, f1, g1⟩, ⟨y, f2, g2⟩, h4⟩ := h
  constructor
  · rintro ⟨z, f, g⟩
    exact h4 b z f g
  · rintro ⟨l1, l2⟩
    exact met_conv od.lq oe.lq f1 g1 f2 g2 l1 l2
def sp_lright29 : Sp := fun vs H Q _ => ∃ (p q : Addr) (d e : LD), vs = [.ref p, .ref q] ∧ LdAt H p d ∧ LdAt H q e ∧ LdG d ∧ LdG e ∧ ∀ H', Same H H' → Q (.bl true) H'


theorem b_is_whole_1 {K : PySem.W.Frag} {mg : Str → Option Value} {φ : Fds} (T : Txt K mg φ) : ∃ ds, Vals ([] : List V) ds ∧ Binds K φ.is_whole p_is_whole ds :=
  ⟨[], .nil, T.f_is_whole.bindsN fun _ _ _ _ _ _ us hl => match us, hl with | [_], _ => rfl⟩
theorem b_common_part_2 {K : PySem.W.Frag} {mg : Str → Option Value} {φ : Fds} (T : Txt K mg φ) : ∃ ds, Vals ([] : List V) ds ∧ Binds K φ.common_part p_common_part ds :=
  ⟨[], .nil, T.f_common_part.bindsN fun _ _ _ _ _ _ us hl => match us, hl with | [_, _], _ => rfl⟩
theorem b_Measure_is_below_2 {K : PySem.W.Frag} {mg : Str → Option Value} {φ : Fds} (T : Txt K mg φ) : ∃ ds, Vals ([V.bl false] : List V) ds ∧ Binds K φ.Measure_is_below p_Measure_is_below ds :=
  T.f_Measure_is_below.binds1 2 0 (by simp) rfl fun _ _ _ _ _ _ _ us its h1 h2 => match us, its, h1, h2 with | [_, _], [_], _, _ => ⟨_, rfl, rfl⟩
theorem b_Measure_is_below_3 {K : PySem.W.Frag} {mg : Str → Option Value} {φ : Fds} (T : Txt K mg φ) : ∃ ds, Vals ([] : List V) ds ∧ Binds K φ.Measure_is_below p_Measure_is_below ds :=
  T.f_Measure_is_below.binds1 3 1 (by simp) rfl fun _ _ _ _ _ _ _ us its h1 h2 => match us, its, h1, h2 with | [_, _, _], [_], _, _ => ⟨_, rfl, rfl⟩
theorem b_are_marks_1 {K : PySem.W.Frag} {mg : Str → Option Value} {φ : Fds} (T : Txt K mg φ) : ∃ ds, Vals ([] : List V) ds ∧ Binds K φ.are_marks p_are_marks ds :=
  ⟨[], .nil, T.f_are_marks.bindsN fun _ _ _ _ _ _ us hl => match us, hl with | [_], _ => rfl⟩
theorem b_is_rule_1 {K : PySem.W.Frag} {mg : Str → Option Value} {φ : Fds} (T : Txt K mg φ) : ∃ ds, Vals ([] : List V) ds ∧ Binds K φ.is_rule p_is_rule ds :=
  ⟨[], .nil, T.f_is_rule.bindsN fun _ _ _ _ _ _ us hl => match us, hl with | [_], _ => rfl⟩
theorem b_is_measure_or_none_1 {K : PySem.W.Frag} {mg : Str → Option Value} {φ : Fds} (T : Txt K mg φ) : ∃ ds, Vals ([] : List V) ds ∧ Binds K φ.is_measure_or_none p_is_measure_or_none ds :=
  ⟨[], .nil, T.f_is_measure_or_none.bindsN fun _ _ _ _ _ _ us hl => match us, hl with | [_], _ => rfl⟩
theorem b_is_span_2 {K : PySem.W.Frag} {mg : Str → Option Value} {φ : Fds} (T : Txt K mg φ) : ∃ ds, Vals ([] : List V) ds ∧ Binds K φ.is_span p_is_span ds :=
  ⟨[], .nil, T.f_is_span.bindsN fun _ _ _ _ _ _ us hl => match us, hl with | [_, _], _ => rfl⟩
theorem b_slip_of_1 {K : PySem.W.Frag} {mg : Str → Option Value} {φ : Fds} (T : Txt K mg φ) : ∃ ds, Vals ([] : List V) ds ∧ Binds K φ.slip_of p_slip_of ds :=
  ⟨[], .nil, T.f_slip_of.bindsN fun _ _ _ _ _ _ us hl => match us, hl with | [_], _ => rfl⟩
theorem b_Measure_init_3 {K : PySem.W.Frag} {mg : Str → Option Value} {φ : Fds} (T : Txt K mg φ) : ∃ ds, Vals ([] : List V) ds ∧ Binds K φ.Measure_init p_Measure_init ds :=
  T.f_Measure_init.binds1 3 1 (by simp) rfl fun _ _ _ _ _ _ _ us its h1 h2 => match us, its, h1, h2 with | [_, _, _], [_], _, _ => ⟨_, rfl, rfl⟩
theorem b_Measure_parted_1 {K : PySem.W.Frag} {mg : Str → Option Value} {φ : Fds} (T : Txt K mg φ) : ∃ ds, Vals ([V.int 2] : List V) ds ∧ Binds K φ.Measure_parted p_Measure_parted ds :=
  T.f_Measure_parted.binds1 1 0 (by simp) rfl fun _ _ _ _ _ _ _ us its h1 h2 => match us, its, h1, h2 with | [_], [_], _, _ => ⟨_, rfl, rfl⟩
theorem b_Measure_plus_2 {K : PySem.W.Frag} {mg : Str → Option Value} {φ : Fds} (T : Txt K mg φ) : ∃ ds, Vals ([] : List V) ds ∧ Binds K φ.Measure_plus p_Measure_plus ds :=
  ⟨[], .nil, T.f_Measure_plus.bindsN fun _ _ _ _ _ _ us hl => match us, hl with | [_, _], _ => rfl⟩
theorem b_midsts_of_1 {K : PySem.W.Frag} {mg : Str → Option Value} {φ : Fds} (T : Txt K mg φ) : ∃ ds, Vals ([] : List V) ds ∧ Binds K φ.midsts_of p_midsts_of ds :=
  ⟨[], .nil, T.f_midsts_of.bindsN fun _ _ _ _ _ _ us hl => match us, hl with | [_], _ => rfl⟩
theorem b_size_by_rule_3 {K : PySem.W.Frag} {mg : Str → Option Value} {φ : Fds} (T : Txt K mg φ) : ∃ ds, Vals ([] : List V) ds ∧ Binds K φ.size_by_rule p_size_by_rule ds :=
  ⟨[], .nil, T.f_size_by_rule.bindsN fun _ _ _ _ _ _ us hl => match us, hl with | [_, _, _], _ => rfl⟩
theorem b_Measure_eq_2 {K : PySem.W.Frag} {mg : Str → Option Value} {φ : Fds} (T : Txt K mg φ) : ∃ ds, Vals ([] : List V) ds ∧ Binds K φ.Measure_eq p_Measure_eq ds :=
  ⟨[], .nil, T.f_Measure_eq.bindsN fun _ _ _ _ _ _ us hl => match us, hl with | [_, _], _ => rfl⟩
theorem b_is_empty_4 {K : PySem.W.Frag} {mg : Str → Option Value} {φ : Fds} (T : Txt K mg φ) : ∃ ds, Vals ([] : List V) ds ∧ Binds K φ.is_empty p_is_empty ds :=
  ⟨[], .nil, T.f_is_empty.bindsN fun _ _ _ _ _ _ us hl => match us, hl with | [_, _, _, _], _ => rfl⟩
theorem b_cut_low_2 {K : PySem.W.Frag} {mg : Str → Option Value} {φ : Fds} (T : Txt K mg φ) : ∃ ds, Vals ([] : List V) ds ∧ Binds K φ.cut_low p_cut_low ds :=
  ⟨[], .nil, T.f_cut_low.bindsN fun _ _ _ _ _ _ us hl => match us, hl with | [_, _], _ => rfl⟩
theorem b_cut_high_2 {K : PySem.W.Frag} {mg : Str → Option Value} {φ : Fds} (T : Txt K mg φ) : ∃ ds, Vals ([] : List V) ds ∧ Binds K φ.cut_high p_cut_high ds :=
  ⟨[], .nil, T.f_cut_high.bindsN fun _ _ _ _ _ _ us hl => match us, hl with | [_, _], _ => rfl⟩
theorem b_Stretch_init_5 {K : PySem.W.Frag} {mg : Str → Option Value} {φ : Fds} (T : Txt K mg φ) : ∃ ds, Vals ([] : List V) ds ∧ Binds K φ.Stretch_init p_Stretch_init ds :=
  T.f_Stretch_init.binds1 5 2 (by simp) rfl fun _ _ _ _ _ _ _ us its h1 h2 => match us, its, h1, h2 with | [_, _, _, _, _], [_, _], _, _ => ⟨_, rfl, rfl⟩
theorem b_Stretch_init_3 {K : PySem.W.Frag} {mg : Str → Option Value} {φ : Fds} (T : Txt K mg φ) : ∃ ds, Vals ([V.bl false, V.bl true] : List V) ds ∧ Binds K φ.Stretch_init p_Stretch_init ds :=
  T.f_Stretch_init.binds1 3 0 (by simp) rfl fun _ _ _ _ _ _ _ us its h1 h2 => match us, its, h1, h2 with | [_, _, _], [_, _], _, _ => ⟨_, rfl, rfl⟩
theorem b_end_at_2 {K : PySem.W.Frag} {mg : Str → Option Value} {φ : Fds} (T : Txt K mg φ) : ∃ ds, Vals ([] : List V) ds ∧ Binds K φ.end_at p_end_at ds :=
  ⟨[], .nil, T.f_end_at.bindsN fun _ _ _ _ _ _ us hl => match us, hl with | [_, _], _ => rfl⟩
theorem b_has_size_2 {K : PySem.W.Frag} {mg : Str → Option Value} {φ : Fds} (T : Txt K mg φ) : ∃ ds, Vals ([] : List V) ds ∧ Binds K φ.has_size p_has_size ds :=
  ⟨[], .nil, T.f_has_size.bindsN fun _ _ _ _ _ _ us hl => match us, hl with | [_, _], _ => rfl⟩
theorem b_Stretch_cut_2 {K : PySem.W.Frag} {mg : Str → Option Value} {φ : Fds} (T : Txt K mg φ) : ∃ ds, Vals ([] : List V) ds ∧ Binds K φ.Stretch_cut p_Stretch_cut ds :=
  ⟨[], .nil, T.f_Stretch_cut.bindsN fun _ _ _ _ _ _ us hl => match us, hl with | [_, _], _ => rfl⟩
theorem b_stretch_by_rule_3 {K : PySem.W.Frag} {mg : Str → Option Value} {φ : Fds} (T : Txt K mg φ) : ∃ ds, Vals ([] : List V) ds ∧ Binds K φ.stretch_by_rule p_stretch_by_rule ds :=
  ⟨[], .nil, T.f_stretch_by_rule.bindsN fun _ _ _ _ _ _ us hl => match us, hl with | [_, _, _], _ => rfl⟩
theorem b_Measure_init_2 {K : PySem.W.Frag} {mg : Str → Option Value} {φ : Fds} (T : Txt K mg φ) : ∃ ds, Vals ([V.int 1] : List V) ds ∧ Binds K φ.Measure_init p_Measure_init ds :=
  T.f_Measure_init.binds1 2 0 (by simp) rfl fun _ _ _ _ _ _ _ us its h1 h2 => match us, its, h1, h2 with | [_, _], [_], _, _ => ⟨_, rfl, rfl⟩
theorem b_Measure_minus_2 {K : PySem.W.Frag} {mg : Str → Option Value} {φ : Fds} (T : Txt K mg φ) : ∃ ds, Vals ([] : List V) ds ∧ Binds K φ.Measure_minus p_Measure_minus ds :=
  ⟨[], .nil, T.f_Measure_minus.bindsN fun _ _ _ _ _ _ us hl => match us, hl with | [_, _], _ => rfl⟩
theorem b_some_measure_1 {K : PySem.W.Frag} {mg : Str → Option Value} {φ : Fds} (T : Txt K mg φ) : ∃ ds, Vals ([] : List V) ds ∧ Binds K φ.some_measure p_some_measure ds :=
  ⟨[], .nil, T.f_some_measure.bindsN fun _ _ _ _ _ _ us hl => match us, hl with | [_], _ => rfl⟩
theorem b_Stretch_shared_2 {K : PySem.W.Frag} {mg : Str → Option Value} {φ : Fds} (T : Txt K mg φ) : ∃ ds, Vals ([] : List V) ds ∧ Binds K φ.Stretch_shared p_Stretch_shared ds :=
  ⟨[], .nil, T.f_Stretch_shared.bindsN fun _ _ _ _ _ _ us hl => match us, hl with | [_, _], _ => rfl⟩
theorem b_Ladder_stretch_2 {K : PySem.W.Frag} {mg : Str → Option Value} {φ : Fds} (T : Txt K mg φ) : ∃ ds, Vals ([] : List V) ds ∧ Binds K φ.Ladder_stretch p_Ladder_stretch ds :=
  ⟨[], .nil, T.f_Ladder_stretch.bindsN fun _ _ _ _ _ _ us hl => match us, hl with | [_, _], _ => rfl⟩
theorem b_Ladder_len_1 {K : PySem.W.Frag} {mg : Str → Option Value} {φ : Fds} (T : Txt K mg φ) : ∃ ds, Vals ([] : List V) ds ∧ Binds K φ.Ladder_len p_Ladder_len ds :=
  ⟨[], .nil, T.f_Ladder_len.bindsN fun _ _ _ _ _ _ us hl => match us, hl with | [_], _ => rfl⟩
theorem b_shared_by_2 {K : PySem.W.Frag} {mg : Str → Option Value} {φ : Fds} (T : Txt K mg φ) : ∃ ds, Vals ([] : List V) ds ∧ Binds K φ.shared_by p_shared_by ds :=
  ⟨[], .nil, T.f_shared_by.bindsN fun _ _ _ _ _ _ us hl => match us, hl with | [_, _], _ => rfl⟩
theorem b_common_measures_3 {K : PySem.W.Frag} {mg : Str → Option Value} {φ : Fds} (T : Txt K mg φ) : ∃ ds, Vals ([] : List V) ds ∧ Binds K φ.common_measures p_common_measures ds :=
  ⟨[], .nil, T.f_common_measures.bindsN fun _ _ _ _ _ _ us hl => match us, hl with | [_, _, _], _ => rfl⟩
theorem b_Ladder_size_2 {K : PySem.W.Frag} {mg : Str → Option Value} {φ : Fds} (T : Txt K mg φ) : ∃ ds, Vals ([] : List V) ds ∧ Binds K φ.Ladder_size p_Ladder_size ds :=
  ⟨[], .nil, T.f_Ladder_size.bindsN fun _ _ _ _ _ _ us hl => match us, hl with | [_, _], _ => rfl⟩
theorem b_is_tuple_of_2 {K : PySem.W.Frag} {mg : Str → Option Value} {φ : Fds} (T : Txt K mg φ) : ∃ ds, Vals ([] : List V) ds ∧ Binds K φ.is_tuple_of p_is_tuple_of ds :=
  ⟨[], .nil, T.f_is_tuple_of.bindsN fun _ _ _ _ _ _ us hl => match us, hl with | [_, _], _ => rfl⟩
theorem b_comes_to_3 {K : PySem.W.Frag} {mg : Str → Option Value} {φ : Fds} (T : Txt K mg φ) : ∃ ds, Vals ([] : List V) ds ∧ Binds K φ.comes_to p_comes_to ds :=
  ⟨[], .nil, T.f_comes_to.bindsN fun _ _ _ _ _ _ us hl => match us, hl with | [_, _, _], _ => rfl⟩
theorem b_led_3 {K : PySem.W.Frag} {mg : Str → Option Value} {φ : Fds} (T : Txt K mg φ) : ∃ ds, Vals ([] : List V) ds ∧ Binds K φ.led p_led ds :=
  ⟨[], .nil, T.f_led.bindsN fun _ _ _ _ _ _ us hl => match us, hl with | [_, _, _], _ => rfl⟩
theorem b_is_paper_5 {K : PySem.W.Frag} {mg : Str → Option Value} {φ : Fds} (T : Txt K mg φ) : ∃ ds, Vals ([] : List V) ds ∧ Binds K φ.is_paper p_is_paper ds :=
  ⟨[], .nil, T.f_is_paper.bindsN fun _ _ _ _ _ _ us hl => match us, hl with | [_, _, _, _, _], _ => rfl⟩
theorem b_are_wholes_1 {K : PySem.W.Frag} {mg : Str → Option Value} {φ : Fds} (T : Txt K mg φ) : ∃ ds, Vals ([] : List V) ds ∧ Binds K φ.are_wholes p_are_wholes ds :=
  ⟨[], .nil, T.f_are_wholes.bindsN fun _ _ _ _ _ _ us hl => match us, hl with | [_], _ => rfl⟩
theorem b_l_pick_2 {K : PySem.W.Frag} {mg : Str → Option Value} {φ : Fds} (T : Txt K mg φ) : ∃ ds, Vals ([] : List V) ds ∧ Binds K φ.l_pick p_l_pick ds :=
  ⟨[], .nil, T.f_l_pick.bindsN fun _ _ _ _ _ _ us hl => match us, hl with | [_, _], _ => rfl⟩
theorem b_l_parts_2 {K : PySem.W.Frag} {mg : Str → Option Value} {φ : Fds} (T : Txt K mg φ) : ∃ ds, Vals ([] : List V) ds ∧ Binds K φ.l_parts p_l_parts ds :=
  ⟨[], .nil, T.f_l_parts.bindsN fun _ _ _ _ _ _ us hl => match us, hl with | [_, _], _ => rfl⟩
theorem b_l_plus_2 {K : PySem.W.Frag} {mg : Str → Option Value} {φ : Fds} (T : Txt K mg φ) : ∃ ds, Vals ([] : List V) ds ∧ Binds K φ.l_plus p_l_plus ds :=
  ⟨[], .nil, T.f_l_plus.bindsN fun _ _ _ _ _ _ us hl => match us, hl with | [_, _], _ => rfl⟩
theorem b_Ladder_init_5 {K : PySem.W.Frag} {mg : Str → Option Value} {φ : Fds} (T : Txt K mg φ) : ∃ ds, Vals ([] : List V) ds ∧ Binds K φ.Ladder_init p_Ladder_init ds :=
  T.f_Ladder_init.binds1 5 3 (by simp) rfl fun _ _ _ _ _ _ _ us its h1 h2 => match us, its, h1, h2 with | [_, _, _, _, _], [_, _, _], _, _ => ⟨_, rfl, rfl⟩
theorem b_l_of_2 {K : PySem.W.Frag} {mg : Str → Option Value} {φ : Fds} (T : Txt K mg φ) : ∃ ds, Vals ([] : List V) ds ∧ Binds K φ.l_of p_l_of ds :=
  ⟨[], .nil, T.f_l_of.bindsN fun _ _ _ _ _ _ us hl => match us, hl with | [_, _], _ => rfl⟩
theorem b_l_mid_2 {K : PySem.W.Frag} {mg : Str → Option Value} {φ : Fds} (T : Txt K mg φ) : ∃ ds, Vals ([] : List V) ds ∧ Binds K φ.l_mid p_l_mid ds :=
  ⟨[], .nil, T.f_l_mid.bindsN fun _ _ _ _ _ _ us hl => match us, hl with | [_, _], _ => rfl⟩
theorem b_l_less_2 {K : PySem.W.Frag} {mg : Str → Option Value} {φ : Fds} (T : Txt K mg φ) : ∃ ds, Vals ([] : List V) ds ∧ Binds K φ.l_less p_l_less ds :=
  ⟨[], .nil, T.f_l_less.bindsN fun _ _ _ _ _ _ us hl => match us, hl with | [_, _], _ => rfl⟩
theorem b_l_scaled_2 {K : PySem.W.Frag} {mg : Str → Option Value} {φ : Fds} (T : Txt K mg φ) : ∃ ds, Vals ([] : List V) ds ∧ Binds K φ.l_scaled p_l_scaled ds :=
  ⟨[], .nil, T.f_l_scaled.bindsN fun _ _ _ _ _ _ us hl => match us, hl with | [_, _], _ => rfl⟩
theorem b_l_drawn_2 {K : PySem.W.Frag} {mg : Str → Option Value} {φ : Fds} (T : Txt K mg φ) : ∃ ds, Vals ([] : List V) ds ∧ Binds K φ.l_drawn p_l_drawn ds :=
  ⟨[], .nil, T.f_l_drawn.bindsN fun _ _ _ _ _ _ us hl => match us, hl with | [_, _], _ => rfl⟩
theorem b_l_rising_1 {K : PySem.W.Frag} {mg : Str → Option Value} {φ : Fds} (T : Txt K mg φ) : ∃ ds, Vals ([] : List V) ds ∧ Binds K φ.l_rising p_l_rising ds :=
  ⟨[], .nil, T.f_l_rising.bindsN fun _ _ _ _ _ _ us hl => match us, hl with | [_], _ => rfl⟩
theorem b_l_made_1 {K : PySem.W.Frag} {mg : Str → Option Value} {φ : Fds} (T : Txt K mg φ) : ∃ ds, Vals ([] : List V) ds ∧ Binds K φ.l_made p_l_made ds :=
  ⟨[], .nil, T.f_l_made.bindsN fun _ _ _ _ _ _ us hl => match us, hl with | [_], _ => rfl⟩
theorem b_l_points_2 {K : PySem.W.Frag} {mg : Str → Option Value} {φ : Fds} (T : Txt K mg φ) : ∃ ds, Vals ([] : List V) ds ∧ Binds K φ.l_points p_l_points ds :=
  ⟨[], .nil, T.f_l_points.bindsN fun _ _ _ _ _ _ us hl => match us, hl with | [_, _], _ => rfl⟩
theorem b_led_paper_3 {K : PySem.W.Frag} {mg : Str → Option Value} {φ : Fds} (T : Txt K mg φ) : ∃ ds, Vals ([] : List V) ds ∧ Binds K φ.led_paper p_led_paper ds :=
  ⟨[], .nil, T.f_led_paper.bindsN fun _ _ _ _ _ _ us hl => match us, hl with | [_, _, _], _ => rfl⟩
theorem b_shows_led_5 {K : PySem.W.Frag} {mg : Str → Option Value} {φ : Fds} (T : Txt K mg φ) : ∃ ds, Vals ([] : List V) ds ∧ Binds K φ.shows_led p_shows_led ds :=
  ⟨[], .nil, T.f_shows_led.bindsN fun _ _ _ _ _ _ us hl => match us, hl with | [_, _, _, _, _], _ => rfl⟩
theorem b_l_begin_1 {K : PySem.W.Frag} {mg : Str → Option Value} {φ : Fds} (T : Txt K mg φ) : ∃ ds, Vals ([] : List V) ds ∧ Binds K φ.l_begin p_l_begin ds :=
  ⟨[], .nil, T.f_l_begin.bindsN fun _ _ _ _ _ _ us hl => match us, hl with | [_], _ => rfl⟩
theorem b_l_ladders_3 {K : PySem.W.Frag} {mg : Str → Option Value} {φ : Fds} (T : Txt K mg φ) : ∃ ds, Vals ([] : List V) ds ∧ Binds K φ.l_ladders p_l_ladders ds :=
  ⟨[], .nil, T.f_l_ladders.bindsN fun _ _ _ _ _ _ us hl => match us, hl with | [_, _, _], _ => rfl⟩
theorem b_l_right_2 {K : PySem.W.Frag} {mg : Str → Option Value} {φ : Fds} (T : Txt K mg φ) : ∃ ds, Vals ([] : List V) ds ∧ Binds K φ.l_right p_l_right ds :=
  ⟨[], .nil, T.f_l_right.bindsN fun _ _ _ _ _ _ us hl => match us, hl with | [_, _], _ => rfl⟩
theorem ok_is_whole {P : Program} {w : World} {K : PySem.W.Frag} {mg : Str → Option Value} {base : Heap} {φ : Fds} (T : Txt K mg φ) : FnOk P w K mg base CX0 1 (He.fAd K ("is_whole", none)) φ.is_whole p_is_whole sp_whole := by
  refine T.f_is_whole.ok sc_is_whole (fun vs H Q E h => ?_) (fun cdv A outer s H vs Q E hr h => ?_)
  · obtain ⟨n, rfl, k⟩ := h; rfl
  · obtain ⟨n, rfl, k⟩ := h
    refine ⟨_, PSs.nox (pss_one (ps_ret (pe_and (pe_callB (id := "isinstance") (isi (K := K)) (by rfl) T.z_isinstance (by decide +kernel) (pa_cons (pv 0) (pa_cons (pe_bltn (v := .ty "int") rfl T.z_int (by decide +kernel) rfl) pa_nil))) (pe_one (pe_not (pe_callB (id := "isinstance") (isi (K := K)) (by rfl) T.z_isinstance (by decide +kernel) (pa_cons (pv 0) (pa_cons (pe_bltn (v := .ty "bool") rfl T.z_bool (by decide +kernel) rfl) pa_nil)))))))), ?_⟩
    refine ⟨_, rfl, _, _, _, _, _, rfl, .ty _, .base (.int _), kit_ty (r := true) (by decide +kernel), _, rfl, ?_⟩
    refine iteT ?_
    refine ⟨_, rfl, _, _, _, _, _, rfl, .ty _, .base (.int _), kit_ty (r := false) (by decide +kernel), _, rfl, ?_⟩
    exact k
theorem ok_common_part {P : Program} {w : World} {K : PySem.W.Frag} {mg : Str → Option Value} {base : Heap} {φ : Fds} (T : Txt K mg φ) : FnOk P w K mg base CX0 1 (He.fAd K ("common_part", none)) φ.common_part p_common_part sp_common := by
  refine T.f_common_part.ok sc_common_part (fun vs H Q E h => ?_) (fun cdv A outer s H vs Q E hr h => ?_)
  · obtain ⟨a, b, rfl, k⟩ := h; rfl
  · obtain ⟨a, b, rfl, k⟩ := h
    refine ⟨_, PSs.nox (pss_cons (ps_par (i := 2) (j := 3) rfl sc_common_part.nd rfl rfl (by decide) rfl rfl (pa_cons (pe_callB (id := "abs") call_abs (by rfl) T.z_abs (by decide +kernel) (pa_cons (pv 0) pa_nil)) (pa_cons (pe_callB (id := "abs") call_abs (by rfl) T.z_abs (by decide +kernel) (pa_cons (pv 1) pa_nil)) pa_nil)) (by rfl))
      (pss_cons (ps_while PassesOwn.never (pt_cmpR op_gt (pv 3) pe_int (nomark _))
      (pss_one (ps_par (i := 2) (j := 3) rfl sc_common_part.nd rfl rfl (by decide) rfl rfl (pa_cons (pv 3) (pa_cons (pe_op op_mod (pv 2) (pv 3)) pa_nil)) (by rfl))))
      (pss_one (ps_ret (pv 2))))), ?_⟩
    refine ⟨_, rfl, _, rfl, _, rfl, _, rfl, _, _, rfl, ?_⟩
    refine while_by (fun σ H' => H' = H ∧ ∃ g s : Int, σ = [some (.int a), some (.int b), some (.int g), some (.int s)] ∧ 0 ≤ g ∧ 0 ≤ s ∧ Int.gcd g s = Int.gcd a b)
      (fun σ _ => match σ with | [_, _, _, some (.int s)] => s.toNat | _ => 0) ⟨rfl, _, _, rfl, ?_, ?_, ?_⟩ ?_ (fun σ H Q Q' hQ ⟨v, e1, i, j, e2, e3, c, e4, q⟩ => ⟨v, e1, i, j, e2, e3, c, e4, hQ _ _ q⟩)
    · split <;> omega
    · split <;> omega
    · have e1 : (if a < 0 then -a else a) = (a.natAbs : Int) := by split <;> omega
      have e2 : (if b < 0 then -b else b) = (b.natAbs : Int) := by split <;> omega
      rw [e1, e2]
      rfl
    · rintro σ H' ⟨rfl, g, s, rfl, hg, hs, e⟩
      refine ⟨_, rfl, _, _, rfl, rfl, _, rfl, ?_⟩
      refine ite2 (fun c => ?_) (fun c => ?_)
      · have c0 : 0 < s := of_decide_eq_true c
        refine ⟨_, rfl, _, rfl, _, rfl, _, _, rfl, rfl, c0, _, _, rfl, ?_⟩
        refine ⟨⟨rfl, s, g % s, rfl, hs, Int.emod_nonneg _ (by omega), (gcd_step c0 hg).trans e⟩, ?_⟩
        show (g % s).toNat < s.toNat
        have h1 := Int.emod_nonneg g (show s ≠ 0 by omega)
        have h2 := Int.emod_lt_of_pos g c0
        omega
      · have c0 : ¬ 0 < s := fun z => c (decide_eq_true z)
        have s0 : s = 0 := by omega
        subst s0
        refine ⟨_, rfl, ?_⟩
        have eg : g = (Int.gcd a b : Int) := by
          rw [← e, Int.gcd_zero_right]
          omega
        rw [eg]
        exact k
theorem ok_Measure_init {P : Program} {w : World} {K : PySem.W.Frag} {mg : Str → Option Value} {base : Heap} {φ : Fds} (T : Txt K mg φ) : FnOk P w K mg base CX0 2 (He.fAd K ("Measure", some "__init__")) φ.Measure_init p_Measure_init (sp_minit (He.ga K "Measure")) := by
  obtain ⟨_, B0v, B0⟩ := b_is_whole_1 T
  obtain ⟨_, B1v, B1⟩ := b_common_part_2 T
  refine T.f_Measure_init.ok sc_Measure_init (fun vs H Q E h => ?_) (fun cdv A outer s H vs Q E hr h => ?_)
  · obtain ⟨p, dx, a, b, rfl, hp, hb, hl, k⟩ := h; rfl
  · obtain ⟨p, dx, a, b, rfl, hp, hb, hl, k⟩ := h
    refine ⟨_, PSs.nox (pss_cons (ps_if (PW.pt (pw_or (pt_not (pt_val (pe_call (ok_is_whole (K := K) T) (hr.mono (by decide)) rfl T.g_is_whole T.f_is_whole.kp B0 B0v pass0 (pa_cons (pv 1) pa_nil)))) (pw_or1 (pt_not (pt_val (pe_call (ok_is_whole (K := K) T) (hr.mono (by decide)) rfl T.g_is_whole T.f_is_whole.kp B0 B0v pass0 (pa_cons (pv 2) pa_nil)))))))
      (pss_one ps_never)
      pss_nil)
      (pss_cons (ps_if (pt_cmpR op_eq (pv 2) pe_int (nomark _))
      (pss_one ps_never)
      pss_nil)
      (pss_cons (ps_set (i := 3) sc_Measure_init.nd rfl (Or.inl rfl) (pe_call (ok_common_part (K := K) T) (hr.mono (by decide)) rfl T.g_common_part T.f_common_part.kp B1 B1v pass0 (pa_cons (pv 1) (pa_cons (pv 2) pa_nil))))
      (pss_cons (ps_cut (ps_if (pt_cmpR op_lt (pv 2) pe_int (nomark _))
      (pss_one (ps_set (i := 3) sc_Measure_init.nd rfl (Or.inl rfl) (pe_un un_neg (pv 3))))
      pss_nil))
      (pss_cons (ps_fld (pv 0) (pe_op op_fd (pv 1) (pv 3)) rfl)
      (pss_one (ps_fld (pv 0) (pe_op op_fd (pv 2) (pv 3)) rfl))))))), ?_⟩
    refine ⟨_, rfl, a, rfl, _, rfl, ?_⟩
    refine iteF ?_
    refine ⟨_, rfl, b, rfl, _, rfl, ?_⟩
    refine iteF ?_
    refine ⟨_, rfl, rfl, _, rfl, ?_⟩
    rw [dI]
    refine ite2 (fun e => absurd (of_decide_eq_true e) hb) (fun _ => ?_)
    refine ⟨_, rfl, _, rfl, a, b, rfl, ?_⟩
    refine ⟨fun σ' H' => H' = H ∧ ∃ c : Int, c = sgn b * (Int.gcd a b : Int) ∧ σ' = [some (.ref p), some (.int a), some (.int b), some (.int c)], ?_, ?_⟩
    · refine ⟨_, rfl, _, _, rfl, rfl, _, rfl, ?_⟩
      refine ite2 (fun e => ?_) (fun e => ?_)
      · have e0 : b < 0 := of_decide_eq_true e
        refine ⟨_, rfl, _, rfl, rfl, _, ?_, rfl⟩
        unfold sgn
        rw [if_neg (by omega), Int.neg_one_mul]
      · have e0 : ¬ b < 0 := fun z => e (decide_eq_true z)
        refine ⟨rfl, _, ?_, rfl⟩
        unfold sgn
        rw [if_pos (by omega), Int.one_mul]
    · rintro σ' H' ⟨rfl, c, hc, rfl⟩
      obtain ⟨c0, cl, fr⟩ := fr_mk hb hc
      have c9 : c.natAbs.log2 < 9000 := by
        refine Nat.lt_of_le_of_lt ?_ hl
        exact (Nat.le_log2 (by omega)).mpr (Nat.le_trans (Nat.log2_self_le (by omega)) cl)
      refine ⟨_, rfl, _, rfl, _, _, rfl, rfl, ⟨c0, c9⟩, _, rfl, p, _, dx, _, rfl, hp, T.cl_Measure, T.na_Measure_top, (by show 0 < 1000; decide), ?_⟩
      refine ⟨_, rfl, _, rfl, _, _, rfl, rfl, ⟨c0, c9⟩, _, rfl, p, _, dx, _, rfl, upd_same, T.cl_Measure, T.na_Measure_bottom, (by show 1 < 1000; decide), ?_⟩
      refine k _ _ _ fr ?_ fun q o e nq => ?_
      · rw [upd_same, mf_put]
      · rw [upd_ne nq, upd_ne nq]
        exact e
theorem ok_Measure_is_below {P : Program} {w : World} {K : PySem.W.Frag} {mg : Str → Option Value} {base : Heap} {φ : Fds} (T : Txt K mg φ) : FnOk P w K mg base CX0 1 (He.fAd K ("Measure", some "is_below")) φ.Measure_is_below p_Measure_is_below (sp_below (He.ga K "Measure")) := by
  refine T.f_Measure_is_below.ok sc_Measure_is_below (fun vs H Q E h => ?_) (fun cdv A outer s H vs Q E hr h => ?_)
  · obtain ⟨p, q, t, u, t', u', al, rfl, ⟨dp, hp⟩, ⟨dq, hq⟩, st, su, st', su', k⟩ := h; rfl
  · obtain ⟨p, q, t, u, t', u', al, rfl, ⟨dp, hp⟩, ⟨dq, hq⟩, st, su, st', su', k⟩ := h
    refine ⟨_, PSs.nox (pss_cons (ps_set (i := 3) sc_Measure_is_below.nd rfl (Or.inl rfl) (pe_op op_mulA (fldK (K := K) (pv 0) rfl) (fldK (K := K) (pv 1) rfl)))
      (pss_cons (ps_set (i := 4) sc_Measure_is_below.nd rfl (Or.inl rfl) (pe_op op_mulA (fldK (K := K) (pv 1) rfl) (fldK (K := K) (pv 0) rfl)))
      (pss_one (ps_ret (pe_or (pe_cmpR op_lt (pv 3) (pv 4) (nomark _)) (pe_one (pe_and (pv 2) (pe_one (pe_cmpR op_eq (pv 3) (pv 4) (nomark _)))))))))), ?_⟩
    refine ⟨_, rfl, _, _, _, _, _, rfl, hp, T.cl_Measure, T.na_Measure_top, mf_top _ _, _, rfl, _, _, _, _, _, rfl, hq, T.cl_Measure, T.na_Measure_bottom, mf_bottom _ _, _, _, rfl, rfl, st.cmul su' (by decide) (by decide) (by decide), ?_⟩
    refine ⟨_, rfl, _, _, _, _, _, rfl, hq, T.cl_Measure, T.na_Measure_top, mf_top _ _, _, rfl, _, _, _, _, _, rfl, hp, T.cl_Measure, T.na_Measure_bottom, mf_bottom _ _, _, _, rfl, rfl, st'.cmul su (by decide) (by decide) (by decide), ?_⟩
    refine ⟨_, rfl, _, rfl, _, _, rfl, rfl, _, rfl, ?_⟩
    have e : ∀ b : Bool, b = lessA t u t' u' al → Q (.bl b) H := fun b z => by rw [z]; exact k
    refine ite2 (fun c => e _ ?_) (fun c => ?_)
    · unfold lessA
      rw [c]
      rfl
    · have c0 : decide (t * u' < t' * u) = false := by simpa using c
      refine ⟨_, rfl, _, rfl, ?_⟩
      cases al with
      | false =>
        refine iteF (e _ ?_)
        unfold lessA
        rw [c0]
        rfl
      | true =>
        refine iteT ?_
        refine ⟨_, rfl, _, rfl, rfl, e _ ?_⟩
        unfold lessA
        rw [c0, dI]
        rfl
theorem ok_slip_of {P : Program} {w : World} {K : PySem.W.Frag} {mg : Str → Option Value} {base : Heap} {φ : Fds} (T : Txt K mg φ) : FnOk P w K mg base CX0 2 (He.fAd K ("slip_of", none)) φ.slip_of p_slip_of (sp_slip K (He.ga K "Measure")) := by
  obtain ⟨_, B0v, B0⟩ := b_Measure_is_below_2 T
  refine T.f_slip_of.ok sc_slip_of (fun vs H Q E h => ?_) (fun cdv A outer s H vs Q E hr h => ?_)
  · obtain ⟨T', k, ps, zs, rfl, hT, hm, hk, hl, kk⟩ := h; rfl
  · obtain ⟨T', k, ps, zs, rfl, hT, hm, hk, hl, kk⟩ := h
    refine ⟨_, PSs.nox (pss_cons (ps_for PassesOwn.never rfl (pi_range2 rfl T.z_range (pa_cons pe_int (pa_cons (pe_callB (id := "len") (lenS (K := K)) (by rfl) T.z_len PySem.boot_len (pa_cons (pv 0) pa_nil)) pa_nil))) (pg_name (i := 1) sc_slip_of.nd rfl (Or.inl rfl))
      (pss_one (ps_if (pt_not (pt_val (pe_meth (pe_ix (ixt (K := K)) (pv 0) (pe_op op_sub (pv 1) pe_int) (fun _ _ => rfl)) T.cl_Measure T.me_Measure_is_below (ok_Measure_is_below (K := K) T) (hr.mono (by decide)) B0 B0v pass0 (pa_cons (pe_ix (ixt (K := K)) (pv 0) (pv 1) (fun _ _ => rfl)) pa_nil))))
      (pss_one (ps_ret (pv 1)))
      pss_nil)))
      (pss_one (ps_ret pe_non))), ?_⟩
    have el : ((ps.length : Nat) : Int) = (zs.length : Int) := by rw [hm.len]
    walk_at "w"
    refine for_range (fun i σ H' => H' = H ∧ (∃ v, σ = [some (.ref T'), v]) ∧ ∀ j a b, j < i → zs[j]? = some a → zs[j + 1]? = some b → ltq a b = true) ⟨rfl, ⟨_, rfl⟩, fun j a b z => by omega⟩ ?_ ?_
    · rintro i σ H1 hi ⟨rfl, ⟨v, rfl⟩, hp⟩
      obtain ⟨a, ha⟩ := ge2 (zs := zs) (n := i) (by omega)
      obtain ⟨b, hb⟩ := ge2 (zs := zs) (n := i + 1) (by omega)
      obtain ⟨p, ep, qp⟩ := hm.at ha
      obtain ⟨q, eq, qq⟩ := hm.at hb
      walk_at "w"
      refine ⟨atI_of (n := i) (by omega) ep, ?_⟩
      walk_at "w"
      refine ⟨atI_of (n := i + 1) (by omega) eq, ?_⟩
      walk_at "w"
      cases e : ltq a b with
      | false =>
        refine iteT ⟨_, rfl, ?_⟩
        have z : (1 : Int) + i = ((i + 1 : Nat) : Int) := by omega
        rw [z]
        refine kk (some (i + 1)) ⟨by omega, by omega, fun a' b' h1 h2 => ?_, fun j a' b' hj h1 h2 => hp j a' b' (by omega) h1 h2⟩
        rw [Nat.add_sub_cancel, ha] at h1
        rw [hb] at h2
        cases h1; cases h2
        exact e
      | true =>
        refine iteF ⟨rfl, ⟨_, rfl⟩, fun j a' b' hj h1 h2 => ?_⟩
        by_cases hji : j < i
        · exact hp j a' b' hji h1 h2
        · have : j = i := by omega
          subst this
          rw [ha] at h1
          rw [hb] at h2
          cases h1; cases h2
          exact e
    · rintro σ H1 ⟨rfl, ⟨v, rfl⟩, hp⟩
      refine kk none fun j a b h1 h2 => hp j a b ?_ h1 h2
      have := (List.getElem?_eq_some_iff.mp h2).1
      omega
theorem ok_is_measure_or_none {P : Program} {w : World} {K : PySem.W.Frag} {mg : Str → Option Value} {base : Heap} {φ : Fds} (T : Txt K mg φ) : FnOk P w K mg base CX0 1 (He.fAd K ("is_measure_or_none", none)) φ.is_measure_or_none p_is_measure_or_none (sp_isend (He.ga K "Measure")) := by
  refine T.f_is_measure_or_none.ok sc_is_measure_or_none (fun vs H Q E h => ?_) (fun cdv A outer s H vs Q E hr h => ?_)
  · obtain ⟨v, m, rfl, hv, k⟩ := h; rfl
  · obtain ⟨v, m, rfl, hv, k⟩ := h
    refine ⟨_, PSs.nox (pss_one (ps_ret (pe_or (pe_cmpR op_isN (pv 0) pe_non (nomark _)) (pe_one (pe_callB (id := "isinstance") (isi (K := K)) (by rfl) T.z_isinstance (by decide +kernel) (pa_cons (pv 0) (pa_cons (pe_glob (v := .ref (He.ga K "Measure")) rfl T.g_Measure rfl) pa_nil))))))), ?_⟩
    refine ⟨_, rfl, rfl, _, rfl, ?_⟩
    cases m with
    | none => cases hv; exact iteT k
    | some a =>
      obtain ⟨p, rfl, dx, hp⟩ := hv
      refine iteF ?_
      exact ⟨_, rfl, _, _, _, _, true, rfl, .own _, tyM hp T.cl_Measure T.ii_Measure, T.k_Measure_Measure, k⟩
theorem ok_are_marks {P : Program} {w : World} {K : PySem.W.Frag} {mg : Str → Option Value} {base : Heap} {φ : Fds} (T : Txt K mg φ) : FnOk P w K mg base CX0 1 (He.fAd K ("are_marks", none)) φ.are_marks p_are_marks (sp_arem K (He.ga K "Measure")) := by
  refine T.f_are_marks.ok sc_are_marks (fun vs H Q E h => ?_) (fun cdv A outer s H vs Q E hr h => ?_)
  · obtain ⟨T', k, ps, zs, rfl, hT, hm, h0, h1, kk⟩ := h; rfl
  · obtain ⟨T', k, ps, zs, rfl, hT, hm, h0, h1, kk⟩ := h
    refine ⟨_, PSs.nox (pss_cons (ps_if (PW.pt (pw_or (pt_not (pt_val (pe_callB (id := "isinstance") (isi (K := K)) (by rfl) T.z_isinstance (by decide +kernel) (pa_cons (pv 0) (pa_cons (pe_bltn (v := .ty "tuple") rfl T.z_tuple (by decide +kernel) rfl) pa_nil))))) (pw_or1 (pt_not (pt_chain op_le op_le pe_int (pe_callB (id := "len") (lenS (K := K)) (by rfl) T.z_len PySem.boot_len (pa_cons (pv 0) pa_nil)) (C8.pe_gc (v := .int 24) rfl (T.v_MOST_MARKS.elim fun t e => ⟨_, e, ⟨t, rfl⟩⟩)))))))
      (pss_one (ps_ret pe_bl))
      pss_nil)
      (pss_one (ps_ret (pe_callB (id := "all") (allK (K := K)) (by rfl) T.z_all (by decide +kernel) (pa_cons (pe_lc (own := [("mark", 1)]) (g := gName 1) rfl sc_are_marks.nd (pi_tup (pv 0)) (blkOk_by (own := [("mark", 1)]) (N := N_are_marks) (sc := (defScope s_are_marks)) (by decide +kernel)) (fun _ _ _ _ _ => (pg_name (i := 1) sc_are_marks.nd rfl (Or.inl rfl))) (fun _ _ _ _ _ => pts_nil) (fun _ _ _ _ _ => (pe_callB (id := "isinstance") (isi (K := K)) (by rfl) T.z_isinstance (by decide +kernel) (pa_cons (pv 1) (pa_cons (pe_glob (v := .ref (He.ga K "Measure")) rfl T.g_Measure rfl) pa_nil))))) pa_nil))))), ?_⟩
    have el : ps.length = zs.length := hm.len
    refine ⟨_, rfl, _, _, _, _, _, rfl, .ty _, tyTup hT, kit_ty (r := true) (by decide +kernel), _, rfl, iteF ?_⟩
    walk_at "w"
    refine ⟨⟨_, hT⟩, fun D nD => ?_⟩
    refine lcz (n := ps.length) walk_tup (fun _ _ g s => s.sqt g) (List.replicate ps.length (some (V.bl true))) (by simp) (by rw [sizeLine_eq]; omega) hT nD (fun i x H1 H2 z N M hi hz s1 y hN hM => ?_) (fun H1 s1 hD => ?_)
    · obtain ⟨rfl, hx⟩ := y
      obtain ⟨p, z1, rfl, _, qz⟩ := (hm.same s1).of hx
      obtain ⟨⟨t, u, ⟨dx, hp⟩, _⟩, _⟩ := qz
      rw [List.getElem?_replicate, if_pos hi] at hz
      cases hz
      refine ⟨rfl, yesT ?_⟩
      exact ⟨_, rfl, _, _, _, _, _, rfl, .own _, tyM hp T.cl_Measure T.ii_Measure, T.k_Measure_Measure, hN _ _ rfl (Same.refl _)⟩
    have e : (List.replicate ps.length (some (V.bl true))).filterMap _root_.id = (List.replicate ps.length true).map V.bl := by
      generalize ps.length = n
      induction n with
      | zero => rfl
      | succ n ih => rw [List.replicate_succ, List.replicate_succ]; simpa using ih
    rw [e] at hD
    refine ⟨D, _, rfl, SqL.of hD, ?_⟩
    have e2 : (List.replicate ps.length true).all _root_.id = true := by
      generalize ps.length = n
      induction n with
      | zero => rfl
      | succ n ih => rw [List.replicate_succ]; simpa using ih
    rw [e2]
    exact kk _ s1
theorem ok_is_rule {P : Program} {w : World} {K : PySem.W.Frag} {mg : Str → Option Value} {base : Heap} {φ : Fds} (T : Txt K mg φ) : FnOk P w K mg base CX0 1 (He.fAd K ("is_rule", none)) φ.is_rule p_is_rule sp_isrule := by
  refine T.f_is_rule.ok sc_is_rule (fun vs H Q E h => ?_) (fun cdv A outer s H vs Q E hr h => ?_)
  · obtain ⟨r, rfl, hr', kk⟩ := h; rfl
  · obtain ⟨r, rfl, hr', kk⟩ := h
    refine ⟨_, PSs.nox (pss_one (ps_ret (pe_and (pe_callB (id := "isinstance") (isi (K := K)) (by rfl) T.z_isinstance (by decide +kernel) (pa_cons (pv 0) (pa_cons (pe_bltn (v := .ty "str") rfl T.z_str (by decide +kernel) rfl) pa_nil))) (pe_one (pe_cmpR (inK (K := K)) (pv 0) (pe_glob (v := .ref (He.ga K "RULES")) rfl T.g_RULES rfl) (by rfl)))))), ?_⟩
    refine ⟨_, rfl, _, _, _, _, _, rfl, .ty _, .base (.str _), kit_ty (r := true) (by decide +kernel), _, rfl, iteT ?_⟩
    refine ⟨_, rfl, _, _, rfl, .inr (T.tp_RULES H), rfl, rfl, ?_⟩
    have e : inV (.str r) (([Str.ofString "up", Str.ofString "down", Str.ofString "near"] : List Str).map V.str) = true := by
      rcases hr' with rfl | rfl | rfl <;> decide +kernel
    simp only [Bool.false_eq_true, if_false]
    rw [e]
    exact kk
theorem ok_is_span {P : Program} {w : World} {K : PySem.W.Frag} {mg : Str → Option Value} {base : Heap} {φ : Fds} (T : Txt K mg φ) : FnOk P w K mg base CX0 2 (He.fAd K ("is_span", none)) φ.is_span p_is_span (sp_span (He.ga K "Measure")) := by
  obtain ⟨_, B0v, B0⟩ := b_Measure_is_below_3 T
  refine T.f_is_span.ok sc_is_span (fun vs H Q E h => ?_) (fun cdv A outer s H vs Q E hr h => ?_)
  · obtain ⟨l, h, k, lo, hi, rfl, ql, qh, hk, kk⟩ := h; rfl
  · obtain ⟨l, h, k, lo, hi, rfl, ql, qh, hk, kk⟩ := h
    refine ⟨_, PSs.nox (pss_one (ps_ret (pe_or (pe_cmpR op_isN (pv 0) pe_non (nomark _)) (pe_or (pe_cmpR op_isN (pv 1) pe_non (nomark _)) (pe_one (pe_meth (pv 0) T.cl_Measure T.me_Measure_is_below (ok_Measure_is_below (K := K) T) (hr.mono (by decide)) B0 B0v pass0 (pa_cons (pv 1) (pa_cons pe_bl pa_nil)))))))), ?_⟩
    cases lo with
    | none =>
      cases ql
      walk_at "w"
      exact kk
    | some a =>
      obtain ⟨pl, rfl, qa⟩ := ql
      cases hi with
      | none =>
        cases qh
        walk_at "w"
        exact kk
      | some b =>
        obtain ⟨ph, rfl, qb⟩ := qh
        rw [span_leq] at kk
        walk_at "w"
        exact kk
theorem ok_Ladder_init {P : Program} {w : World} {K : PySem.W.Frag} {mg : Str → Option Value} {base : Heap} {φ : Fds} (T : Txt K mg φ) : FnOk P w K mg base CX0 3 (He.fAd K ("Ladder", some "__init__")) φ.Ladder_init p_Ladder_init (sp_linit K (He.ga K "Measure") (He.ga K "Ladder")) := by
  obtain ⟨_, B0v, B0⟩ := b_are_marks_1 T
  obtain ⟨_, B1v, B1⟩ := b_is_rule_1 T
  obtain ⟨_, B2v, B2⟩ := b_is_measure_or_none_1 T
  obtain ⟨_, B3v, B3⟩ := b_is_span_2 T
  obtain ⟨_, B4v, B4⟩ := b_slip_of_1 T
  refine T.f_Ladder_init.ok sc_Ladder_init (fun vs H Q E h => ?_) (fun cdv A outer s H vs Q E hr h => ?_)
  · obtain ⟨p, dx, T', k, ps, zs, r, l, h, lo, hi, rfl, hp, hT, hm, hk, h0, h1, hri, hru, ql, qh, hsp, kk⟩ := h; rfl
  · obtain ⟨p, dx, T', k, ps, zs, r, l, h, lo, hi, rfl, hp, hT, hm, hk, h0, h1, hri, hru, ql, qh, hsp, kk⟩ := h
    refine ⟨_, PSs.nox (pss_cons (ps_if (pt_not (pt_val (pe_call (ok_are_marks (K := K) T) (hr.mono (by decide)) rfl T.g_are_marks T.f_are_marks.kp B0 B0v pass0 (pa_cons (pv 1) pa_nil))))
      (pss_one ps_never)
      pss_nil)
      (pss_cons (ps_if (pt_not (pt_val (pe_call (ok_is_rule (K := K) T) (hr.mono (by decide)) rfl T.g_is_rule T.f_is_rule.kp B1 B1v pass0 (pa_cons (pv 2) pa_nil))))
      (pss_one ps_never)
      pss_nil)
      (pss_cons (ps_if (PW.pt (pw_or (pt_not (pt_val (pe_call (ok_is_measure_or_none (K := K) T) (hr.mono (by decide)) rfl T.g_is_measure_or_none T.f_is_measure_or_none.kp B2 B2v pass0 (pa_cons (pv 3) pa_nil)))) (pw_or1 (pt_not (pt_val (pe_call (ok_is_measure_or_none (K := K) T) (hr.mono (by decide)) rfl T.g_is_measure_or_none T.f_is_measure_or_none.kp B2 B2v pass0 (pa_cons (pv 4) pa_nil)))))))
      (pss_one ps_never)
      pss_nil)
      (pss_cons (ps_if (pt_not (pt_val (pe_call (ok_is_span (K := K) T) (hr.mono (by decide)) rfl T.g_is_span T.f_is_span.kp B3 B3v pass0 (pa_cons (pv 3) (pa_cons (pv 4) pa_nil)))))
      (pss_one ps_never)
      pss_nil)
      (pss_cons (ps_set (i := 5) sc_Ladder_init.nd rfl (Or.inl rfl) (pe_call (ok_slip_of (K := K) T) (hr.mono (by decide)) rfl T.g_slip_of T.f_slip_of.kp B4 B4v pass0 (pa_cons (pv 1) pa_nil)))
      (pss_cons (ps_if (pt_cmpR op_notN (pv 5) pe_non (nomark _))
      (pss_one ps_never)
      pss_nil)
      (pss_cons (ps_fld (pv 0) (pv 1) rfl)
      (pss_cons (ps_fld (pv 0) (pv 2) rfl)
      (pss_cons (ps_fld (pv 0) (pv 3) rfl)
      (pss_one (ps_fld (pv 0) (pv 4) rfl))))))))))), ?_⟩
    obtain ⟨mlo, mql, _, _⟩ := ql.low hk
    obtain ⟨mhi, mqh, _, _⟩ := qh.low hk
    have cl_Ladder := T.cl_Ladder
    have na_Ladder_marks := T.na_Ladder_marks
    have na_Ladder_rule := T.na_Ladder_rule
    have na_Ladder_least := T.na_Ladder_least
    have na_Ladder_most := T.na_Ladder_most
    
    walk_at "w"
    refine ⟨zs, rfl, hT, hm, h0, h1, fun H1 s1 => ?_⟩
    walk_at "w"
    refine ⟨mlo, rfl, mql.same s1, ?_⟩
    walk_at "w"
    refine ⟨mhi, rfl, mqh.same s1, ?_⟩
    have hT1 := s1.sqt hT
    have hm1 := hm.same s1
    replace ql := ql.same s1
    replace qh := qh.same s1
    have hp1 := s1 _ _ hp
    walk_at "w"
    refine ⟨lo, hi, rfl, ql, qh, by omega, ?_⟩
    rw [hsp]
    walk_at "w"
    refine ⟨zs, rfl, hT1, hm1, by omega, by omega, fun o ho => ?_⟩
    have eo : o = none := by
      cases o with
      | none => rfl
      | some n =>
        obtain ⟨n1, n2, n3, _⟩ := ho
        obtain ⟨a, ha⟩ := ge2 (zs := zs) (n := n - 1) (by omega)
        obtain ⟨b, hb⟩ := ge2 (zs := zs) (n := n) n2
        have z1 := n3 a b ha hb
        have z2 := hri (n - 1) a b ha (by rw [Nat.sub_add_cancel n1]; exact hb)
        rw [z1] at z2
        cases z2
    subst eo
    walk_at "w"
    refine ⟨by show 0 < 1000; decide, ?_⟩
    refine ⟨_, rfl, _, rfl, p, _, dx, _, rfl, upd_same, cl_Ladder, na_Ladder_rule, by show 1 < 1000; decide, ?_⟩
    refine ⟨_, rfl, _, rfl, p, _, dx, _, rfl, upd_same, cl_Ladder, na_Ladder_least, by show 2 < 1000; decide, ?_⟩
    refine ⟨_, rfl, _, rfl, p, _, dx, _, rfl, upd_same, cl_Ladder, na_Ladder_most, by show 3 < 1000; decide, ?_⟩
    refine kk _ ?_ fun c o ec nc => ?_
    · rw [upd_same, lf_put]
    · rw [upd_ne nc, upd_ne nc, upd_ne nc, upd_ne nc]
      exact s1 _ _ ec
theorem ok_Measure_plus {P : Program} {w : World} {K : PySem.W.Frag} {mg : Str → Option Value} {base : Heap} {φ : Fds} (T : Txt K mg φ) : FnOk P w K mg base CX0 4 (He.fAd K ("Measure", some "plus")) φ.Measure_plus p_Measure_plus (sp_bin2 (He.ga K "Measure") (fun t u t' u' => t * u' + t' * u) (fun t u t' u' => u * u')) := by
  obtain ⟨_, B0v, B0⟩ := b_Measure_init_3 T
  refine T.f_Measure_plus.ok sc_Measure_plus (fun vs H Q E h => ?_) (fun cdv A outer s H vs Q E hr h => ?_)
  · obtain ⟨p, q, t, u, t', u', rfl, ⟨dp, hp⟩, ⟨dq, hq⟩, hu, hu', st, su, st', su', sg, k⟩ := h; rfl
  · obtain ⟨p, q, t, u, t', u', rfl, ⟨dp, hp⟩, ⟨dq, hq⟩, hu, hu', st, su, st', su', sg, k⟩ := h
    refine ⟨_, PSs.nox (pss_one (ps_ret (pe_make T.mk_Measure (ok_Measure_init (K := K) T) (hr.mono (by decide)) rfl T.g_Measure B0 B0v pass0 (pa_cons (pe_op op_add (pe_op op_mulA (fldK (K := K) (pv 0) rfl) (fldK (K := K) (pv 1) rfl)) (pe_op op_mulA (fldK (K := K) (pv 1) rfl) (fldK (K := K) (pv 0) rfl))) (pa_cons (pe_op op_mulA (fldK (K := K) (pv 0) rfl) (fldK (K := K) (pv 1) rfl)) pa_nil))))), ?_⟩
    refine ⟨_, rfl, _, _, _, _, _, rfl, hp, T.cl_Measure, T.na_Measure_top, mf_top _ _, _, rfl, _, _, _, _, _, rfl, hq, T.cl_Measure, T.na_Measure_bottom, mf_bottom _ _, _, _, rfl, rfl, st.cmul su' (by decide) (by decide) (by decide), _, rfl, _, _, _, _, _, rfl, hq, T.cl_Measure, T.na_Measure_top, mf_top _ _, _, rfl, _, _, _, _, _, rfl, hp, T.cl_Measure, T.na_Measure_bottom, mf_bottom _ _, _, _, rfl, rfl, st'.cmul su (by decide) (by decide) (by decide), _, _, rfl, rfl, _, rfl, _, _, _, _, _, rfl, hp, T.cl_Measure, T.na_Measure_bottom, mf_bottom _ _, _, rfl, _, _, _, _, _, rfl, hq, T.cl_Measure, T.na_Measure_bottom, mf_bottom _ _, _, _, rfl, rfl, su.cmul su' (by decide) (by decide) (by decide), ?_⟩
    intro x dx nx nd ne
    refine ⟨x, dx, _, _, rfl, upd_same, Int.mul_ne_zero (by omega) (by omega), sg.log (by decide) (by decide), fun t2 u2 H' fr hx kp => ⟨rfl, ?_⟩⟩
    exact k x t2 u2 H' nx (made_same nx nd kp) ⟨_, hx⟩ fr
theorem ok_Measure_parted {P : Program} {w : World} {K : PySem.W.Frag} {mg : Str → Option Value} {base : Heap} {φ : Fds} (T : Txt K mg φ) : FnOk P w K mg base CX0 4 (He.fAd K ("Measure", some "parted")) φ.Measure_parted p_Measure_parted (sp_part2 (He.ga K "Measure")) := by
  obtain ⟨_, B0v, B0⟩ := b_Measure_init_3 T
  refine T.f_Measure_parted.ok sc_Measure_parted (fun vs H Q E h => ?_) (fun cdv A outer s H vs Q E hr h => ?_)
  · obtain ⟨p, t, u, m, rfl, ⟨dp, hp⟩, hu, hm, st, su, sm, sg, k⟩ := h; rfl
  · obtain ⟨p, t, u, m, rfl, ⟨dp, hp⟩, hu, hm, st, su, sm, sg, k⟩ := h
    refine ⟨_, PSs.nox (pss_one (ps_ret (pe_make T.mk_Measure (ok_Measure_init (K := K) T) (hr.mono (by decide)) rfl T.g_Measure B0 B0v pass0 (pa_cons (fldK (K := K) (pv 0) rfl) (pa_cons (pe_op op_mulA (fldK (K := K) (pv 0) rfl) (pv 1)) pa_nil))))), ?_⟩
    refine ⟨_, rfl, _, _, _, _, _, rfl, hp, T.cl_Measure, T.na_Measure_top, mf_top _ _, _, rfl, _, _, _, _, _, rfl, hp, T.cl_Measure, T.na_Measure_bottom, mf_bottom _ _, _, rfl, _, _, rfl, rfl, su.cmul sm (by decide) (by decide) (by decide), ?_⟩
    intro x dx nx nd ne
    refine ⟨x, dx, _, _, rfl, upd_same, Int.mul_ne_zero (by omega) hm, sg.log (by decide) (by decide), fun t2 u2 H' fr hx kp => ⟨rfl, ?_⟩⟩
    exact k x t2 u2 H' nx (made_same nx nd kp) ⟨_, hx⟩ fr
theorem ok_midsts_of {P : Program} {w : World} {K : PySem.W.Frag} {mg : Str → Option Value} {base : Heap} {φ : Fds} (T : Txt K mg φ) : FnOk P w K mg base CX0 5 (He.fAd K ("midsts_of", none)) φ.midsts_of p_midsts_of (sp_mids K (He.ga K "Measure")) := by
  obtain ⟨_, B0v, B0⟩ := b_Measure_parted_1 T
  obtain ⟨_, B1v, B1⟩ := b_Measure_plus_2 T
  refine T.f_midsts_of.ok sc_midsts_of (fun vs H Q E h => ?_) (fun cdv A outer s H vs Q E hr h => ?_)
  · obtain ⟨T', k, ps, zs, rfl, hT, hm, h0, h1, l0, l1, kk⟩ := h; rfl
  · obtain ⟨T', k, ps, zs, rfl, hT, hm, h0, h1, l0, l1, kk⟩ := h
    refine ⟨_, PSs.nox (pss_one (ps_ret (pe_lc (own := [("at", 1)]) (g := gName 1) rfl sc_midsts_of.nd (pi_range2 rfl T.z_range (pa_cons pe_int (pa_cons (pe_callB (id := "len") (lenS (K := K)) (by rfl) T.z_len PySem.boot_len (pa_cons (pv 0) pa_nil)) pa_nil))) (blkOk_by (own := [("at", 1)]) (N := N_midsts_of) (sc := (defScope s_midsts_of)) (by decide +kernel)) (fun _ _ _ _ _ => (pg_name (i := 1) sc_midsts_of.nd rfl (Or.inl rfl))) (fun _ _ _ _ _ => pts_nil) (fun _ _ _ _ _ => (pe_meth0 (pe_meth (pe_ix (ixt (K := K)) (pv 0) (pe_op op_sub (pv 1) pe_int) (fun _ _ => rfl)) T.cl_Measure T.me_Measure_plus (ok_Measure_plus (K := K) T) (hr.mono (by decide)) B1 B1v pass0 (pa_cons (pe_ix (ixt (K := K)) (pv 0) (pv 1) (fun _ _ => rfl)) pa_nil)) T.cl_Measure T.me_Measure_parted (ok_Measure_parted (K := K) T) (hr.mono (by decide)) B0 B0v pass0))))), ?_⟩
    have el : ps.length = zs.length := hm.len
    walk_at "w"
    intro D nD
    refine lcr walk_range (fun _ _ _ _ => trivial) (fun i H v => ∃ p z, v = .ref p ∧ (midq zs)[i]? = some z ∧ QAt (He.ga K "Measure") H p (k + k + 1 + 10 + 1) z) (fun i H H' y ⟨p, z, e1, e2, q⟩ n => ⟨p, z, e1, e2, q.nl n⟩) (by rw [sizeLine_eq]; omega) trivial nD (fun i x H1 H2 N M hi s1 y hN => ?_) (fun H1 ys s1 hD ly hy => ?_)
    · obtain ⟨rfl, rfl⟩ := y
      obtain ⟨a, ha⟩ := ge2 (zs := zs) (n := i) (by omega)
      obtain ⟨b, hb⟩ := ge2 (zs := zs) (n := i + 1) (by omega)
      obtain ⟨p, ep, qp⟩ := (hm.same s1).at ha
      obtain ⟨q, eq, qq⟩ := (hm.same s1).at hb
      have hT1 := s1.sqt hT
      refine ⟨rfl, yesT ?_⟩
      walk_at "w"
      refine ⟨atI_of (n := i) (by omega) ep, ?_⟩
      walk_at "w"
      refine ⟨atI_of (n := i + 1) (by omega) eq, q_addT qp qq (by omega) h0 h0 fun r H3 s3 R => ?_⟩
      refine meth_q R (by decide +kernel) (by decide +kernel) (q_prt2T R (by omega) (by omega) fun r2 H4 s4 R2 => ?_)
      exact hN _ _ (s3.trans s4) ⟨r2, qhalf a b, rfl, midq_get zs i a b ha hb, R2⟩
    refine kk D ys H1 s1 hD ⟨?_, fun i v z h1 h2 => ?_⟩
    · rw [midq_len, ly]; omega
    · obtain ⟨p, z', e1, e2, q⟩ := hy i v h1
      rw [h2] at e2
      cases e2
      exact ⟨p, e1, q⟩
theorem ok_size_by_rule {P : Program} {w : World} {K : PySem.W.Frag} {mg : Str → Option Value} {base : Heap} {φ : Fds} (T : Txt K mg φ) : FnOk P w K mg base CX0 6 (He.fAd K ("size_by_rule", none)) φ.size_by_rule p_size_by_rule (sp_sizeR K (He.ga K "Measure")) := by
  obtain ⟨_, B0v, B0⟩ := b_Measure_is_below_2 T
  obtain ⟨_, B1v, B1⟩ := b_Measure_is_below_3 T
  obtain ⟨_, B2v, B2⟩ := b_midsts_of_1 T
  refine T.f_size_by_rule.ok sc_size_by_rule (fun vs H Q E h => ?_) (fun cdv A outer s H vs Q E hr h => ?_)
  · obtain ⟨T', q, k, ps, zs, r, x, rfl, hT, hm, qx, h0, h1, l0, l1, kk⟩ := h; rfl
  · obtain ⟨T', q, k, ps, zs, r, x, rfl, hT, hm, qx, h0, h1, l0, l1, kk⟩ := h
    refine ⟨_, PSs.nox (pss_cons (ps_if (pt_cmpR op_eq (pv 1) pe_str (nomark _))
      (pss_one (ps_ret (pe_callB (id := "len") (lenS (K := K)) (by rfl) T.z_len PySem.boot_len (pa_cons (pe_lc (own := [("mark", 3)]) (g := gName 3) rfl sc_size_by_rule.nd (pi_tup (pv 0)) (blkOk_by (own := [("mark", 3)]) (N := N_size_by_rule) (sc := (defScope s_size_by_rule)) (by decide +kernel)) (fun _ _ _ _ _ => (pg_name (i := 3) sc_size_by_rule.nd rfl (Or.inl rfl))) (fun _ _ _ _ _ => (pts_one (pt_val (pe_meth (pv 3) T.cl_Measure T.me_Measure_is_below (ok_Measure_is_below (K := K) T) (hr.mono (by decide)) B0 B0v pass0 (pa_cons (pv 2) pa_nil))))) (fun _ _ _ _ _ => (pv 3))) pa_nil))))
      pss_nil)
      (pss_cons (ps_if (pt_cmpR op_eq (pv 1) pe_str (nomark _))
      (pss_one (ps_ret (pe_op op_sub (pe_callB (id := "len") (lenS (K := K)) (by rfl) T.z_len PySem.boot_len (pa_cons (pe_lc (own := [("mark", 3)]) (g := gName 3) rfl sc_size_by_rule.nd (pi_tup (pv 0)) (blkOk_by (own := [("mark", 3)]) (N := N_size_by_rule) (sc := (defScope s_size_by_rule)) (by decide +kernel)) (fun _ _ _ _ _ => (pg_name (i := 3) sc_size_by_rule.nd rfl (Or.inl rfl))) (fun _ _ _ _ _ => (pts_one (pt_val (pe_meth (pv 3) T.cl_Measure T.me_Measure_is_below (ok_Measure_is_below (K := K) T) (hr.mono (by decide)) B1 B1v pass0 (pa_cons (pv 2) (pa_cons pe_bl pa_nil)))))) (fun _ _ _ _ _ => (pv 3))) pa_nil)) pe_int)))
      pss_nil)
      (pss_one (ps_ret (pe_callB (id := "len") (lenS (K := K)) (by rfl) T.z_len PySem.boot_len (pa_cons (pe_lc (own := [("midst", 4)]) (g := gName 4) rfl sc_size_by_rule.nd (pi_list (pe_call (ok_midsts_of (K := K) T) (hr.mono (by decide)) rfl T.g_midsts_of T.f_midsts_of.kp B2 B2v pass0 (pa_cons (pv 0) pa_nil))) (blkOk_by (own := [("midst", 4)]) (N := N_size_by_rule) (sc := (defScope s_size_by_rule)) (by decide +kernel)) (fun _ _ _ _ _ => (pg_name (i := 4) sc_size_by_rule.nd rfl (Or.inl rfl))) (fun _ _ _ _ _ => (pts_one (pt_val (pe_meth (pv 4) T.cl_Measure T.me_Measure_is_below (ok_Measure_is_below (K := K) T) (hr.mono (by decide)) B1 B1v pass0 (pa_cons (pv 2) (pa_cons pe_bl pa_nil)))))) (fun _ _ _ _ _ => (pv 4))) pa_nil)))))), ?_⟩
    have el : ps.length = zs.length := hm.len
    have fin : ∀ z H', z = sizeR zs r x → Same H H' → Q (.int z) H' := fun z H' e s => by rw [e]; exact kk H' s
    refine ⟨_, rfl, rfl, _, rfl, ?_⟩
    refine ite2 (fun e => ?_) (fun e => ?_)
    · have er : r = "up" := V.str.inj (of_decide_eq_true e)
      walk_at "w"
      refine ⟨⟨_, hT⟩, fun D nD => ?_⟩
      refine lcz (n := ps.length) walk_tup (fun _ _ g s => s.sqt g) (List.zipWith (fun (p : V) (z : Q2) => if ltq z x then some p else none) ps zs) (by rw [List.length_zipWith]; omega) (by rw [sizeLine_eq]; omega) hT nD (fun i v H1 H2 z N M hi hz s1 y hN hM => ?_) (fun H1 s1 hD => ?_)
      · obtain ⟨rfl, hx⟩ := y
        obtain ⟨p, z1, rfl, hz1, qz⟩ := (hm.same s1).of hx
        have ez := zipF_get (f := fun z => ltq z x) hx hz1 hz
        have qx1 := qx.same s1
        refine ⟨rfl, ?_⟩
        walk_at "w"
        show if ltq z1 x = true then _ else _
        cases e : ltq z1 x with
        | true => exact iteT ⟨_, rfl, hN _ _ (by simp [ez, e]) (Same.refl _)⟩
        | false => exact iteF (hM _ (by simp [ez, e]) (Same.refl _))
      have el2 := zipF_len (f := fun z => ltq z x) hm.len
    
      walk_at "w"
      refine fin _ _ ?_ s1
      unfold sizeR
      rw [if_pos er, el2]
    have er : ¬ r = "up" := fun z => e (decide_eq_true (congrArg V.str z))
    refine ⟨_, rfl, rfl, _, rfl, ?_⟩
    refine ite2 (fun e => ?_) (fun e => ?_)
    · have er2 : r = "down" := V.str.inj (of_decide_eq_true e)
      walk_at "w"
      refine ⟨⟨_, hT⟩, fun D nD => ?_⟩
      refine lcz (n := ps.length) walk_tup (fun _ _ g s => s.sqt g) (List.zipWith (fun (p : V) (z : Q2) => if leq z x then some p else none) ps zs) (by rw [List.length_zipWith]; omega) (by rw [sizeLine_eq]; omega) hT nD (fun i v H1 H2 z N M hi hz s1 y hN hM => ?_) (fun H1 s1 hD => ?_)
      · obtain ⟨rfl, hx⟩ := y
        obtain ⟨p, z1, rfl, hz1, qz⟩ := (hm.same s1).of hx
        have ez := zipF_get (f := fun z => leq z x) hx hz1 hz
        have qx1 := qx.same s1
        refine ⟨rfl, ?_⟩
        walk_at "w"
        show if leq z1 x = true then _ else _
        cases e : leq z1 x with
        | true => exact iteT ⟨_, rfl, hN _ _ (by simp [ez, e]) (Same.refl _)⟩
        | false => exact iteF (hM _ (by simp [ez, e]) (Same.refl _))
      have el2 := zipF_len (f := fun z => leq z x) hm.len
    
      walk_at "w"
      refine fin _ _ ?_ s1
      unfold sizeR
      rw [if_neg er, if_pos er2, el2]
    have er2 : ¬ r = "down" := fun z => e (decide_eq_true (congrArg V.str z))
    refine ⟨_, rfl, T', k, ps, zs, rfl, hT, hm, h0, h1, l0, l1, fun D2 ys H0 s0 hD0 hm0 => ?_⟩
    have len0 : ys.length ≤ 24 := by rw [hm0.len, midq_len]; omega
    have qx0 := qx.same s0
    refine ⟨D2, rfl, ⟨_, SqL.of hD0⟩, fun D nD => ?_⟩
    refine lcz (n := ys.length) walk_list (fun _ _ g s => s.seq g) (List.zipWith (fun (p : V) (z : Q2) => if leq z x then some p else none) ys (midq zs)) (by rw [List.length_zipWith, hm0.len, Nat.min_self]) (by rw [sizeLine_eq]; omega) (SqL.of hD0) nD (fun i v H1 H2 z N M hi hz s1 y hN hM => ?_) (fun H1 s1 hD => ?_)
    · obtain ⟨rfl, hx⟩ := y
      obtain ⟨p, z1, rfl, hz1, qz⟩ := (hm0.same s1).of hx
      have ez := zipF_get (f := fun z => leq z x) hx hz1 hz
      have qx1 := qx0.same s1
      refine ⟨rfl, ?_⟩
      walk_at "w"
      show if leq z1 x = true then _ else _
      cases e : leq z1 x with
      | true => exact iteT ⟨_, rfl, hN _ _ (by simp [ez, e]) (Same.refl _)⟩
      | false => exact iteF (hM _ (by simp [ez, e]) (Same.refl _))
    have el2 := zipF_len (f := fun z => leq z x) hm0.len
    walk_at "w"
    refine fin _ _ ?_ (s0.trans s1)
    unfold sizeR
    rw [if_neg er, if_neg er2, el2]
theorem ok_Ladder_size {P : Program} {w : World} {K : PySem.W.Frag} {mg : Str → Option Value} {base : Heap} {φ : Fds} (T : Txt K mg φ) : FnOk P w K mg base CX0 7 (He.fAd K ("Ladder", some "size")) φ.Ladder_size p_Ladder_size (sp_size K (He.ga K "Measure") (He.ga K "Ladder")) := by
  obtain ⟨_, B0v, B0⟩ := b_Measure_is_below_2 T
  obtain ⟨_, B1v, B1⟩ := b_size_by_rule_3 T
  refine T.f_Ladder_size.ok sc_Ladder_size (fun vs H Q E h => ?_) (fun cdv A outer s H vs Q E hr h => ?_)
  · obtain ⟨p, q, k, zs, r, lo, hi, x, rfl, hL, qx, h0, h1, kk⟩ := h; rfl
  · obtain ⟨p, q, k, zs, r, lo, hi, x, rfl, hL, qx, h0, h1, kk⟩ := h
    refine ⟨_, PSs.nox (pss_cons (ps_cut (ps_if (PW.pt (pw_and (pt_cmpR op_notN (fldK (K := K) (pv 0) rfl) pe_non (nomark _)) (pw_and1 (pt_val (pe_meth (pv 1) T.cl_Measure T.me_Measure_is_below (ok_Measure_is_below (K := K) T) (hr.mono (by decide)) B0 B0v pass0 (pa_cons (fldK (K := K) (pv 0) rfl) pa_nil))))))
      (pss_one (ps_ret pe_non))
      pss_nil))
      (pss_cons (ps_cut (ps_if (PW.pt (pw_and (pt_cmpR op_notN (fldK (K := K) (pv 0) rfl) pe_non (nomark _)) (pw_and1 (pt_val (pe_meth (fldK (K := K) (pv 0) rfl) T.cl_Measure T.me_Measure_is_below (ok_Measure_is_below (K := K) T) (hr.mono (by decide)) B0 B0v pass0 (pa_cons (pv 1) pa_nil))))))
      (pss_one (ps_ret pe_non))
      pss_nil))
      (pss_cons (ps_set (i := 2) sc_Ladder_size.nd rfl (Or.inl rfl) (pe_call (ok_size_by_rule (K := K) T) (hr.mono (by decide)) rfl T.g_size_by_rule T.f_size_by_rule.kp B1 B1v pass0 (pa_cons (fldK (K := K) (pv 0) rfl) (pa_cons (fldK (K := K) (pv 0) rfl) (pa_cons (pv 1) pa_nil)))))
      (pss_cons (ps_if (pt_chain op_le op_lt pe_int (pv 2) (pe_callB (id := "len") (lenS (K := K)) (by rfl) T.z_len PySem.boot_len (pa_cons (fldK (K := K) (pv 0) rfl) pa_nil)))
      (pss_one (ps_ret (pv 2)))
      pss_nil)
      (pss_one (ps_ret pe_non)))))), ?_⟩
    have cl_Ladder := T.cl_Ladder
    have na_Ladder_marks := T.na_Ladder_marks
    have na_Ladder_rule := T.na_Ladder_rule
    have na_Ladder_least := T.na_Ladder_least
    have na_Ladder_most := T.na_Ladder_most
    
    obtain ⟨⟨dx, T', ps, l, h, hp, hT, hm, ql, qh⟩, l0, l1, hri, hru, hsp⟩ := hL
    have fin : ∀ o H', o = sizeQ zs r lo hi x → Same H H' → Q (optI o) H' := fun z H' e s => by rw [e]; exact kk H' s
    refine ⟨fun σ' H' => σ' = [some (.ref p), some (.ref q), none] ∧ H' = H ∧ loOk lo x = true, ?_, ?_⟩
    · cases lo with
      | none =>
        cases ql
        walk_at "w"
        walk_at "e"
      | some a =>
        obtain ⟨pl, rfl, qa⟩ := ql
        walk_at "w"
        refine ite2 (fun e => ?_) (fun e => ?_)
        · exact fin none _ (sizeQ_out (inO_lo e)) (Same.refl _)
        · exact ⟨rfl, rfl, by show (!ltq x a) = true; simpa using e⟩
    rintro σ' H' ⟨rfl, rfl, hlo⟩
    refine ⟨fun σ' H'' => σ' = [some (.ref p), some (.ref q), none] ∧ H'' = H' ∧ hiOk hi x = true, ?_, ?_⟩
    · cases hi with
      | none =>
        cases qh
        walk_at "w"
        walk_at "e"
      | some a =>
        obtain ⟨pl, rfl, qa⟩ := qh
        walk_at "w"
        refine ite2 (fun e => ?_) (fun e => ?_)
        · exact fin none _ (sizeQ_out (inO_hi e)) (Same.refl _)
        · exact ⟨rfl, rfl, by show (!ltq a x) = true; simpa using e⟩
    rintro σ' H'' ⟨rfl, rfl, hhi⟩
    have hin : inO lo hi x = true := by unfold inO; rw [hlo, hhi]; rfl
    walk_at "w"
    refine ⟨zs, _, x, rfl, hT, hm, qx, h0, h1, l0, l1, fun H1 s1 => ?_⟩
    have hp1 := s1 _ _ hp
    have hT1 := s1.sqt hT
    have el : ps.length = zs.length := hm.len
    have e0 : sizeQ zs r lo hi x = if 0 ≤ sizeR zs r x ∧ sizeR zs r x < zs.length then some (sizeR zs r x).toNat else none := by
      unfold sizeQ
      rw [if_pos hin]
    walk_at "w"
    by_cases c1 : 0 ≤ sizeR zs r x
    · walk_at "w"
      by_cases c2 : sizeR zs r x < zs.length
      · walk_at "w"
        have e1 : sizeQ zs r lo hi x = some (sizeR zs r x).toNat := by rw [e0, if_pos ⟨c1, c2⟩]
        have z : Q (.int ((sizeR zs r x).toNat : Int)) H1 := fin _ H1 e1.symm s1
        rw [Int.toNat_of_nonneg c1] at z
        exact z
      · walk_at "w"
        refine fin none _ ?_ s1
        rw [e0, if_neg (fun z => c2 z.2)]
    · walk_at "w"
      refine fin none _ ?_ s1
      rw [e0, if_neg (fun z => c1 z.1)]
theorem ok_Measure_eq {P : Program} {w : World} {K : PySem.W.Frag} {mg : Str → Option Value} {base : Heap} {φ : Fds} (T : Txt K mg φ) : FnOk P w K mg base CX0 1 (He.fAd K ("Measure", some "__eq__")) φ.Measure_eq p_Measure_eq (sp_meq (He.ga K "Measure")) := by
  refine T.f_Measure_eq.ok sc_Measure_eq (fun vs H Q E h => ?_) (fun cdv A outer s H vs Q E hr h => ?_)
  · obtain ⟨p, q, a, b, rfl, ⟨dp, hp⟩, ⟨dq, hq⟩, k⟩ := h; rfl
  · obtain ⟨p, q, a, b, rfl, ⟨dp, hp⟩, ⟨dq, hq⟩, k⟩ := h
    refine ⟨_, PSs.nox (pss_one (ps_ret (pe_and (pe_callB (id := "isinstance") (isi (K := K)) (by rfl) T.z_isinstance (by decide +kernel) (pa_cons (pv 1) (pa_cons (pe_glob (v := .ref (He.ga K "Measure")) rfl T.g_Measure rfl) pa_nil))) (pe_and (pe_cmpR op_eq (fldK (K := K) (pv 0) rfl) (fldK (K := K) (pv 1) rfl) (nomark _)) (pe_one (pe_cmpR op_eq (fldK (K := K) (pv 0) rfl) (fldK (K := K) (pv 1) rfl) (nomark _))))))), ?_⟩
    refine ⟨_, rfl, _, _, _, _, true, rfl, .own _, tyM hq T.cl_Measure T.ii_Measure, T.k_Measure_Measure, _, rfl, iteT ?_⟩
    refine ⟨_, rfl, _, _, _, _, _, rfl, hp, T.cl_Measure, T.na_Measure_top, mf_top _ _, _, rfl, _, _, _, _, _, rfl, hq, T.cl_Measure, T.na_Measure_top, mf_top _ _, rfl, _, rfl, ?_⟩
    rw [dI]
    refine ite2 (fun e => ?_) (fun e => ?_)
    · rw [e] at k
      refine ⟨_, rfl, _, _, _, _, _, rfl, hp, T.cl_Measure, T.na_Measure_bottom, mf_bottom _ _, _, rfl, _, _, _, _, _, rfl, hq, T.cl_Measure, T.na_Measure_bottom, mf_bottom _ _, rfl, ?_⟩
      rw [dI]
      exact k
    · rw [isTrueN e] at k
      exact k
theorem ok_is_empty {P : Program} {w : World} {K : PySem.W.Frag} {mg : Str → Option Value} {base : Heap} {φ : Fds} (T : Txt K mg φ) : FnOk P w K mg base CX0 2 (He.fAd K ("is_empty", none)) φ.is_empty p_is_empty (sp_empty (He.ga K "Measure")) := by
  obtain ⟨_, B0v, B0⟩ := b_Measure_eq_2 T
  obtain ⟨_, B1v, B1⟩ := b_Measure_is_below_2 T
  refine T.f_is_empty.ok sc_is_empty (fun vs H Q E h => ?_) (fun cdv A outer s H vs Q E hr h => ?_)
  · obtain ⟨l, h, lo, hi, li, hj, rfl, ml, mh, l1, l2, k⟩ := h; rfl
  · obtain ⟨l, h, lo, hi, li, hj, rfl, ml, mh, l1, l2, k⟩ := h
    refine ⟨_, PSs.nox (pss_cons (ps_if (PW.pt (pw_or (pt_cmpR op_isN (pv 0) pe_non (nomark _)) (pw_or1 (pt_cmpR op_isN (pv 1) pe_non (nomark _)))))
      (pss_one (ps_ret pe_bl))
      pss_nil)
      (pss_cons (ps_if (pt_cmpR (op_eqI (ok_Measure_eq T) (hr.mono (by decide)) T.me_Measure_eq B0 B0v pass0) (pv 0) (pv 1) (nomark _))
      (pss_one (ps_ret (pe_not (pe_cut (pe_and (pv 2) (pe_one (pv 3)))))))
      pss_nil)
      (pss_one (ps_ret (pe_meth (pv 1) T.cl_Measure T.me_Measure_is_below (ok_Measure_is_below (K := K) T) (hr.mono (by decide)) B1 B1v pass0 (pa_cons (pv 0) pa_nil)))))), ?_⟩
    refine ⟨_, rfl, rfl, _, rfl, ?_⟩
    cases lo with
    | none =>
      cases ml
      exact iteT (iteT k)
    | some a =>
      have ml0 := ml
      obtain ⟨p, rfl, dp, hp⟩ := ml
      refine iteF ?_
      refine ⟨_, rfl, rfl, _, rfl, ?_⟩
      cases hi with
      | none =>
        cases mh
        exact iteT k
      | some b =>
        obtain ⟨q, rfl, dq, hq⟩ := mh
        refine iteF ?_
        have k : Q (.bl (!(ltq a b || (eqq a b && li && hj)))) H := k
        refine ⟨_, rfl, _, rfl, p, q, _, _, _, _, rfl, rfl, hp, hq, p, q, a, b, rfl, ⟨_, hp⟩, ⟨_, hq⟩, _, rfl, ?_⟩
        rw [low_eqq l1 l2]
        refine ite2 (fun e => ?_) (fun e => ?_)
        · refine ⟨fun v H' => H = H' ∧ v = .bl (li && hj), ?_, ?_⟩
          · refine ⟨_, rfl, _, rfl, ?_⟩
            cases li with
            | true => exact iteT ⟨_, rfl, rfl, rfl⟩
            | false => exact iteF ⟨rfl, rfl⟩
          rintro v H' ⟨rfl, rfl⟩
          refine ⟨_, rfl, ?_⟩
          rcases lt_tri a b with ⟨h1, h2, h3⟩ | ⟨h1, h2, h3⟩ | ⟨h1, h2, h3⟩
          · rw [h2] at e; cases e
          · rw [h1, h2] at k
            exact k
          · rw [h2] at e; cases e
        · refine ⟨_, rfl, q, _, _, rfl, hq, mf_no _ _ (by decide +kernel) (by decide +kernel), _, rfl, q, p, b.1, b.2, a.1, a.2, false, rfl, ⟨_, hq⟩, ⟨_, hp⟩, l2.s1.mono (by decide), l2.s2.mono (by decide), l1.s1.mono (by decide), l1.s2.mono (by decide), ?_⟩
          have e3 : lessA b.1 b.2 a.1 a.2 false = ltq b a := by unfold lessA ltq; simp
          rw [e3]
          rcases lt_tri a b with ⟨h1, h2, h3⟩ | ⟨h1, h2, h3⟩ | ⟨h1, h2, h3⟩
          · rw [h3]; rw [h1] at k; exact k
          · exact absurd h2 e
          · rw [h3]; rw [h1, h2] at k; exact k
theorem ok_Stretch_init {P : Program} {w : World} {K : PySem.W.Frag} {mg : Str → Option Value} {base : Heap} {φ : Fds} (T : Txt K mg φ) : FnOk P w K mg base CX0 3 (He.fAd K ("Stretch", some "__init__")) φ.Stretch_init p_Stretch_init (sp_sinit (He.ga K "Measure") (He.ga K "Stretch")) := by
  obtain ⟨_, B0v, B0⟩ := b_is_measure_or_none_1 T
  obtain ⟨_, B1v, B1⟩ := b_is_empty_4 T
  refine T.f_Stretch_init.ok sc_Stretch_init (fun vs H Q E h => ?_) (fun cdv A outer s H vs Q E hr h => ?_)
  · obtain ⟨p, dx, l, h, lo, hi, li, hj, rfl, hp, ml, mh, l1, l2, so, k⟩ := h; rfl
  · obtain ⟨p, dx, l, h, lo, hi, li, hj, rfl, hp, ml, mh, l1, l2, so, k⟩ := h
    refine ⟨_, PSs.nox (pss_cons (ps_if (PW.pt (pw_or (pt_not (pt_val (pe_call (ok_is_measure_or_none (K := K) T) (hr.mono (by decide)) rfl T.g_is_measure_or_none T.f_is_measure_or_none.kp B0 B0v pass0 (pa_cons (pv 1) pa_nil)))) (pw_or1 (pt_not (pt_val (pe_call (ok_is_measure_or_none (K := K) T) (hr.mono (by decide)) rfl T.g_is_measure_or_none T.f_is_measure_or_none.kp B0 B0v pass0 (pa_cons (pv 2) pa_nil)))))))
      (pss_one ps_never)
      pss_nil)
      (pss_cons (ps_if (PW.pt (pw_or (pt_not (pt_val (pe_callB (id := "isinstance") (isi (K := K)) (by rfl) T.z_isinstance (by decide +kernel) (pa_cons (pv 3) (pa_cons (pe_bltn (v := .ty "bool") rfl T.z_bool (by decide +kernel) rfl) pa_nil))))) (pw_or1 (pt_not (pt_val (pe_callB (id := "isinstance") (isi (K := K)) (by rfl) T.z_isinstance (by decide +kernel) (pa_cons (pv 4) (pa_cons (pe_bltn (v := .ty "bool") rfl T.z_bool (by decide +kernel) rfl) pa_nil))))))))
      (pss_one ps_never)
      pss_nil)
      (pss_cons (ps_if (pt_val (pe_call (ok_is_empty (K := K) T) (hr.mono (by decide)) rfl T.g_is_empty T.f_is_empty.kp B1 B1v pass0 (pa_cons (pv 1) (pa_cons (pv 2) (pa_cons (pv 3) (pa_cons (pv 4) pa_nil))))))
      (pss_one ps_never)
      pss_nil)
      (pss_cons (ps_fld (pv 0) (pv 1) rfl)
      (pss_cons (ps_fld (pv 0) (pv 2) rfl)
      (pss_cons (ps_fld (pv 0) (pe_cut (pe_and (pv 3) (pe_one (pe_cmpR op_notN (pv 1) pe_non (nomark _))))) rfl)
      (pss_one (ps_fld (pv 0) (pe_cut (pe_and (pv 4) (pe_one (pe_cmpR op_notN (pv 2) pe_non (nomark _))))) rfl)))))))), ?_⟩
    refine ⟨_, rfl, l, lo, rfl, ml, _, rfl, iteF ?_⟩
    refine ⟨_, rfl, h, hi, rfl, mh, _, rfl, iteF ?_⟩
    refine ⟨_, rfl, _, _, _, _, true, rfl, .ty _, .base (.bl _), kit_ty (r := true) (by decide +kernel), _, rfl, iteF ?_⟩
    refine ⟨_, rfl, _, _, _, _, true, rfl, .ty _, .base (.bl _), kit_ty (r := true) (by decide +kernel), _, rfl, iteF ?_⟩
    refine ⟨_, rfl, _, rfl, _, rfl, _, rfl, l, h, lo, hi, li, hj, rfl, ml, mh, l1, l2, _, rfl, ?_⟩
    rw [so]
    refine iteF ?_
    refine ⟨_, rfl, _, rfl, p, _, dx, _, rfl, hp, T.cl_Stretch, T.na_Stretch_low, (by show 0 < 1000; decide), ?_⟩
    refine ⟨_, rfl, _, rfl, p, _, dx, _, rfl, upd_same, T.cl_Stretch, T.na_Stretch_high, (by show 1 < 1000; decide), ?_⟩
    have nl : decide (l = V.non) = !lo.isSome := by
      cases lo with
      | none => cases ml; rfl
      | some a => obtain ⟨q, rfl, _⟩ := ml; rfl
    have nh : decide (h = V.non) = !hi.isSome := by
      cases hi with
      | none => cases mh; rfl
      | some a => obtain ⟨q, rfl, _⟩ := mh; rfl
    generalize hJ : upd (upd H p _) p _ = HJ
    refine ⟨fun v H' => HJ = H' ∧ v = .bl (li && lo.isSome), ?_, ?_⟩
    · refine ⟨_, rfl, _, rfl, ?_⟩
      cases li with
      | true =>
        refine iteT ⟨_, rfl, rfl, rfl, ?_⟩
        rw [nl]; simp
      | false => exact iteF ⟨rfl, rfl⟩
    rintro v H' ⟨rfl, rfl⟩
    refine ⟨_, rfl, p, _, dx, _, rfl, (by rw [← hJ]; exact upd_same), T.cl_Stretch, T.na_Stretch_low_in, ?_, ?_⟩
    · exact Nat.lt_of_le_of_lt (length_putF _ _ _) (by show 1 + 1 < 1000; decide)
    generalize hG : upd HJ p _ = HG
    refine ⟨fun v H' => HG = H' ∧ v = .bl (hj && hi.isSome), ?_, ?_⟩
    · refine ⟨_, rfl, _, rfl, ?_⟩
      cases hj with
      | true =>
        refine iteT ⟨_, rfl, rfl, rfl, ?_⟩
        rw [nh]; simp
      | false => exact iteF ⟨rfl, rfl⟩
    rintro v H' ⟨rfl, rfl⟩
    refine ⟨_, rfl, p, _, dx, _, rfl, (by rw [← hG]; exact upd_same), T.cl_Stretch, T.na_Stretch_high_in, ?_, ?_⟩
    · exact Nat.lt_of_le_of_lt (length_putF _ _ _) (Nat.lt_of_le_of_lt (Nat.succ_le_succ (length_putF _ _ _)) (by show 1 + 1 + 1 < 1000; decide))
    refine k _ ?_ fun q o e nq => ?_
    · rw [upd_same, sf_put]
    · rw [upd_ne nq, ← hG, upd_ne nq, ← hJ, upd_ne nq, upd_ne nq]
      exact e
theorem ok_cut_low {P : Program} {w : World} {K : PySem.W.Frag} {mg : Str → Option Value} {base : Heap} {φ : Fds} (T : Txt K mg φ) : FnOk P w K mg base CX0 2 (He.fAd K ("cut_low", none)) φ.cut_low p_cut_low (sp_cutEnd (He.ga K "Measure") (He.ga K "Stretch") (fun m1 m2 i1 i2 n1 n2 j1 j2 => cutLo m1 i1 n1 j1)) := by
  obtain ⟨_, B0v, B0⟩ := b_Measure_is_below_2 T
  refine T.f_cut_low.ok sc_cut_low (fun vs H Q E h => ?_) (fun cdv A outer s H vs Q E hr h => ?_)
  · obtain ⟨p, q, m1, m2, n1, n2, i1, i2, j1, j2, rfl, ⟨⟨dp, pl, ph, hp, ml, mh⟩, a1, a2, _, _⟩, ⟨⟨dq, ql, qh, hq, nl, nh⟩, b1, b2, _, _⟩, k⟩ := h; rfl
  · obtain ⟨p, q, m1, m2, n1, n2, i1, i2, j1, j2, rfl, ⟨⟨dp, pl, ph, hp, ml, mh⟩, a1, a2, _, _⟩, ⟨⟨dq, ql, qh, hq, nl, nh⟩, b1, b2, _, _⟩, k⟩ := h
    refine ⟨_, PSs.nox (pss_cons (ps_if (pt_cmpR op_isN (fldK (K := K) (pv 0) rfl) pe_non (nomark _))
      (pss_one (ps_ret (pe_tup (pa_cons (fldK (K := K) (pv 1) rfl) (pa_cons (fldK (K := K) (pv 1) rfl) pa_nil)))))
      pss_nil)
      (pss_cons (ps_if (PW.pt (pw_or (pt_cmpR op_isN (fldK (K := K) (pv 1) rfl) pe_non (nomark _)) (pw_or1 (pt_val (pe_meth (fldK (K := K) (pv 1) rfl) T.cl_Measure T.me_Measure_is_below (ok_Measure_is_below (K := K) T) (hr.mono (by decide)) B0 B0v pass0 (pa_cons (fldK (K := K) (pv 0) rfl) pa_nil))))))
      (pss_one (ps_ret (pe_tup (pa_cons (fldK (K := K) (pv 0) rfl) (pa_cons (fldK (K := K) (pv 0) rfl) pa_nil)))))
      pss_nil)
      (pss_cons (ps_if (pt_val (pe_meth (fldK (K := K) (pv 0) rfl) T.cl_Measure T.me_Measure_is_below (ok_Measure_is_below (K := K) T) (hr.mono (by decide)) B0 B0v pass0 (pa_cons (fldK (K := K) (pv 1) rfl) pa_nil)))
      (pss_one (ps_ret (pe_tup (pa_cons (fldK (K := K) (pv 1) rfl) (pa_cons (fldK (K := K) (pv 1) rfl) pa_nil)))))
      pss_nil)
      (pss_one (ps_ret (pe_tup (pa_cons (fldK (K := K) (pv 0) rfl) (pa_cons (pe_cut (pe_and (fldK (K := K) (pv 0) rfl) (pe_one (fldK (K := K) (pv 1) rfl)))) pa_nil)))))))), ?_⟩
    refine ⟨_, rfl, _, _, _, _, _, rfl, hp, T.cl_Stretch, T.na_Stretch_low, sf_low _ _ _ _, rfl, _, rfl, ?_⟩
    have LA : ∀ x y : Q2, lessA x.1 x.2 y.1 y.2 false = ltq x y := fun x y => by unfold lessA ltq; simp
    cases m1 with
    | none =>
      cases ml
      refine iteT ?_
      exact ⟨_, rfl, _, _, _, _, _, rfl, hq, T.cl_Stretch, T.na_Stretch_low, sf_low _ _ _ _, _, rfl, _, _, _, _, _, rfl, hq, T.cl_Stretch, T.na_Stretch_low_in, sf_low_in _ _ _ _, by show 2 ≤ sizeLine; decide, fun r nr => k r _ _ (same1 nr) upd_same (nl.same (same1 nr))⟩
    | some a =>
      have ma0 := ml
      obtain ⟨pa, rfl, da, hpa⟩ := ml
      refine iteF ?_
      refine ⟨_, rfl, _, _, _, _, _, rfl, hq, T.cl_Stretch, T.na_Stretch_low, sf_low _ _ _ _, rfl, _, rfl, ?_⟩
      cases n1 with
      | none =>
        cases nl
        refine iteT ?_
        refine iteT ?_
        exact ⟨_, rfl, _, _, _, _, _, rfl, hp, T.cl_Stretch, T.na_Stretch_low, sf_low _ _ _ _, _, rfl, _, _, _, _, _, rfl, hp, T.cl_Stretch, T.na_Stretch_low_in, sf_low_in _ _ _ _, by show 2 ≤ sizeLine; decide, fun r nr => k r _ _ (same1 nr) upd_same (ma0.same (same1 nr))⟩
      | some b =>
        have mb0 := nl
        obtain ⟨pb, rfl, db, hpb⟩ := nl
        refine iteF ?_
        refine ⟨_, rfl, _, _, _, _, _, rfl, hq, T.cl_Stretch, T.na_Stretch_low, sf_low _ _ _ _, pb, _, _, rfl, hpb, mf_no _ _ (by decide +kernel) (by decide +kernel), _, rfl, _, _, _, _, _, rfl, hp, T.cl_Stretch, T.na_Stretch_low, sf_low _ _ _ _, pb, pa, b.1, b.2, a.1, a.2, false, rfl, ⟨_, hpb⟩, ⟨_, hpa⟩, b1.s1.mono (by decide), b1.s2.mono (by decide), a1.s1.mono (by decide), a1.s2.mono (by decide), _, rfl, ?_⟩
        have k : ∀ (r : Addr) (v : V) (H' : Hp), Same H H' → H' r = some (.tup [v, .bl (if ltq a b then (some b, j1) else if eqq a b then (some a, i1 && j1) else (some a, i1)).2]) → MsV (He.ga K "Measure") H' v (if ltq a b then (some b, j1) else if eqq a b then (some a, i1 && j1) else (some a, i1)).1 → Q (.ref r) H' := k
        rcases lt_tri a b with ⟨h1, h2, h3⟩ | ⟨h1, h2, h3⟩ | ⟨h1, h2, h3⟩
        · rw [h1] at k
          · rw [show lessA b.1 b.2 a.1 a.2 false = false from (LA _ _).trans h3]
            refine iteF ?_
            refine ⟨_, rfl, _, _, _, _, _, rfl, hp, T.cl_Stretch, T.na_Stretch_low, sf_low _ _ _ _, pa, _, _, rfl, hpa, mf_no _ _ (by decide +kernel) (by decide +kernel), _, rfl, _, _, _, _, _, rfl, hq, T.cl_Stretch, T.na_Stretch_low, sf_low _ _ _ _, pa, pb, a.1, a.2, b.1, b.2, false, rfl, ⟨_, hpa⟩, ⟨_, hpb⟩, a1.s1.mono (by decide), a1.s2.mono (by decide), b1.s1.mono (by decide), b1.s2.mono (by decide), _, rfl, ?_⟩
            rw [show lessA a.1 a.2 b.1 b.2 false = true from (LA _ _).trans h1]
            exact iteT ⟨_, rfl, _, _, _, _, _, rfl, hq, T.cl_Stretch, T.na_Stretch_low, sf_low _ _ _ _, _, rfl, _, _, _, _, _, rfl, hq, T.cl_Stretch, T.na_Stretch_low_in, sf_low_in _ _ _ _, by show 2 ≤ sizeLine; decide, fun r nr => k r _ _ (same1 nr) upd_same (mb0.same (same1 nr))⟩
        · rw [h1, h2] at k
          · rw [show lessA b.1 b.2 a.1 a.2 false = false from (LA _ _).trans h3]
            refine iteF ?_
            refine ⟨_, rfl, _, _, _, _, _, rfl, hp, T.cl_Stretch, T.na_Stretch_low, sf_low _ _ _ _, pa, _, _, rfl, hpa, mf_no _ _ (by decide +kernel) (by decide +kernel), _, rfl, _, _, _, _, _, rfl, hq, T.cl_Stretch, T.na_Stretch_low, sf_low _ _ _ _, pa, pb, a.1, a.2, b.1, b.2, false, rfl, ⟨_, hpa⟩, ⟨_, hpb⟩, a1.s1.mono (by decide), a1.s2.mono (by decide), b1.s1.mono (by decide), b1.s2.mono (by decide), _, rfl, ?_⟩
            rw [show lessA a.1 a.2 b.1 b.2 false = false from (LA _ _).trans h1]
            refine iteF ?_
            refine ⟨_, rfl, _, _, _, _, _, rfl, hp, T.cl_Stretch, T.na_Stretch_low, sf_low _ _ _ _, ?_⟩
            refine ⟨fun v H' => H = H' ∧ v = .bl (i1 && j1), ?_, ?_⟩
            · refine ⟨_, rfl, _, _, _, _, _, rfl, hp, T.cl_Stretch, T.na_Stretch_low_in, sf_low_in _ _ _ _, _, rfl, ?_⟩
              cases i1 with
              | true => exact iteT ⟨_, rfl, _, _, _, _, _, rfl, hq, T.cl_Stretch, T.na_Stretch_low_in, sf_low_in _ _ _ _, rfl, rfl⟩
              | false => exact iteF ⟨rfl, rfl⟩
            rintro v H' ⟨rfl, rfl⟩
            exact ⟨by show 2 ≤ sizeLine; decide, fun r nr => k r _ _ (same1 nr) upd_same (ma0.same (same1 nr))⟩
        · rw [h1, h2] at k
          · rw [show lessA b.1 b.2 a.1 a.2 false = true from (LA _ _).trans h3]
            exact iteT ⟨_, rfl, _, _, _, _, _, rfl, hp, T.cl_Stretch, T.na_Stretch_low, sf_low _ _ _ _, _, rfl, _, _, _, _, _, rfl, hp, T.cl_Stretch, T.na_Stretch_low_in, sf_low_in _ _ _ _, by show 2 ≤ sizeLine; decide, fun r nr => k r _ _ (same1 nr) upd_same (ma0.same (same1 nr))⟩
theorem ok_cut_high {P : Program} {w : World} {K : PySem.W.Frag} {mg : Str → Option Value} {base : Heap} {φ : Fds} (T : Txt K mg φ) : FnOk P w K mg base CX0 2 (He.fAd K ("cut_high", none)) φ.cut_high p_cut_high (sp_cutEnd (He.ga K "Measure") (He.ga K "Stretch") (fun m1 m2 i1 i2 n1 n2 j1 j2 => cutHi m2 i2 n2 j2)) := by
  obtain ⟨_, B0v, B0⟩ := b_Measure_is_below_2 T
  refine T.f_cut_high.ok sc_cut_high (fun vs H Q E h => ?_) (fun cdv A outer s H vs Q E hr h => ?_)
  · obtain ⟨p, q, m1, m2, n1, n2, i1, i2, j1, j2, rfl, ⟨⟨dp, pl, ph, hp, ml, mh⟩, a1, a2, _, _⟩, ⟨⟨dq, ql, qh, hq, nl, nh⟩, b1, b2, _, _⟩, k⟩ := h; rfl
  · obtain ⟨p, q, m1, m2, n1, n2, i1, i2, j1, j2, rfl, ⟨⟨dp, pl, ph, hp, ml, mh⟩, a1, a2, _, _⟩, ⟨⟨dq, ql, qh, hq, nl, nh⟩, b1, b2, _, _⟩, k⟩ := h
    refine ⟨_, PSs.nox (pss_cons (ps_if (pt_cmpR op_isN (fldK (K := K) (pv 0) rfl) pe_non (nomark _))
      (pss_one (ps_ret (pe_tup (pa_cons (fldK (K := K) (pv 1) rfl) (pa_cons (fldK (K := K) (pv 1) rfl) pa_nil)))))
      pss_nil)
      (pss_cons (ps_if (PW.pt (pw_or (pt_cmpR op_isN (fldK (K := K) (pv 1) rfl) pe_non (nomark _)) (pw_or1 (pt_val (pe_meth (fldK (K := K) (pv 0) rfl) T.cl_Measure T.me_Measure_is_below (ok_Measure_is_below (K := K) T) (hr.mono (by decide)) B0 B0v pass0 (pa_cons (fldK (K := K) (pv 1) rfl) pa_nil))))))
      (pss_one (ps_ret (pe_tup (pa_cons (fldK (K := K) (pv 0) rfl) (pa_cons (fldK (K := K) (pv 0) rfl) pa_nil)))))
      pss_nil)
      (pss_cons (ps_if (pt_val (pe_meth (fldK (K := K) (pv 1) rfl) T.cl_Measure T.me_Measure_is_below (ok_Measure_is_below (K := K) T) (hr.mono (by decide)) B0 B0v pass0 (pa_cons (fldK (K := K) (pv 0) rfl) pa_nil)))
      (pss_one (ps_ret (pe_tup (pa_cons (fldK (K := K) (pv 1) rfl) (pa_cons (fldK (K := K) (pv 1) rfl) pa_nil)))))
      pss_nil)
      (pss_one (ps_ret (pe_tup (pa_cons (fldK (K := K) (pv 0) rfl) (pa_cons (pe_cut (pe_and (fldK (K := K) (pv 0) rfl) (pe_one (fldK (K := K) (pv 1) rfl)))) pa_nil)))))))), ?_⟩
    refine ⟨_, rfl, _, _, _, _, _, rfl, hp, T.cl_Stretch, T.na_Stretch_high, sf_high _ _ _ _, rfl, _, rfl, ?_⟩
    have LA : ∀ x y : Q2, lessA x.1 x.2 y.1 y.2 false = ltq x y := fun x y => by unfold lessA ltq; simp
    cases m2 with
    | none =>
      cases mh
      refine iteT ?_
      exact ⟨_, rfl, _, _, _, _, _, rfl, hq, T.cl_Stretch, T.na_Stretch_high, sf_high _ _ _ _, _, rfl, _, _, _, _, _, rfl, hq, T.cl_Stretch, T.na_Stretch_high_in, sf_high_in _ _ _ _, by show 2 ≤ sizeLine; decide, fun r nr => k r _ _ (same1 nr) upd_same (nh.same (same1 nr))⟩
    | some a =>
      have ma0 := mh
      obtain ⟨pa, rfl, da, hpa⟩ := mh
      refine iteF ?_
      refine ⟨_, rfl, _, _, _, _, _, rfl, hq, T.cl_Stretch, T.na_Stretch_high, sf_high _ _ _ _, rfl, _, rfl, ?_⟩
      cases n2 with
      | none =>
        cases nh
        refine iteT ?_
        refine iteT ?_
        exact ⟨_, rfl, _, _, _, _, _, rfl, hp, T.cl_Stretch, T.na_Stretch_high, sf_high _ _ _ _, _, rfl, _, _, _, _, _, rfl, hp, T.cl_Stretch, T.na_Stretch_high_in, sf_high_in _ _ _ _, by show 2 ≤ sizeLine; decide, fun r nr => k r _ _ (same1 nr) upd_same (ma0.same (same1 nr))⟩
      | some b =>
        have mb0 := nh
        obtain ⟨pb, rfl, db, hpb⟩ := nh
        refine iteF ?_
        refine ⟨_, rfl, _, _, _, _, _, rfl, hp, T.cl_Stretch, T.na_Stretch_high, sf_high _ _ _ _, pa, _, _, rfl, hpa, mf_no _ _ (by decide +kernel) (by decide +kernel), _, rfl, _, _, _, _, _, rfl, hq, T.cl_Stretch, T.na_Stretch_high, sf_high _ _ _ _, pa, pb, a.1, a.2, b.1, b.2, false, rfl, ⟨_, hpa⟩, ⟨_, hpb⟩, a2.s1.mono (by decide), a2.s2.mono (by decide), b2.s1.mono (by decide), b2.s2.mono (by decide), _, rfl, ?_⟩
        have k : ∀ (r : Addr) (v : V) (H' : Hp), Same H H' → H' r = some (.tup [v, .bl (if ltq b a then (some b, j2) else if eqq a b then (some a, i2 && j2) else (some a, i2)).2]) → MsV (He.ga K "Measure") H' v (if ltq b a then (some b, j2) else if eqq a b then (some a, i2 && j2) else (some a, i2)).1 → Q (.ref r) H' := k
        rcases lt_tri a b with ⟨h1, h2, h3⟩ | ⟨h1, h2, h3⟩ | ⟨h1, h2, h3⟩
        · rw [h3, h2] at k
          · rw [show lessA a.1 a.2 b.1 b.2 false = true from (LA _ _).trans h1]
            exact iteT ⟨_, rfl, _, _, _, _, _, rfl, hp, T.cl_Stretch, T.na_Stretch_high, sf_high _ _ _ _, _, rfl, _, _, _, _, _, rfl, hp, T.cl_Stretch, T.na_Stretch_high_in, sf_high_in _ _ _ _, by show 2 ≤ sizeLine; decide, fun r nr => k r _ _ (same1 nr) upd_same (ma0.same (same1 nr))⟩
        · rw [h3, h2] at k
          · rw [show lessA a.1 a.2 b.1 b.2 false = false from (LA _ _).trans h1]
            refine iteF ?_
            refine ⟨_, rfl, _, _, _, _, _, rfl, hq, T.cl_Stretch, T.na_Stretch_high, sf_high _ _ _ _, pb, _, _, rfl, hpb, mf_no _ _ (by decide +kernel) (by decide +kernel), _, rfl, _, _, _, _, _, rfl, hp, T.cl_Stretch, T.na_Stretch_high, sf_high _ _ _ _, pb, pa, b.1, b.2, a.1, a.2, false, rfl, ⟨_, hpb⟩, ⟨_, hpa⟩, b2.s1.mono (by decide), b2.s2.mono (by decide), a2.s1.mono (by decide), a2.s2.mono (by decide), _, rfl, ?_⟩
            rw [show lessA b.1 b.2 a.1 a.2 false = false from (LA _ _).trans h3]
            refine iteF ?_
            refine ⟨_, rfl, _, _, _, _, _, rfl, hp, T.cl_Stretch, T.na_Stretch_high, sf_high _ _ _ _, ?_⟩
            refine ⟨fun v H' => H = H' ∧ v = .bl (i2 && j2), ?_, ?_⟩
            · refine ⟨_, rfl, _, _, _, _, _, rfl, hp, T.cl_Stretch, T.na_Stretch_high_in, sf_high_in _ _ _ _, _, rfl, ?_⟩
              cases i2 with
              | true => exact iteT ⟨_, rfl, _, _, _, _, _, rfl, hq, T.cl_Stretch, T.na_Stretch_high_in, sf_high_in _ _ _ _, rfl, rfl⟩
              | false => exact iteF ⟨rfl, rfl⟩
            rintro v H' ⟨rfl, rfl⟩
            exact ⟨by show 2 ≤ sizeLine; decide, fun r nr => k r _ _ (same1 nr) upd_same (ma0.same (same1 nr))⟩
        · rw [h3] at k
          · rw [show lessA a.1 a.2 b.1 b.2 false = false from (LA _ _).trans h1]
            refine iteF ?_
            refine ⟨_, rfl, _, _, _, _, _, rfl, hq, T.cl_Stretch, T.na_Stretch_high, sf_high _ _ _ _, pb, _, _, rfl, hpb, mf_no _ _ (by decide +kernel) (by decide +kernel), _, rfl, _, _, _, _, _, rfl, hp, T.cl_Stretch, T.na_Stretch_high, sf_high _ _ _ _, pb, pa, b.1, b.2, a.1, a.2, false, rfl, ⟨_, hpb⟩, ⟨_, hpa⟩, b2.s1.mono (by decide), b2.s2.mono (by decide), a2.s1.mono (by decide), a2.s2.mono (by decide), _, rfl, ?_⟩
            rw [show lessA b.1 b.2 a.1 a.2 false = true from (LA _ _).trans h3]
            exact iteT ⟨_, rfl, _, _, _, _, _, rfl, hq, T.cl_Stretch, T.na_Stretch_high, sf_high _ _ _ _, _, rfl, _, _, _, _, _, rfl, hq, T.cl_Stretch, T.na_Stretch_high_in, sf_high_in _ _ _ _, by show 2 ≤ sizeLine; decide, fun r nr => k r _ _ (same1 nr) upd_same (mb0.same (same1 nr))⟩
theorem ok_Stretch_cut {P : Program} {w : World} {K : PySem.W.Frag} {mg : Str → Option Value} {base : Heap} {φ : Fds} (T : Txt K mg φ) : FnOk P w K mg base CX0 5 (He.fAd K ("Stretch", some "cut")) φ.Stretch_cut p_Stretch_cut (sp_cutS (He.ga K "Measure") (He.ga K "Stretch")) := by
  obtain ⟨_, B0v, B0⟩ := b_cut_low_2 T
  obtain ⟨_, B1v, B1⟩ := b_cut_high_2 T
  obtain ⟨_, B2v, B2⟩ := b_is_empty_4 T
  obtain ⟨_, B3v, B3⟩ := b_Stretch_init_5 T
  refine T.f_Stretch_cut.ok sc_Stretch_cut (fun vs H Q E h => ?_) (fun cdv A outer s H vs Q E hr h => ?_)
  · obtain ⟨p, q, m1, m2, n1, n2, i1, i2, j1, j2, rfl, sp, sq, k⟩ := h; rfl
  · obtain ⟨p, q, m1, m2, n1, n2, i1, i2, j1, j2, rfl, sp, sq, k⟩ := h
    refine ⟨_, PSs.nox (pss_cons (ps_asg (pe_call (ok_cut_low (K := K) T) (hr.mono (by decide)) rfl T.g_cut_low T.f_cut_low.kp B0 B0v pass0 (pa_cons (pv 0) (pa_cons (pv 1) pa_nil))) (pg_tup rfl (pgs_cons (pg_name (i := 2) sc_Stretch_cut.nd rfl (Or.inl rfl)) (pgs_cons (pg_name (i := 3) sc_Stretch_cut.nd rfl (Or.inl rfl)) pgs_nil))))
      (pss_cons (ps_asg (pe_call (ok_cut_high (K := K) T) (hr.mono (by decide)) rfl T.g_cut_high T.f_cut_high.kp B1 B1v pass0 (pa_cons (pv 0) (pa_cons (pv 1) pa_nil))) (pg_tup rfl (pgs_cons (pg_name (i := 4) sc_Stretch_cut.nd rfl (Or.inl rfl)) (pgs_cons (pg_name (i := 5) sc_Stretch_cut.nd rfl (Or.inl rfl)) pgs_nil))))
      (pss_cons (ps_if (pt_val (pe_call (ok_is_empty (K := K) T) (hr.mono (by decide)) rfl T.g_is_empty T.f_is_empty.kp B2 B2v pass0 (pa_cons (pv 2) (pa_cons (pv 4) (pa_cons (pv 3) (pa_cons (pv 5) pa_nil))))))
      (pss_one (ps_ret pe_non))
      pss_nil)
      (pss_one (ps_ret (pe_make T.mk_Stretch (ok_Stretch_init (K := K) T) (hr.mono (by decide)) rfl T.g_Stretch B3 B3v pass0 (pa_cons (pv 2) (pa_cons (pv 4) (pa_cons (pv 3) (pa_cons (pv 5) pa_nil)))))))))), ?_⟩
    refine ⟨_, rfl, _, rfl, p, q, m1, m2, n1, n2, i1, i2, j1, j2, rfl, sp, sq, fun r v H1 s1 hr1 mv => ?_⟩
    refine ⟨r, _, rfl, SqT.of hr1, rfl, _, _, rfl, _, _, rfl, rfl, ?_⟩
    refine ⟨_, rfl, _, rfl, p, q, m1, m2, n1, n2, i1, i2, j1, j2, rfl, sp.same s1, sq.same s1, fun r2 w H2 s2 hr2 mw => ?_⟩
    refine ⟨r2, _, rfl, SqT.of hr2, rfl, _, _, rfl, _, _, rfl, rfl, ?_⟩
    have mv2 := mv.same s2
    have lv : LowO (cutLo m1 i1 n1 j1).1 := cutLo_low sp.l1 sq.l1
    have lw : LowO (cutHi m2 i2 n2 j2).1 := cutHi_low sp.l2 sq.l2
    refine ⟨_, rfl, _, rfl, _, rfl, _, rfl, v, w, _, _, _, _, rfl, mv2, mw, lv, lw, _, rfl, ?_⟩
    cases e : someB (cutLo m1 i1 n1 j1).1 (cutHi m2 i2 n2 j2).1 (cutLo m1 i1 n1 j1).2 (cutHi m2 i2 n2 j2).2 with
    | false =>
      refine iteT ?_
      exact k _ H2 (s1.trans s2) (.inr ⟨e, rfl⟩)
    | true =>
      refine iteF ?_
      refine ⟨_, rfl, _, rfl, _, rfl, _, rfl, ?_⟩
      intro x dx nx nd ne
      have sx : Same H2 (upd (upd H2 dx (.own x)) x (.ins (He.ga K "Stretch") dx [])) := fun c o e => by
        rw [upd_ne (ne_of_none e nx)]; exact up1 nd e
      refine ⟨x, dx, v, w, _, _, _, _, rfl, upd_same, mv2.same sx, mw.same sx, lv, lw, e, fun H' hx kp => ⟨rfl, ?_⟩⟩
      have s' : Same H2 H' := made_same nx nd kp
      exact k _ H' ((s1.trans s2).trans s') (.inl ⟨e, x, rfl, StAt.mk' hx s' mv2 mw lv lw⟩)
theorem ok_end_at {P : Program} {w : World} {K : PySem.W.Frag} {mg : Str → Option Value} {base : Heap} {φ : Fds} (T : Txt K mg φ) : FnOk P w K mg base CX0 1 (He.fAd K ("end_at", none)) φ.end_at p_end_at (sp_endat K (He.ga K "Measure")) := by
  refine T.f_end_at.ok sc_end_at (fun vs H Q E h => ?_) (fun cdv A outer s H vs Q E hr h => ?_)
  · obtain ⟨T', k, ps, zs, i, rfl, hq, hm, kk⟩ := h; rfl
  · obtain ⟨T', k, ps, zs, i, rfl, hq, hm, kk⟩ := h
    refine ⟨_, PSs.nox (pss_cons (ps_if (pt_chain op_le op_lt pe_int (pv 1) (pe_callB (id := "len") (lenS (K := K)) (by rfl) T.z_len PySem.boot_len (pa_cons (pv 0) pa_nil)))
      (pss_one (ps_ret (pe_ix (ixs (K := K)) (pv 0) (pv 1) (fun _ _ => rfl))))
      pss_nil)
      (pss_one (ps_ret pe_non))), ?_⟩
    have el : ps.length = zs.length := hm.len
    walk_at "w"
    by_cases c1 : 0 ≤ i
    · obtain ⟨n, rfl⟩ := Int.eq_ofNat_of_zero_le c1
      walk_at "w"
      rw [endQ_in rfl] at kk
      by_cases c2 : n < zs.length
      · obtain ⟨a, ha⟩ := ge2 c2
        obtain ⟨p, ep, qp⟩ := hm.at ha
        rw [ha] at kk
        walk_at "w"
        exact kk _ ⟨p, rfl, qp⟩
      · walk_at "w"
        refine kk _ ?_
        rw [List.getElem?_eq_none (by omega)]
        rfl
    · walk_at "w"
      refine kk _ ?_
      rw [endQ_none (by omega)]
      rfl
theorem ok_has_size {P : Program} {w : World} {K : PySem.W.Frag} {mg : Str → Option Value} {base : Heap} {φ : Fds} (T : Txt K mg φ) : FnOk P w K mg base CX0 2 (He.fAd K ("has_size", none)) φ.has_size p_has_size (sp_hassz K (He.ga K "Measure") (He.ga K "Ladder")) := by
  obtain ⟨_, B0v, B0⟩ := b_is_whole_1 T
  refine T.f_has_size.ok sc_has_size (fun vs H Q E h => ?_) (fun cdv A outer s H vs Q E hr h => ?_)
  · obtain ⟨p, k, zs, r, lo, hi, n, rfl, hL, hn, kk⟩ := h; rfl
  · obtain ⟨p, k, zs, r, lo, hi, n, rfl, hL, hn, kk⟩ := h
    refine ⟨_, PSs.nox (pss_one (ps_ret (pe_and (pe_call (ok_is_whole (K := K) T) (hr.mono (by decide)) rfl T.g_is_whole T.f_is_whole.kp B0 B0v pass0 (pa_cons (pv 1) pa_nil)) (pe_one (pe_chain op_le op_lt pe_int (pv 1) (pe_callB (id := "len") (lenS (K := K)) (by rfl) T.z_len PySem.boot_len (pa_cons (fldK (K := K) (pv 0) rfl) pa_nil))))))), ?_⟩
    have cl_Ladder := T.cl_Ladder
    have na_Ladder_marks := T.na_Ladder_marks
    have na_Ladder_rule := T.na_Ladder_rule
    have na_Ladder_least := T.na_Ladder_least
    have na_Ladder_most := T.na_Ladder_most
    
    obtain ⟨⟨dx, T', ps, l, h, hp, hT, hm, ql, qh⟩, l0, l1, hri, hru, hsp⟩ := hL
    have el : ps.length = zs.length := hm.len
    walk_at "w"
    show Q (.bl (decide ((n : Int) < (ps.length : Int)))) H
    rw [decide_eq_true (by omega)]
    exact kk
theorem ok_Ladder_len {P : Program} {w : World} {K : PySem.W.Frag} {mg : Str → Option Value} {base : Heap} {φ : Fds} (T : Txt K mg φ) : FnOk P w K mg base CX0 1 (He.fAd K ("Ladder", some "__len__")) φ.Ladder_len p_Ladder_len (sp_llen K (He.ga K "Measure") (He.ga K "Ladder")) := by
  refine T.f_Ladder_len.ok sc_Ladder_len (fun vs H Q E h => ?_) (fun cdv A outer s H vs Q E hr h => ?_)
  · obtain ⟨p, k, zs, r, lo, hi, rfl, hL, kk⟩ := h; rfl
  · obtain ⟨p, k, zs, r, lo, hi, rfl, hL, kk⟩ := h
    refine ⟨_, PSs.nox (pss_one (ps_ret (pe_callB (id := "len") (lenS (K := K)) (by rfl) T.z_len PySem.boot_len (pa_cons (fldK (K := K) (pv 0) rfl) pa_nil)))), ?_⟩
    have cl_Ladder := T.cl_Ladder
    have na_Ladder_marks := T.na_Ladder_marks
    have na_Ladder_rule := T.na_Ladder_rule
    have na_Ladder_least := T.na_Ladder_least
    have na_Ladder_most := T.na_Ladder_most
    
    obtain ⟨⟨dx, T', ps, l, h, hp, hT, hm, ql, qh⟩, l0, l1, hri, hru, hsp⟩ := hL
    have el : ps.length = zs.length := hm.len
    walk_at "w"
    rw [el]
    exact kk
theorem ok_stretch_by_rule {P : Program} {w : World} {K : PySem.W.Frag} {mg : Str → Option Value} {base : Heap} {φ : Fds} (T : Txt K mg φ) : FnOk P w K mg base CX0 6 (He.fAd K ("stretch_by_rule", none)) φ.stretch_by_rule p_stretch_by_rule (sp_strR K (He.ga K "Measure") (He.ga K "Stretch")) := by
  obtain ⟨_, B0v, B0⟩ := b_Stretch_init_3 T
  obtain ⟨_, B1v, B1⟩ := b_end_at_2 T
  obtain ⟨_, B2v, B2⟩ := b_Stretch_init_5 T
  obtain ⟨_, B3v, B3⟩ := b_midsts_of_1 T
  refine T.f_stretch_by_rule.ok sc_stretch_by_rule (fun vs H Q E h => ?_) (fun cdv A outer s H vs Q E hr h => ?_)
  · obtain ⟨T', k, ps, zs, r, n, rfl, hT, hm, k0, k1, l1, hn, hr', kk⟩ := h; rfl
  · obtain ⟨T', k, ps, zs, r, n, rfl, hT, hm, k0, k1, l1, hn, hr', kk⟩ := h
    refine ⟨_, PSs.nox (pss_cons (ps_if (pt_cmpR op_eq (pv 1) pe_str (nomark _))
      (pss_one (ps_ret (pe_make T.mk_Stretch (ok_Stretch_init (K := K) T) (hr.mono (by decide)) rfl T.g_Stretch B0 B0v pass0 (pa_cons (pe_call (ok_end_at (K := K) T) (hr.mono (by decide)) rfl T.g_end_at T.f_end_at.kp B1 B1v pass0 (pa_cons (pv 0) (pa_cons (pe_op op_sub (pv 2) pe_int) pa_nil))) (pa_cons (pe_ix (ixt (K := K)) (pv 0) (pv 2) (fun _ _ => rfl)) pa_nil)))))
      pss_nil)
      (pss_cons (ps_if (pt_cmpR op_eq (pv 1) pe_str (nomark _))
      (pss_one (ps_ret (pe_make T.mk_Stretch (ok_Stretch_init (K := K) T) (hr.mono (by decide)) rfl T.g_Stretch B2 B2v pass0 (pa_cons (pe_ix (ixt (K := K)) (pv 0) (pv 2) (fun _ _ => rfl)) (pa_cons (pe_call (ok_end_at (K := K) T) (hr.mono (by decide)) rfl T.g_end_at T.f_end_at.kp B1 B1v pass0 (pa_cons (pv 0) (pa_cons (pe_op op_add (pv 2) pe_int) pa_nil))) (pa_cons pe_bl (pa_cons pe_bl pa_nil)))))))
      pss_nil)
      (pss_cons (ps_set (i := 3) sc_stretch_by_rule.nd rfl (Or.inl rfl) (pe_call (ok_midsts_of (K := K) T) (hr.mono (by decide)) rfl T.g_midsts_of T.f_midsts_of.kp B3 B3v pass0 (pa_cons (pv 0) pa_nil)))
      (pss_one (ps_ret (pe_make T.mk_Stretch (ok_Stretch_init (K := K) T) (hr.mono (by decide)) rfl T.g_Stretch B2 B2v pass0 (pa_cons (pe_call (ok_end_at (K := K) T) (hr.mono (by decide)) rfl T.g_end_at T.f_end_at.kp B1 B1v pass0 (pa_cons (pv 3) (pa_cons (pe_op op_sub (pv 2) pe_int) pa_nil))) (pa_cons (pe_call (ok_end_at (K := K) T) (hr.mono (by decide)) rfl T.g_end_at T.f_end_at.kp B1 B1v pass0 (pa_cons (pv 3) (pa_cons (pv 2) pa_nil))) (pa_cons pe_bl (pa_cons pe_bl pa_nil)))))))))), ?_⟩
    obtain ⟨a, ha⟩ := ge2 hn
    obtain ⟨pa, ea, qa⟩ := hm.at ha
    have l0 : 0 < zs.length := by omega
    refine ⟨_, rfl, rfl, _, rfl, ?_⟩
    refine ite2 (fun e => ?_) (fun e => ?_)
    · have er : r = "up" := V.str.inj (of_decide_eq_true e)
      have ee : rulE zs r n = ((endQ zs ((n : Int) - 1), false), (zs[n]?, true)) := by unfold rulE; rw [if_pos er]
      rw [ee, ha] at kk
      walk_at "w"
      refine ⟨zs, _, rfl, .inr hT, hm, fun v1 q1 => ?_⟩
      walk_at "w"
      have so := some_up (n := n) hr' (i := false) (j := true)
      rw [ha] at so
      exact stq_made (a := endQ zs ((n : Int) - 1)) (b := some a) (ia := false) (ib := true) q1 ⟨pa, rfl, qa⟩ (by omega) (by omega) so fun p H' s S => kk p H' s S
    have er : ¬ r = "up" := fun z => e (decide_eq_true (congrArg V.str z))
    refine ⟨_, rfl, rfl, _, rfl, ?_⟩
    refine ite2 (fun e => ?_) (fun e => ?_)
    · have er2 : r = "down" := V.str.inj (of_decide_eq_true e)
      have ee : rulE zs r n = ((zs[n]?, true), (endQ zs ((n : Int) + 1), false)) := by unfold rulE; rw [if_neg er, if_pos er2]
      rw [ee, ha] at kk
      walk_at "w"
      refine ⟨zs, _, rfl, .inr hT, hm, fun v1 q1 => ?_⟩
      walk_at "w"
      have so := some_dn (n := n) hr' (i := true) (j := false)
      rw [ha] at so
      exact stq_made (b := endQ zs ((n : Int) + 1)) (a := some a) (ia := true) (ib := false) ⟨pa, rfl, qa⟩ q1 (by omega) (by omega) so fun p H' s S => kk p H' s S
    have er2 : ¬ r = "down" := fun z => e (decide_eq_true (congrArg V.str z))
    have ee : rulE zs r n = ((endQ (midq zs) ((n : Int) - 1), true), (endQ (midq zs) n, false)) := by unfold rulE; rw [if_neg er, if_neg er2]
    rw [ee] at kk
    refine ⟨_, rfl, T', k, ps, zs, rfl, hT, hm, k0, k1, l0, l1, fun D ys H1 s1 hD hm1 => ?_⟩
    walk_at "w"
    refine ⟨midq zs, _, rfl, .inl (SqL.of hD), hm1, fun v1 q1 => ?_⟩
    walk_at "w"
    refine ⟨midq zs, _, rfl, .inl (SqL.of hD), hm1, fun v2 q2 => ?_⟩
    exact stq_made (a := endQ (midq zs) ((n : Int) - 1)) (b := endQ (midq zs) n) (ia := true) (ib := false) q1 q2 (by omega) (by omega) (some_nr (midq_rise hr' hm.posL)) fun p H' s S => kk p H' (s1.trans s) S
theorem ok_Ladder_stretch {P : Program} {w : World} {K : PySem.W.Frag} {mg : Str → Option Value} {base : Heap} {φ : Fds} (T : Txt K mg φ) : FnOk P w K mg base CX0 7 (He.fAd K ("Ladder", some "stretch")) φ.Ladder_stretch p_Ladder_stretch (sp_stretch K (He.ga K "Measure") (He.ga K "Ladder") (He.ga K "Stretch")) := by
  obtain ⟨_, B0v, B0⟩ := b_has_size_2 T
  obtain ⟨_, B1v, B1⟩ := b_Stretch_init_5 T
  obtain ⟨_, B2v, B2⟩ := b_Stretch_cut_2 T
  obtain ⟨_, B3v, B3⟩ := b_stretch_by_rule_3 T
  refine T.f_Ladder_stretch.ok sc_Ladder_stretch (fun vs H Q E h => ?_) (fun cdv A outer s H vs Q E hr h => ?_)
  · obtain ⟨p, k, zs, r, lo, hi, n, rfl, hL, k0, k1, hn, kk⟩ := h; rfl
  · obtain ⟨p, k, zs, r, lo, hi, n, rfl, hL, k0, k1, hn, kk⟩ := h
    refine ⟨_, PSs.nox (pss_cons (ps_if (pt_not (pt_val (pe_call (ok_has_size (K := K) T) (hr.mono (by decide)) rfl T.g_has_size T.f_has_size.kp B0 B0v pass0 (pa_cons (pv 0) (pa_cons (pv 1) pa_nil)))))
      (pss_one ps_never)
      pss_nil)
      (pss_cons (ps_set (i := 2) sc_Ladder_stretch.nd rfl (Or.inl rfl) (pe_make T.mk_Stretch (ok_Stretch_init (K := K) T) (hr.mono (by decide)) rfl T.g_Stretch B1 B1v pass0 (pa_cons (fldK (K := K) (pv 0) rfl) (pa_cons (fldK (K := K) (pv 0) rfl) (pa_cons pe_bl (pa_cons pe_bl pa_nil))))))
      (pss_one (ps_ret (pe_meth (pe_call (ok_stretch_by_rule (K := K) T) (hr.mono (by decide)) rfl T.g_stretch_by_rule T.f_stretch_by_rule.kp B3 B3v pass0 (pa_cons (fldK (K := K) (pv 0) rfl) (pa_cons (fldK (K := K) (pv 0) rfl) (pa_cons (pv 1) pa_nil)))) T.cl_Stretch T.me_Stretch_cut (ok_Stretch_cut (K := K) T) (hr.mono (by decide)) B2 B2v pass0 (pa_cons (pv 2) pa_nil)))))), ?_⟩
    have cl_Ladder := T.cl_Ladder
    have na_Ladder_marks := T.na_Ladder_marks
    have na_Ladder_rule := T.na_Ladder_rule
    have na_Ladder_least := T.na_Ladder_least
    have na_Ladder_most := T.na_Ladder_most
    
    have hL0 := hL
    obtain ⟨⟨dx, T', ps, l, h, hp, hT, hm, ql, qh⟩, l0, l1, hri, hru, hsp⟩ := hL
    have el : ps.length = zs.length := hm.len
    walk_at "w"
    refine ⟨zs, _, lo, hi, n, rfl, hL0, hn, _, rfl, iteF ?_⟩
    walk_at "w"
    change ∀ (x dx : Addr), _
    refine stq_made (a := lo) (b := hi) (ia := true) (ib := true) ql qh (by omega) (by omega) (some_tt hsp) (fun B H1 s1 SB => ?_)
    have hp1 := s1 _ _ hp
    have hT1 := s1.sqt hT
    have hm1 := hm.same s1
    walk_at "w"
    refine ⟨zs, _, n, rfl, hT1, hm1, k0, k1, l1, hn, hri, fun S H2 s2 SS => ?_⟩
    obtain ⟨a1, b1, St1, ra, rb⟩ := SS
    obtain ⟨a2, b2, St2, rc, rd⟩ := SB.same s2
    refine meth_s St1 (by decide +kernel) (by decide +kernel) (by decide +kernel) (by decide +kernel) ?_
    refine ⟨_, rfl, S, B, _, _, _, _, _, _, _, _, rfl, St1, St2, fun v H3 s3 C => ?_⟩
    have A1 : Alike (a1, (rulE zs r n).1.2 && (rulE zs r n).1.1.isSome) (rulE zs r n).1 := Alike.norm (i := (rulE zs r n).1.2) ra
    have A2 : Alike (a2, true && lo.isSome) (lo, true) := Alike.norm rc
    have B1 : Alike (b1, (rulE zs r n).2.2 && (rulE zs r n).2.1.isSome) (rulE zs r n).2 := Alike.norm (i := (rulE zs r n).2.2) rb
    have B2 : Alike (b2, true && hi.isSome) (hi, true) := Alike.norm rd
    exact kk v H3 ((s1.trans s2).trans s3) ⟨_, _, C, cutLo_alike A1 A2, cutHi_alike B1 B2⟩
theorem ok_Measure_minus {P : Program} {w : World} {K : PySem.W.Frag} {mg : Str → Option Value} {base : Heap} {φ : Fds} (T : Txt K mg φ) : FnOk P w K mg base CX0 4 (He.fAd K ("Measure", some "minus")) φ.Measure_minus p_Measure_minus (sp_bin2 (He.ga K "Measure") (fun t u t' u' => t * u' - t' * u) (fun t u t' u' => u * u')) := by
  obtain ⟨_, B0v, B0⟩ := b_Measure_init_3 T
  refine T.f_Measure_minus.ok sc_Measure_minus (fun vs H Q E h => ?_) (fun cdv A outer s H vs Q E hr h => ?_)
  · obtain ⟨p, q, t, u, t', u', rfl, ⟨dp, hp⟩, ⟨dq, hq⟩, hu, hu', st, su, st', su', sg, k⟩ := h; rfl
  · obtain ⟨p, q, t, u, t', u', rfl, ⟨dp, hp⟩, ⟨dq, hq⟩, hu, hu', st, su, st', su', sg, k⟩ := h
    refine ⟨_, PSs.nox (pss_one (ps_ret (pe_make T.mk_Measure (ok_Measure_init (K := K) T) (hr.mono (by decide)) rfl T.g_Measure B0 B0v pass0 (pa_cons (pe_op op_sub (pe_op op_mulA (fldK (K := K) (pv 0) rfl) (fldK (K := K) (pv 1) rfl)) (pe_op op_mulA (fldK (K := K) (pv 1) rfl) (fldK (K := K) (pv 0) rfl))) (pa_cons (pe_op op_mulA (fldK (K := K) (pv 0) rfl) (fldK (K := K) (pv 1) rfl)) pa_nil))))), ?_⟩
    refine ⟨_, rfl, _, _, _, _, _, rfl, hp, T.cl_Measure, T.na_Measure_top, mf_top _ _, _, rfl, _, _, _, _, _, rfl, hq, T.cl_Measure, T.na_Measure_bottom, mf_bottom _ _, _, _, rfl, rfl, st.cmul su' (by decide) (by decide) (by decide), _, rfl, _, _, _, _, _, rfl, hq, T.cl_Measure, T.na_Measure_top, mf_top _ _, _, rfl, _, _, _, _, _, rfl, hp, T.cl_Measure, T.na_Measure_bottom, mf_bottom _ _, _, _, rfl, rfl, st'.cmul su (by decide) (by decide) (by decide), _, _, rfl, rfl, _, rfl, _, _, _, _, _, rfl, hp, T.cl_Measure, T.na_Measure_bottom, mf_bottom _ _, _, rfl, _, _, _, _, _, rfl, hq, T.cl_Measure, T.na_Measure_bottom, mf_bottom _ _, _, _, rfl, rfl, su.cmul su' (by decide) (by decide) (by decide), ?_⟩
    intro x dx nx nd ne
    refine ⟨x, dx, _, _, rfl, upd_same, Int.mul_ne_zero (by omega) (by omega), sg.log (by decide) (by decide), fun t2 u2 H' fr hx kp => ⟨rfl, ?_⟩⟩
    exact k x t2 u2 H' nx (made_same nx nd kp) ⟨_, hx⟩ fr
theorem ok_some_measure {P : Program} {w : World} {K : PySem.W.Frag} {mg : Str → Option Value} {base : Heap} {φ : Fds} (T : Txt K mg φ) : FnOk P w K mg base CX0 5 (He.fAd K ("some_measure", none)) φ.some_measure p_some_measure (sp_some27 (He.ga K "Measure") (He.ga K "Stretch")) := by
  obtain ⟨_, B0v, B0⟩ := b_Measure_init_2 T
  obtain ⟨_, B1v, B1⟩ := b_Measure_minus_2 T
  obtain ⟨_, B2v, B2⟩ := b_Measure_plus_2 T
  obtain ⟨_, B3v, B3⟩ := b_Measure_parted_1 T
  refine T.f_some_measure.ok sc_some_measure (fun vs H Q E h => ?_) (fun cdv A outer s H vs Q E hr h => ?_)
  · obtain ⟨p, k, lo, hi, li, hj, rfl, S, sl, sh, so, k0, k1, kk⟩ := h; rfl
  · obtain ⟨p, k, lo, hi, li, hj, rfl, S, sl, sh, so, k0, k1, kk⟩ := h
    refine ⟨_, PSs.nox (pss_cons (ps_if (pt_val (fldK (K := K) (pv 0) rfl))
      (pss_one (ps_ret (fldK (K := K) (pv 0) rfl)))
      pss_nil)
      (pss_cons (ps_if (pt_val (fldK (K := K) (pv 0) rfl))
      (pss_one (ps_ret (fldK (K := K) (pv 0) rfl)))
      pss_nil)
      (pss_cons (ps_if (PW.pt (pw_and (pt_cmpR op_isN (fldK (K := K) (pv 0) rfl) pe_non (nomark _)) (pw_and1 (pt_cmpR op_isN (fldK (K := K) (pv 0) rfl) pe_non (nomark _)))))
      (pss_one (ps_ret (pe_make T.mk_Measure (ok_Measure_init (K := K) T) (hr.mono (by decide)) rfl T.g_Measure B0 B0v pass0 (pa_cons pe_int pa_nil))))
      pss_nil)
      (pss_cons (ps_if (pt_cmpR op_isN (fldK (K := K) (pv 0) rfl) pe_non (nomark _))
      (pss_one (ps_ret (pe_meth (fldK (K := K) (pv 0) rfl) T.cl_Measure T.me_Measure_minus (ok_Measure_minus (K := K) T) (hr.mono (by decide)) B1 B1v pass0 (pa_cons (pe_make T.mk_Measure (ok_Measure_init (K := K) T) (hr.mono (by decide)) rfl T.g_Measure B0 B0v pass0 (pa_cons pe_int pa_nil)) pa_nil))))
      pss_nil)
      (pss_cons (ps_if (pt_cmpR op_isN (fldK (K := K) (pv 0) rfl) pe_non (nomark _))
      (pss_one (ps_ret (pe_meth (fldK (K := K) (pv 0) rfl) T.cl_Measure T.me_Measure_plus (ok_Measure_plus (K := K) T) (hr.mono (by decide)) B2 B2v pass0 (pa_cons (pe_make T.mk_Measure (ok_Measure_init (K := K) T) (hr.mono (by decide)) rfl T.g_Measure B0 B0v pass0 (pa_cons pe_int pa_nil)) pa_nil))))
      pss_nil)
      (pss_one (ps_ret (pe_meth0 (pe_meth (fldK (K := K) (pv 0) rfl) T.cl_Measure T.me_Measure_plus (ok_Measure_plus (K := K) T) (hr.mono (by decide)) B2 B2v pass0 (pa_cons (fldK (K := K) (pv 0) rfl) pa_nil)) T.cl_Measure T.me_Measure_parted (ok_Measure_parted (K := K) T) (hr.mono (by decide)) B3 B3v pass0)))))))), ?_⟩
    have cl_Stretch := T.cl_Stretch
    have na_Stretch_low := T.na_Stretch_low
    have na_Stretch_high := T.na_Stretch_high
    have na_Stretch_low_in := T.na_Stretch_low_in
    have na_Stretch_high_in := T.na_Stretch_high_in
    have cl_Measure := T.cl_Measure
    have na_Measure_top := T.na_Measure_top
    have na_Measure_bottom := T.na_Measure_bottom
    
    obtain ⟨⟨dp, l, h, hp, ml, mh⟩, l1, l2, n1, n2⟩ := S
    have ql : QO (He.ga K "Measure") H k l lo := qo_of ml l1 (reO_self l1.posO) sl
    have qh : QO (He.ga K "Measure") H k h hi := qo_of mh l2 (reO_self l2.posO) sh
    cases li with
    | true =>
      cases lo with
      | none => cases n1 rfl
      | some a =>
        obtain ⟨pa, rfl, qa⟩ := ql
        walk_at "w"
        refine kk pa a H (Same.refl _) (qa.mono (by omega)) ?_ ?_
        · show (ltq a a || (true && eqq a a)) = true
          rw [eqq_self]; simp
        · cases hi with
          | none => rfl
          | some b =>
            show (ltq a b || (hj && eqq a b)) = true
            have so : (ltq a b || (eqq a b && true && hj)) = true := so
            revert so
            cases ltq a b <;> cases eqq a b <;> cases hj <;> simp
    | false =>
      cases hj with
      | true =>
        cases hi with
        | none => cases n2 rfl
        | some b =>
          obtain ⟨pb, rfl, qb⟩ := qh
          walk_at "w"
          refine kk pb b H (Same.refl _) (qb.mono (by omega)) ?_ ?_
          · cases lo with
            | none => rfl
            | some a =>
              show (ltq a b || (false && eqq a b)) = true
              have so : (ltq a b || (eqq a b && false && true)) = true := so
              revert so
              cases ltq a b <;> cases eqq a b <;> simp
          · show (ltq b b || (true && eqq b b)) = true
            rw [eqq_self]; simp
      | false =>
        refine ⟨_, rfl, p, _, dp, _, _, rfl, hp, cl_Stretch, na_Stretch_low_in, sf_low_in _ _ _ _, _, rfl, iteF ?_⟩
        refine ⟨_, rfl, p, _, dp, _, _, rfl, hp, cl_Stretch, na_Stretch_high_in, sf_high_in _ _ _ _, _, rfl, iteF ?_⟩
        cases lo with
        | none =>
          cases ql
          refine ⟨_, rfl, p, _, dp, _, _, rfl, hp, cl_Stretch, na_Stretch_low, sf_low _ _ _ _, rfl, _, rfl, iteDT rfl ?_⟩
          cases hi with
          | none =>
            cases qh
            refine ⟨_, rfl, p, _, dp, _, _, rfl, hp, cl_Stretch, na_Stretch_high, sf_high _ _ _ _, rfl, _, rfl, iteDT rfl ?_⟩
            refine q_made (k := 1) (by decide) (by decide) (by decide) (by decide) (by decide) fun q H1 s1 R => kk q (0, 1) H1 s1 (R.mono (by omega)) rfl rfl
          | some b =>
            obtain ⟨pb, rfl, qb⟩ := qh
            refine ⟨_, rfl, p, _, dp, _, _, rfl, hp, cl_Stretch, na_Stretch_high, sf_high _ _ _ _, rfl, _, rfl, iteDF (fun e => by cases e) ?_⟩
            refine ⟨_, rfl, p, _, dp, _, _, rfl, hp, cl_Stretch, na_Stretch_low, sf_low _ _ _ _, rfl, _, rfl, iteDT rfl ?_⟩
            refine ⟨_, rfl, p, _, dp, _, _, rfl, hp, cl_Stretch, na_Stretch_high, sf_high _ _ _ _, meth_q qb (by decide +kernel) (by decide +kernel) ?_⟩
            refine q_made (k := 1) (by decide) (by decide) (by decide) (by decide) (by decide) fun q H1 s1 R => ?_
            refine q_subT (qb.same s1) R (by omega) k0 (by decide) fun r H2 s2 R2 => ?_
            refine kk r (qsub b (1, 1)) H2 (s1.trans s2) (R2.mono (by omega)) rfl ?_
            show (ltq (qsub b (1, 1)) b || (false && eqq (qsub b (1, 1)) b)) = true
            have e := sub_R qb.pos (show 0 < ((1, 1) : Q2).2 by decide)
            have e1 : toR (1, 1) = 1 := by unfold toR; grind
            rw [(ltq_R R2.pos qb.pos).mpr (by rw [e, e1]; grind)]
            rfl
        | some a =>
          obtain ⟨pa, rfl, qa⟩ := ql
          refine ⟨_, rfl, p, _, dp, _, _, rfl, hp, cl_Stretch, na_Stretch_low, sf_low _ _ _ _, rfl, _, rfl, iteDF (fun e => by cases e) (iteF ?_)⟩
          refine ⟨_, rfl, p, _, dp, _, _, rfl, hp, cl_Stretch, na_Stretch_low, sf_low _ _ _ _, rfl, _, rfl, iteDF (fun e => by cases e) ?_⟩
          cases hi with
          | none =>
            cases qh
            refine ⟨_, rfl, p, _, dp, _, _, rfl, hp, cl_Stretch, na_Stretch_high, sf_high _ _ _ _, rfl, _, rfl, iteDT rfl ?_⟩
            refine ⟨_, rfl, p, _, dp, _, _, rfl, hp, cl_Stretch, na_Stretch_low, sf_low _ _ _ _, meth_q qa (by decide +kernel) (by decide +kernel) ?_⟩
            refine q_made (k := 1) (by decide) (by decide) (by decide) (by decide) (by decide) fun q H1 s1 R => ?_
            refine q_addT (qa.same s1) R (by omega) k0 (by decide) fun r H2 s2 R2 => ?_
            refine kk r (qadd a (1, 1)) H2 (s1.trans s2) (R2.mono (by omega)) ?_ rfl
            show (ltq a (qadd a (1, 1)) || (false && eqq a (qadd a (1, 1)))) = true
            have e := add_R qa.pos (show 0 < ((1, 1) : Q2).2 by decide)
            have e1 : toR (1, 1) = 1 := by unfold toR; grind
            rw [(ltq_R qa.pos R2.pos).mpr (by rw [e, e1]; grind)]
            rfl
          | some b =>
            obtain ⟨pb, rfl, qb⟩ := qh
            have so : (ltq a b || (eqq a b && false && false)) = true := so
            have lt : ltq a b = true := by
              revert so
              cases ltq a b <;> cases eqq a b <;> simp
            have ltR := (ltq_R qa.pos qb.pos).mp lt
            refine ⟨_, rfl, p, _, dp, _, _, rfl, hp, cl_Stretch, na_Stretch_high, sf_high _ _ _ _, rfl, _, rfl, iteDF (fun e => by cases e) ?_⟩
            refine ⟨_, rfl, p, _, dp, _, _, rfl, hp, cl_Stretch, na_Stretch_low, sf_low _ _ _ _, meth_q qa (by decide +kernel) (by decide +kernel) ?_⟩
            refine ⟨_, rfl, p, _, dp, _, _, rfl, hp, cl_Stretch, na_Stretch_high, sf_high _ _ _ _, ?_⟩
            refine q_addT qa qb (by omega) k0 k0 fun r H2 s2 R2 => ?_
            refine meth_q R2 (by decide +kernel) (by decide +kernel) ?_
            refine q_prt2T R2 (by omega) (by omega) fun r3 H3 s3 R3 => ?_
            have m := midR ltR
            have e : toR (qprt (qadd a b) 2) = (toR a + toR b) / 2 := half_R qa.pos qb.pos
            refine kk r3 _ H3 (s2.trans s3) (R3.mono (by omega)) ?_ ?_
            · show (ltq a (qprt (qadd a b) 2) || (false && eqq a (qprt (qadd a b) 2))) = true
              rw [(ltq_R qa.pos R3.pos).mpr (by rw [e]; exact m.1)]
              rfl
            · show (ltq (qprt (qadd a b) 2) b || (false && eqq (qprt (qadd a b) 2) b)) = true
              rw [(ltq_R R3.pos qb.pos).mpr (by rw [e]; exact m.2)]
              rfl
theorem ok_Stretch_shared {P : Program} {w : World} {K : PySem.W.Frag} {mg : Str → Option Value} {base : Heap} {φ : Fds} (T : Txt K mg φ) : FnOk P w K mg base CX0 6 (He.fAd K ("Stretch", some "shared")) φ.Stretch_shared p_Stretch_shared (sp_sh27 (He.ga K "Measure") (He.ga K "Stretch")) := by
  obtain ⟨_, B0v, B0⟩ := b_Stretch_cut_2 T
  obtain ⟨_, B1v, B1⟩ := b_some_measure_1 T
  refine T.f_Stretch_shared.ok sc_Stretch_shared (fun vs H Q E h => ?_) (fun cdv A outer s H vs Q E hr h => ?_)
  · obtain ⟨p, q, k, m1, m2, n1, n2, i1, i2, j1, j2, rfl, sp, sq, z1, z2, z3, z4, k0, k1, kk⟩ := h; rfl
  · obtain ⟨p, q, k, m1, m2, n1, n2, i1, i2, j1, j2, rfl, sp, sq, z1, z2, z3, z4, k0, k1, kk⟩ := h
    refine ⟨_, PSs.nox (pss_cons (ps_set (i := 2) sc_Stretch_shared.nd rfl (Or.inl rfl) (pe_meth (pv 0) T.cl_Stretch T.me_Stretch_cut (ok_Stretch_cut (K := K) T) (hr.mono (by decide)) B0 B0v pass0 (pa_cons (pv 1) pa_nil)))
      (pss_cons (ps_if (pt_cmpR op_isN (pv 2) pe_non (nomark _))
      (pss_one (ps_ret pe_non))
      pss_nil)
      (pss_one (ps_ret (pe_call (ok_some_measure (K := K) T) (hr.mono (by decide)) rfl T.g_some_measure T.f_some_measure.kp B1 B1v pass0 (pa_cons (pv 2) pa_nil)))))), ?_⟩
    have cl_Stretch := T.cl_Stretch
    have na_Stretch_low := T.na_Stretch_low
    have na_Stretch_high := T.na_Stretch_high
    have na_Stretch_low_in := T.na_Stretch_low_in
    have na_Stretch_high_in := T.na_Stretch_high_in
    
    obtain ⟨dx, fs, hx, no⟩ := sp.raw (m := "cut") (by decide +kernel) (by decide +kernel) (by decide +kernel) (by decide +kernel)
    refine ⟨_, rfl, p, dx, fs, rfl, hx, no, _, rfl, p, q, m1, m2, n1, n2, i1, i2, j1, j2, rfl, sp, sq, fun v H1 s1 c => ?_⟩
    refine ⟨_, rfl, rfl, _, rfl, ?_⟩
    rcases c with ⟨e, r, rfl, S⟩ | ⟨e, rfl⟩
    · refine iteDF (fun e => by cases e) ?_
      have so : someB (cutLo m1 i1 n1 j1).1 (cutHi m2 i2 n2 j2).1 ((cutLo m1 i1 n1 j1).2 && (cutLo m1 i1 n1 j1).1.isSome) ((cutHi m2 i2 n2 j2).2 && (cutHi m2 i2 n2 j2).1.isSome) = true := by
        revert e
        generalize cutLo m1 i1 n1 j1 = c
        generalize cutHi m2 i2 n2 j2 = d
        obtain ⟨c, i⟩ := c
        obtain ⟨d, j⟩ := d
        cases c <;> cases d <;> simp [someB]
      refine ⟨_, rfl, r, k, _, _, _, _, rfl, S, cutLo_sze z1 z3, cutHi_sze z2 z4, so, k0, k1, fun t z H2 s2 qz g1 g2 => ?_⟩
      rw [loIn_flag (x := cutLo m1 i1 n1 j1), cutLo_in sp.l1.posO sq.l1.posO qz.pos, Bool.and_eq_true] at g1
      rw [hiIn_flag (x := cutHi m2 i2 n2 j2), cutHi_in sp.l2.posO sq.l2.posO qz.pos, Bool.and_eq_true] at g2
      exact kk _ H2 (s1.trans s2) (.inl ⟨t, z, rfl, qz, g1.1, g2.1, g1.2, g2.2⟩)
    · refine iteDT rfl ?_
      exact kk _ H1 s1 (.inr ⟨e, rfl⟩)
theorem ok_shared_by {P : Program} {w : World} {K : PySem.W.Frag} {mg : Str → Option Value} {base : Heap} {φ : Fds} (T : Txt K mg φ) : FnOk P w K mg base CX0 7 (He.fAd K ("shared_by", none)) φ.shared_by p_shared_by (sp_shby (He.ga K "Measure") (He.ga K "Stretch")) := by
  obtain ⟨_, B0v, B0⟩ := b_Stretch_shared_2 T
  refine T.f_shared_by.ok sc_shared_by (fun vs H Q E h => ?_) (fun cdv A outer s H vs Q E hr h => ?_)
  · obtain ⟨v, w', k, zs, zt, r, rt, lo, hi, lt, ht, a, b, rfl, rv, rw', L, M, ha, hb, z1, z2, z3, z4, k0, k1, kk⟩ := h; rfl
  · obtain ⟨v, w', k, zs, zt, r, rt, lo, hi, lt, ht, a, b, rfl, rv, rw', L, M, ha, hb, z1, z2, z3, z4, k0, k1, kk⟩ := h
    refine ⟨_, PSs.nox (pss_cons (ps_if (PW.pt (pw_or (pt_cmpR op_isN (pv 0) pe_non (nomark _)) (pw_or1 (pt_cmpR op_isN (pv 1) pe_non (nomark _)))))
      (pss_one (ps_ret pe_non))
      pss_nil)
      (pss_one (ps_ret (pe_meth (pv 0) T.cl_Stretch T.me_Stretch_shared (ok_Stretch_shared (K := K) T) (hr.mono (by decide)) B0 B0v pass0 (pa_cons (pv 1) pa_nil))))), ?_⟩
    have cl_Stretch := T.cl_Stretch
    have na_Stretch_low := T.na_Stretch_low
    have na_Stretch_high := T.na_Stretch_high
    have na_Stretch_low_in := T.na_Stretch_low_in
    have na_Stretch_high_in := T.na_Stretch_high_in
    
    rcases rv with ⟨s1, p, rfl, m1, m2, S, r1, r2⟩ | ⟨s1, rfl⟩
    · rcases rw' with ⟨s2, q, rfl, n1, n2, S2, q1, q2⟩ | ⟨s2, rfl⟩
      · obtain ⟨dx, fs, hx, no⟩ := S.raw (m := "shared") (by decide +kernel) (by decide +kernel) (by decide +kernel) (by decide +kernel)
        refine ⟨_, rfl, rfl, _, rfl, iteDF (fun e => by cases e) ?_⟩
        refine ⟨_, rfl, rfl, _, rfl, iteDF (fun e => by cases e) ?_⟩
        obtain ⟨d1, va, vb, h1, ma, mb⟩ := S.ob
        obtain ⟨d2, vc, vd, h2, mc, md⟩ := S2.ob
        refine ⟨_, rfl, p, dx, fs, rfl, hx, no, _, rfl, p, q, k, m1, m2, n1, n2, _, _, _, _, rfl, S, S2, raw_sze ma S.l1 r1 z1, raw_sze mb S.l2 r2 z2, raw_sze mc S2.l1 q1 z3, raw_sze md S2.l2 q2 z4, k0, k1, fun u H' s m => ?_⟩
        exact kk u H' s (met_of L M ha hb S.l1.posO S.l2.posO S2.l1.posO S2.l2.posO r1 r2 q1 q2 m)
      · refine ⟨_, rfl, rfl, _, rfl, iteDF (fun e => by cases e) ?_⟩
        refine ⟨_, rfl, rfl, _, rfl, iteDT rfl ?_⟩
        exact kk _ H (Same.refl _) (.inr ⟨rfl, fun x f g => none_met M hb s2 g⟩)
    · refine ⟨_, rfl, rfl, _, rfl, iteDT rfl (iteT ?_)⟩
      exact kk _ H (Same.refl _) (.inr ⟨rfl, fun x f g => none_met L ha s1 f⟩)
theorem ok_common_measures {P : Program} {w : World} {K : PySem.W.Frag} {mg : Str → Option Value} {base : Heap} {φ : Fds} (T : Txt K mg φ) : FnOk P w K mg base CX0 8 (He.fAd K ("common_measures", none)) φ.common_measures p_common_measures (sp_common27 K (He.ga K "Measure") (He.ga K "Ladder")) := by
  obtain ⟨_, B0v, B0⟩ := b_Ladder_stretch_2 T
  obtain ⟨_, B1v, B1⟩ := b_Ladder_len_1 T
  obtain ⟨_, B2v, B2⟩ := b_shared_by_2 T
  refine T.f_common_measures.ok sc_common_measures (fun vs H Q E h => ?_) (fun cdv A outer s H vs Q E hr h => ?_)
  · obtain ⟨p, q, k, zs, zt, r, rt, lo, hi, lt, ht, a, rfl, hp, hq, ha, k0, k1, kk⟩ := h; rfl
  · obtain ⟨p, q, k, zs, zt, r, rt, lo, hi, lt, ht, a, rfl, hp, hq, ha, k0, k1, kk⟩ := h
    refine ⟨_, PSs.nox (pss_cons (ps_set (i := 3) sc_common_measures.nd rfl (Or.inr rfl) (pe_meth (pv 0) T.cl_Ladder T.me_Ladder_stretch (ok_Ladder_stretch (K := K) T) (hr.mono (by decide)) B0 B0v pass0 (pa_cons (pv 1) pa_nil)))
      (pss_one (ps_ret (pe_lc (own := [("size", 4)]) (g := gName 4) rfl sc_common_measures.nd (pi_range1 rfl T.z_range (pa_cons (pe_callB (id := "len") (call_lenO (ok_Ladder_len (K := K) T) T.me_Ladder_len (bnil B1v B1) pass0 (hr.mono (by decide))) (by rfl) T.z_len PySem.boot_len (pa_cons (pv 2) pa_nil)) pa_nil)) (blkOk_by (own := [("size", 4)]) (N := N_common_measures) (sc := (defScope s_common_measures)) (by decide +kernel)) (fun _ _ _ _ _ => (pg_name (i := 4) sc_common_measures.nd rfl (Or.inl rfl))) (fun _ _ _ _ _ => pts_nil) (fun _ _ _ _ _ => (pe_call (ok_shared_by (K := K) T) (hr.mono (by decide)) rfl T.g_shared_by T.f_shared_by.kp B2 B2v pass0 (pa_cons (pv 3) (pa_cons (pe_meth (pv 2) T.cl_Ladder T.me_Ladder_stretch (ok_Ladder_stretch (K := K) T) (hr.mono (by decide)) B0 B0v pass0 (pa_cons (pv 4) pa_nil)) pa_nil)))))))), ?_⟩
    have cl_Ladder := T.cl_Ladder
    have na_Ladder_marks := T.na_Ladder_marks
    have na_Ladder_rule := T.na_Ladder_rule
    have na_Ladder_least := T.na_Ladder_least
    have na_Ladder_most := T.na_Ladder_most
    
    obtain ⟨⟨dx, T', ps, l, h, hpp, hT, hm, ql, qh⟩, _⟩ := id hp
    obtain ⟨⟨dx2, T2, ps2, l2, h2, hqp, hT2, hm2, ql2, qh2⟩, _⟩ := id hq
    have sz1 := fun n => sizE_sz (n := n) (r := r) (szL_of hm) (szE_of ql) (szE_of qh)
    have sz2 := fun n => sizE_sz (n := n) (r := rt) (szL_of hm2) (szE_of ql2) (szE_of qh2)
    have l24 := hq.len1
    refine ⟨_, rfl, meth_l hp (by decide +kernel) (by decide +kernel) (by decide +kernel) (by decide +kernel) ⟨_, rfl, p, k, zs, r, lo, hi, a, rfl, hp, k0, by omega, ha, fun v H1 s1 c => ?_⟩⟩
    have rv := run_of c
    have hq1 := hq.same s1
    refine ⟨_, rfl, _, q, dx2, _, rfl, rfl, s1 _ _ hqp, q, k, zt, rt, lt, ht, rfl, hq1, zt.length, rfl, by omega, ?_⟩
    walk_at "w"
    intro D nD
    refine lcr (n := zt.length) walk_range (fun _ _ _ _ => trivial) (fun i H v => MetV (He.ga K "Measure") H (4 * k + 36) v (sizF zs r lo hi) (sizF zt rt lt ht) a i) (fun i H H' v q n => q.nl n) (szs (by omega)) trivial nD (fun i x H2 H3 N M hi' s2 yy hN => ?_) (fun H2 us s2 hD ly hy => ?_)
    · obtain ⟨rfl, rfl⟩ := yy
      have hq2 := hq1.same s2
      refine ⟨rfl, yesT ?_⟩
      refine ⟨_, rfl, _, rfl, meth_l hq2 (by decide +kernel) (by decide +kernel) (by decide +kernel) (by decide +kernel) ⟨_, rfl, q, k, zt, rt, lt, ht, i, by show [V.ref q, V.int (0 + (i : Int))] = _; rw [Int.zero_add], hq2, k0, by omega, hi', fun w' H4 s4 c2 => ?_⟩⟩
      refine ⟨v, w', k + k + 12, zs, zt, r, rt, lo, hi, lt, ht, a, i, rfl, (rv.same s2).same s4, run_of c2, ladq_of hp, ladq_of hq, ha, hi', (sz1 a).1, (sz1 a).2, (sz2 i).1, (sz2 i).2, by omega, by omega, fun u H5 s5 m => ?_⟩
      exact hN _ _ (s4.trans s5) ((show k + k + 12 + (k + k + 12) + 12 = 4 * k + 36 by omega) ▸ m)
    exact kk D us H2 (s1.trans s2) hD ly (fun b u hu => hy b u hu)
theorem ok_led {P : Program} {w : World} {K : PySem.W.Frag} {mg : Str → Option Value} {base : Heap} {φ : Fds} (T : Txt K mg φ) : FnOk P w K mg base CX0 9 (He.fAd K ("led", none)) φ.led p_led (sp_led K (He.ga K "Measure") (He.ga K "Ladder")) := by
  obtain ⟨_, B0v, B0⟩ := b_common_measures_3 T
  refine T.f_led.ok sc_led (fun vs H Q E h => ?_) (fun cdv A outer s H vs Q E hr h => ?_)
  · obtain ⟨p, q, k, zs, zt, r, rt, lo, hi, lt, ht, a, rfl, hp, hq, ha, k0, k1, kk⟩ := h; rfl
  · obtain ⟨p, q, k, zs, zt, r, rt, lo, hi, lt, ht, a, rfl, hp, hq, ha, k0, k1, kk⟩ := h
    refine ⟨_, PSs.nox (pss_cons (ps_set (i := 3) sc_led.nd rfl (Or.inl rfl) (pe_call (ok_common_measures (K := K) T) (hr.mono (by decide)) rfl T.g_common_measures T.f_common_measures.kp B0 B0v pass0 (pa_cons (pv 0) (pa_cons (pv 1) (pa_cons (pv 2) pa_nil)))))
      (pss_cons (ps_setLc (i := 4) (own := [("size", 5), ("measure", 6)]) (g := gTup K 2 (gCons (gName 5) (gCons (gName 6) (gNil)))) rfl sc_led.nd rfl rfl (sw_true rfl rfl rfl (by decide +kernel)) (pi_enum (by rfl) T.z_enumerate (pa_cons (pv 3) pa_nil)) (blkOk_by (own := [("size", 5), ("measure", 6)]) (N := N_led) (sc := (defScope s_led)) (by decide +kernel)) (fun _ _ _ _ _ => (pg_tup rfl (pgs_cons (pg_name (i := 5) sc_led.nd rfl (Or.inl rfl)) (pgs_cons (pg_name (i := 6) sc_led.nd rfl (Or.inl rfl)) pgs_nil)))) (fun _ _ _ _ _ => (pts_one (pt_cmpR op_notN (pv 6) pe_non (nomark _)))) (fun _ _ _ _ _ => (pv 5)))
      (pss_cons (ps_if (pt_cmpR op_eq (pe_callB (id := "len") (lenS (K := K)) (by rfl) T.z_len PySem.boot_len (pa_cons (pv 4) pa_nil)) pe_int (nomark _))
      (pss_one (ps_ret pe_non))
      pss_nil)
      (pss_one (ps_ret (pe_tup (pa_cons (pe_ix (ixl (K := K)) (pv 4) pe_int (fun _ _ => rfl)) (pa_cons (pe_ix (ixl (K := K)) (pv 4) (pe_un un_neg pe_int) (fun _ _ => rfl)) pa_nil)))))))), ?_⟩
    have cl_Ladder := T.cl_Ladder
    have na_Ladder_marks := T.na_Ladder_marks
    have na_Ladder_rule := T.na_Ladder_rule
    have na_Ladder_least := T.na_Ladder_least
    have na_Ladder_most := T.na_Ladder_most
    
    have l24 := hq.len1
    have LQ := ladq_of hq
    refine ⟨_, rfl, _, rfl, _, rfl, p, q, k, zs, zt, r, rt, lo, hi, lt, ht, a, rfl, hp, hq, ha, k0, k1, fun D us H1 s1 hD ly hus => ?_⟩
    refine ⟨_, rfl, D, _, rfl, SqL.of hD, ?_⟩
    intro E nE
    refine lcz (n := us.length) walk_enum (fun _ _ g s => s.seq g) (oIdx us.length (metC us)) (oIdx_len _ _) (szs (by omega)) (SqL.of hD) nE (fun i x H2 H3 o N M hi' ho s2 y hN hM => ?_) (fun H2 s2 hE => ?_)
    · obtain ⟨t, a0, b0, rfl, nt, rfl, ha0, hb0⟩ := y
      cases ha0
      have eo := oIdx_get ho
      replace hb0 : us[i]? = some b0 := hb0
      rw [metC_at hb0] at eo
      refine ⟨t, _, rfl, SqT.of upd_same, rfl, _, _, rfl, _, _, rfl, rfl, rfl, ?_⟩
      refine ⟨_, rfl, rfl, _, rfl, ?_⟩
      show if (!decide (b0 = V.non)) = true then _ else _
      refine ite2 (fun e => ?_) (fun e => ?_)
      · exact ⟨_, rfl, hN _ _ (by rw [eo, if_pos e]) (same1 nt)⟩
      · exact hM _ (by rw [eo, if_neg e]) (same1 nt)
    rw [oIdx_fm] at hE
    have s02 := s1.trans s2
    have metx : ∀ b, metC us b = true ↔ b < zt.length ∧ ∃ x, sizF zs r lo hi x = some a ∧ sizF zt rt lt ht x = some b := fun b => by
      by_cases hb : b < us.length
      · have hu : us[b]? = some us[b] := List.getElem?_eq_getElem hb
        rw [metC_at hu, met_non (hus b _ hu)]
        exact ⟨fun h => ⟨by omega, h⟩, fun h => h.2⟩
      · constructor
        · intro h
          unfold metC at h
          rw [List.getElem?_eq_none (by omega)] at h
          cases h
        · intro h
          exact absurd h.1 (by omega)
    have below : ∀ b x, sizF zt rt lt ht x = some b → b < zt.length := fun b x h => sizeQ_lt h
    refine ⟨_, rfl, E, _, rfl, .inl (SqL.of hE), rfl, _, rfl, ?_⟩
    by_cases ne : idx us.length (metC us) = []
    · rw [ne]
      refine iteDT rfl ?_
      refine kk _ none H2 s02 rfl fun b hb x f g => ?_
      have hm := (metx b).mpr ⟨hb, x, f, g⟩
      have : ((b : Nat) : Int) ∈ idx us.length (metC us) := idx_mem.mpr ⟨b, by omega, hm, rfl⟩
      rw [ne] at this
      cases this
    · obtain ⟨c, hc0, lc, mc, hmin⟩ := idx_first ne
      obtain ⟨d, hd0, ld, md, hmax⟩ := idx_last ne
      have l0 := List.length_pos_iff.mpr ne
      refine iteDF (fun e => by have e := V.int.inj e; rw [List.length_map] at e; omega) ?_
      have hat0 : atI ((idx us.length (metC us)).map V.int) 0 = some (.int (c : Int)) := atI_nat (j := 0) (mapI hc0)
      have hat1 : atI ((idx us.length (metC us)).map V.int) (-1) = some (.int (d : Int)) := atI_end (n := (idx us.length (metC us)).length - 1) (by have h9 : ((idx us.length (metC us)).map V.int).length = (idx us.length (metC us)).length := List.length_map ..; omega) (mapI hd0)
      refine ⟨_, rfl, E, _, _, _, rfl, rfl, SqL.of hE, hat0, _, rfl, _, rfl, E, _, _, _, rfl, rfl, SqL.of hE, hat1, szl (Nat.le_of_ble_eq_true rfl), fun t nt => ?_⟩
      refine kk (.ref t) (some (c, d)) _ (s02.up nt) ⟨t, rfl, upd_same⟩ ⟨by omega, by omega, hmin d ld md, ((metx c).mp mc).2, ((metx d).mp md).2, fun b x f g => ?_⟩
      have hb := below b x g
      have hm := (metx b).mpr ⟨hb, x, f, g⟩
      exact ⟨hmin b (by omega) hm, hmax b (by omega) hm⟩
theorem ok_led_paper {P : Program} {w : World} {K : PySem.W.Frag} {mg : Str → Option Value} {base : Heap} {φ : Fds} (T : Txt K mg φ) : FnOk P w K mg base CX0 9 (He.fAd K ("led_paper", none)) φ.led_paper p_led_paper (sp_ledpap K (He.ga K "Measure") (He.ga K "Ladder")) := by
  obtain ⟨_, B0v, B0⟩ := b_common_measures_3 T
  refine T.f_led_paper.ok sc_led_paper (fun vs H Q E h => ?_) (fun cdv A outer s H vs Q E hr h => ?_)
  · obtain ⟨p, q, k, zs, zt, r, rt, lo, hi, lt, ht, a, rfl, hp, hq, ha, k0, k1, kk⟩ := h; rfl
  · obtain ⟨p, q, k, zs, zt, r, rt, lo, hi, lt, ht, a, rfl, hp, hq, ha, k0, k1, kk⟩ := h
    refine ⟨_, PSs.nox (pss_one (ps_ret (pe_callTy (T := "tuple") (tupleL (K := K)) (by rfl) T.z_tuple (by decide +kernel) (pa_cons (pe_lc (own := [("measure", 3)]) (g := gName 3) rfl sc_led_paper.nd (pi_list (pe_call (ok_common_measures (K := K) T) (hr.mono (by decide)) rfl T.g_common_measures T.f_common_measures.kp B0 B0v pass0 (pa_cons (pv 0) (pa_cons (pv 1) (pa_cons (pv 2) pa_nil))))) (blkOk_by (own := [("measure", 3)]) (N := N_led_paper) (sc := (defScope s_led_paper)) (by decide +kernel)) (fun _ _ _ _ _ => (pg_name (i := 3) sc_led_paper.nd rfl (Or.inl rfl))) (fun _ _ _ _ _ => (pts_one (pt_cmpR op_notN (pv 3) pe_non (nomark _)))) (fun _ _ _ _ _ => (pv 3))) pa_nil)))), ?_⟩
    have cl_Ladder := T.cl_Ladder
    have na_Ladder_marks := T.na_Ladder_marks
    have na_Ladder_rule := T.na_Ladder_rule
    have na_Ladder_least := T.na_Ladder_least
    have na_Ladder_most := T.na_Ladder_most
    
    have l24 := hq.len1
    refine ⟨_, rfl, _, rfl, _, rfl, p, q, k, zs, zt, r, rt, lo, hi, lt, ht, a, rfl, hp, hq, ha, k0, k1, fun D us H1 s1 hD ly hus => ?_⟩
    refine ⟨D, rfl, ⟨_, SqL.of hD⟩, fun E nE => ?_⟩
    refine lcz (n := us.length) walk_list (fun _ _ g s => s.seq g) (us.map fun v => if (!decide (v = V.non)) = true then some v else none) (by rw [List.length_map]) (szs (by omega)) (SqL.of hD) nE (fun i x H4 H5 z N M hi' hz s4 yy hy hn => ?_) (fun H4 s4 hE => ?_)
    · obtain ⟨rfl, hx⟩ := yy
      rw [List.getElem?_map, hx] at hz
      have hz : (if (!decide (x = V.non)) = true then some x else none) = z := Option.some.inj hz
      refine ⟨rfl, _, rfl, rfl, _, rfl, ?_⟩
      show if (!decide (x = V.non)) = true then _ else _
      refine ite2 (fun e => ?_) (fun e => ?_)
      · exact ⟨_, rfl, hy _ _ (by rw [← hz, if_pos e]) (Same.refl _)⟩
      · exact hn _ (by rw [← hz, if_neg e]) (Same.refl _)
    rw [nn_fm] at hE
    obtain ⟨bs, P⟩ := pap_of (us := us) (off := 0) (fun i u e => by rw [Nat.zero_add]; exact (hus i u e).nl (Nl.of s4))
    have lf := List.length_filter_le (fun v => !decide (v = V.non)) us
    refine ⟨E, _, rfl, .inl (Rd.of hE), fun T' nT => ?_⟩
    refine kk T' _ bs _ ((s1.trans s4).up nT) upd_same (by omega) ?_
    rw [ly] at P
    exact PapS.same P (same1 nT)
theorem ok_comes_to {P : Program} {w : World} {K : PySem.W.Frag} {mg : Str → Option Value} {base : Heap} {φ : Fds} (T : Txt K mg φ) : FnOk P w K mg base CX0 8 (He.fAd K ("comes_to", none)) φ.comes_to p_comes_to (sp_comes K (He.ga K "Measure") (He.ga K "Ladder")) := by
  obtain ⟨_, B0v, B0⟩ := b_Ladder_size_2 T
  refine T.f_comes_to.ok sc_comes_to (fun vs H Q E h => ?_) (fun cdv A outer s H vs Q E hr h => ?_)
  · obtain ⟨q, t, k, zs, r, lo, hi, z, n, rfl, hq, qz, k0, k1, f, kk⟩ := h; rfl
  · obtain ⟨q, t, k, zs, r, lo, hi, z, n, rfl, hq, qz, k0, k1, f, kk⟩ := h
    refine ⟨_, PSs.nox (pss_one (ps_ret (pe_and (pe_callB (id := "isinstance") (isi (K := K)) (by rfl) T.z_isinstance (by decide +kernel) (pa_cons (pv 1) (pa_cons (pe_glob (v := .ref (He.ga K "Measure")) rfl T.g_Measure rfl) pa_nil))) (pe_one (pe_cmpR op_eq (pe_meth (pv 0) T.cl_Ladder T.me_Ladder_size (ok_Ladder_size (K := K) T) (hr.mono (by decide)) B0 B0v pass0 (pa_cons (pv 1) pa_nil)) (pv 2) (nomark _)))))), ?_⟩
    have cl_Ladder := T.cl_Ladder
    have na_Ladder_marks := T.na_Ladder_marks
    have na_Ladder_rule := T.na_Ladder_rule
    have na_Ladder_least := T.na_Ladder_least
    have na_Ladder_most := T.na_Ladder_most
    have cl_Measure := T.cl_Measure
    have na_Measure_top := T.na_Measure_top
    have na_Measure_bottom := T.na_Measure_bottom
    
    obtain ⟨t1, u1, ⟨dx, hM⟩, _⟩ := id qz.ob
    refine ⟨_, rfl, _, _, _, _, true, rfl, .own _, tyM hM T.cl_Measure T.ii_Measure, T.k_Measure_Measure, _, rfl, iteT ?_⟩
    refine ⟨_, rfl, meth_l hq (by decide +kernel) (by decide +kernel) (by decide +kernel) (by decide +kernel) ⟨_, rfl, q, t, _, zs, r, lo, hi, z, rfl, hq, qz, by omega, by omega, fun H1 s1 => ?_⟩⟩
    rw [sizF_eq (ladq_of hq) qz.pos, f]
    refine ⟨_, rfl, rfl, ?_⟩
    rw [show decide (optI (some n) = V.int (n : Int)) = true from decide_eq_true rfl]
    exact kk H1 s1
theorem ok_is_tuple_of {P : Program} {w : World} {K : PySem.W.Frag} {mg : Str → Option Value} {base : Heap} {φ : Fds} (T : Txt K mg φ) : FnOk P w K mg base CX0 1 (He.fAd K ("is_tuple_of", none)) φ.is_tuple_of p_is_tuple_of (sp_istupU K) := by
  refine T.f_is_tuple_of.ok sc_is_tuple_of (fun vs H Q E h => ?_) (fun cdv A outer s H vs Q E hr h => ?_)
  · obtain ⟨a, xs, n, rfl, hT, kk⟩ := h; rfl
  · obtain ⟨a, xs, n, rfl, hT, kk⟩ := h
    refine ⟨_, PSs.nox (pss_one (ps_ret (pe_and (pe_callB (id := "isinstance") (isi (K := K)) (by rfl) T.z_isinstance (by decide +kernel) (pa_cons (pv 0) (pa_cons (pe_bltn (v := .ty "tuple") rfl T.z_tuple (by decide +kernel) rfl) pa_nil))) (pe_one (pe_cmpR op_eq (pe_callB (id := "len") (lenS (K := K)) (by rfl) T.z_len PySem.boot_len (pa_cons (pv 0) pa_nil)) (pv 1) (nomark _)))))), ?_⟩
    walk_at "w"
    refine ⟨_, _, _, rfl, .ty _, tyTup hT, kit_ty (r := true) (by decide +kernel), ?_⟩
    walk_at "w"
    have e : decide (V.int ((xs.length : Nat) : Int) = V.int n) = decide ((xs.length : Int) = n) := decide_eq_decide.mpr ⟨fun h => V.int.inj h, fun h => by rw [h]⟩
    rw [e]
    exact kk
theorem ok_is_paper {P : Program} {w : World} {K : PySem.W.Frag} {mg : Str → Option Value} {base : Heap} {φ : Fds} (T : Txt K mg φ) : FnOk P w K mg base CX0 9 (He.fAd K ("is_paper", none)) φ.is_paper p_is_paper (sp_ispap K (He.ga K "Measure") (He.ga K "Ladder")) := by
  obtain ⟨_, B0v, B0⟩ := b_is_tuple_of_2 T
  obtain ⟨_, B1v, B1⟩ := b_comes_to_3 T
  refine T.f_is_paper.ok sc_is_paper (fun vs H Q E h => ?_) (fun cdv A outer s H vs Q E hr h => ?_)
  · obtain ⟨p, q, T1, S, k, zs, zt, r, rt, lo, hi, lt, ht, a, c, d, ys, rfl, hp, hq, k0, k1, hT, hS, cd, d24, ly, all, kk⟩ := h; rfl
  · obtain ⟨p, q, T1, S, k, zs, zt, r, rt, lo, hi, lt, ht, a, c, d, ys, rfl, hp, hq, k0, k1, hT, hS, cd, d24, ly, all, kk⟩ := h
    refine ⟨_, PSs.nox (pss_cons (ps_asg (pv 3) (pg_tup rfl (pgs_cons (pg_name (i := 5) sc_is_paper.nd rfl (Or.inr rfl)) (pgs_cons (pg_name (i := 6) sc_is_paper.nd rfl (Or.inl rfl)) pgs_nil))))
      (pss_cons (ps_if (pt_not (pt_val (pe_call (ok_is_tuple_of (K := K) T) (hr.mono (by decide)) rfl T.g_is_tuple_of T.f_is_tuple_of.kp B0 B0v pass0 (pa_cons (pv 4) (pa_cons (pe_op op_add (pe_op op_sub (pv 6) (pv 5)) pe_int) pa_nil)))))
      (pss_one (ps_ret pe_bl))
      pss_nil)
      (pss_one (ps_ret (pe_callB (id := "all") (allK (K := K)) (by rfl) T.z_all (by decide +kernel) (pa_cons (pe_lc (own := [("at", 7), ("measure", 8)]) (g := gTup K 2 (gCons (gName 7) (gCons (gName 8) (gNil)))) rfl sc_is_paper.nd (pi_enumT (by rfl) T.z_enumerate (pa_cons (pv 4) pa_nil)) (blkOk_by (own := [("at", 7), ("measure", 8)]) (N := N_is_paper) (sc := (defScope s_is_paper)) (by decide +kernel)) (fun _ _ _ _ _ => (pg_tup rfl (pgs_cons (pg_name (i := 7) sc_is_paper.nd rfl (Or.inl rfl)) (pgs_cons (pg_name (i := 8) sc_is_paper.nd rfl (Or.inl rfl)) pgs_nil)))) (fun _ _ _ _ _ => pts_nil) (fun _ _ _ _ _ => (pe_and (pe_call (ok_comes_to (K := K) T) (hr.mono (by decide)) rfl T.g_comes_to T.f_comes_to.kp B1 B1v pass0 (pa_cons (pv 0) (pa_cons (pv 8) (pa_cons (pv 1) pa_nil)))) (pe_one (pe_call (ok_comes_to (K := K) T) (hr.mono (by decide)) rfl T.g_comes_to T.f_comes_to.kp B1 B1v pass0 (pa_cons (pv 2) (pa_cons (pv 8) (pa_cons (pe_op op_add (pv 5) (pv 7)) pa_nil)))))))) pa_nil)))))), ?_⟩
    have cl_Ladder := T.cl_Ladder
    have na_Ladder_marks := T.na_Ladder_marks
    have na_Ladder_rule := T.na_Ladder_rule
    have na_Ladder_least := T.na_Ladder_least
    have na_Ladder_most := T.na_Ladder_most
    have cl_Measure := T.cl_Measure
    have na_Measure_top := T.na_Measure_top
    have na_Measure_bottom := T.na_Measure_bottom
    
    have sS := SqT.of (K := K) hS
    refine ⟨_, rfl, T1, _, rfl, SqT.of hT, rfl, _, _, rfl, _, _, rfl, rfl, ?_⟩
    refine ⟨_, rfl, _, rfl, _, rfl, _, _, rfl, rfl, _, _, rfl, rfl, S, ys, _, rfl, sS, _, rfl, ?_⟩
    rw [decide_eq_true (show ((ys.length : Nat) : Int) = (d : Int) - (c : Int) + 1 by omega)]
    refine iteF ?_
    refine ⟨_, rfl, S, ys, rfl, sS, fun D nD => ?_⟩
    refine lcz (n := ys.length) walk_enumT (fun _ _ g s => s.sqt g) (List.replicate ys.length (some (V.bl true))) List.length_replicate (szs (by omega)) sS nD (fun i x H3 H4 o N M hi' ho s3 y hN hM => ?_) (fun H3 s3 hD => ?_)
    · obtain ⟨t, a0, b0, rfl, nt, rfl, ha0, hb0⟩ := y
      cases ha0
      rw [List.getElem?_replicate, if_pos hi'] at ho
      cases ho
      obtain ⟨m, z, rfl, qz, f, g⟩ := all i b0 hb0
      have s4 := s3.trans (same1 (u := .tup [.int (i : Nat), .ref m]) nt)
      refine ⟨t, _, rfl, SqT.of upd_same, rfl, _, _, rfl, _, _, rfl, rfl, rfl, yesT ?_⟩
      refine ⟨_, rfl, _, rfl, _, rfl, p, m, k, zs, r, lo, hi, z, a, rfl, hp.same s4, qz.same s4, k0, k1, f, fun H5 s5 => ?_⟩
      refine ⟨_, rfl, iteT ?_⟩
      refine ⟨_, rfl, _, rfl, _, rfl, _, rfl, _, _, rfl, rfl, q, m, k, zt, rt, lt, ht, z, c + i, rfl, (hq.same s4).same s5, (qz.same s4).same s5, k0, k1, g, fun H6 s6 => ?_⟩
      exact hN _ _ rfl ((same1 nt : Same H3 _).trans (s5.trans s6))
    rw [rep_fm] at hD
    refine ⟨D, _, rfl, SqL.of hD, ?_⟩
    rw [rep_all]
    exact kk _ s3
theorem ok_are_wholes {P : Program} {w : World} {K : PySem.W.Frag} {mg : Str → Option Value} {base : Heap} {φ : Fds} (T : Txt K mg φ) : FnOk P w K mg base CX0 2 (He.fAd K ("are_wholes", none)) φ.are_wholes p_are_wholes (sp_arew K) := by
  obtain ⟨_, B0v, B0⟩ := b_is_whole_1 T
  refine T.f_are_wholes.ok sc_are_wholes (fun vs H Q E h => ?_) (fun cdv A outer s H vs Q E hr h => ?_)
  · obtain ⟨a, ns, rfl, hT, hn, kk⟩ := h; rfl
  · obtain ⟨a, ns, rfl, hT, hn, kk⟩ := h
    refine ⟨_, PSs.nox (pss_one (ps_ret (pe_and (pe_callB (id := "isinstance") (isi (K := K)) (by rfl) T.z_isinstance (by decide +kernel) (pa_cons (pv 0) (pa_cons (pe_bltn (v := .ty "tuple") rfl T.z_tuple (by decide +kernel) rfl) pa_nil))) (pe_one (pe_callB (id := "all") (allK (K := K)) (by rfl) T.z_all (by decide +kernel) (pa_cons (pe_lc (own := [("part", 1)]) (g := gName 1) rfl sc_are_wholes.nd (pi_tup (pv 0)) (blkOk_by (own := [("part", 1)]) (N := N_are_wholes) (sc := (defScope s_are_wholes)) (by decide +kernel)) (fun _ _ _ _ _ => (pg_name (i := 1) sc_are_wholes.nd rfl (Or.inl rfl))) (fun _ _ _ _ _ => pts_nil) (fun _ _ _ _ _ => (pe_call (ok_is_whole (K := K) T) (hr.mono (by decide)) rfl T.g_is_whole T.f_is_whole.kp B0 B0v pass0 (pa_cons (pv 1) pa_nil)))) pa_nil)))))), ?_⟩
    walk_at "w"
    refine ⟨_, _, _, rfl, .ty _, tyTup hT, kit_ty (r := true) (by decide +kernel), ?_⟩
    walk_at "w"
    refine ⟨⟨_, hT⟩, fun D nD => ?_⟩
    refine lcz (n := (ns.map V.int).length) walk_tup (fun _ _ g s => s.sqt g) (List.replicate (ns.map V.int).length (some (V.bl true))) List.length_replicate (szs (by rw [List.length_map]; omega)) hT nD (fun i x H1 H2 o N M hi ho s1 yy hN hM => ?_) (fun H1 s1 hD => ?_)
    · obtain ⟨rfl, hx⟩ := yy
      obtain ⟨z, _, rfl⟩ := List.mem_map.mp (List.mem_of_getElem? hx)
      rw [List.getElem?_replicate, if_pos hi] at ho
      cases ho
      refine ⟨rfl, yesT ?_⟩
      walk_at "w"
      exact hN _ _ rfl (Same.refl _)
    rw [filT] at hD
    refine ⟨D, _, rfl, SqL.of hD, ?_⟩
    rw [allT]
    exact kk _ s1
theorem ok_shows_led {P : Program} {w : World} {K : PySem.W.Frag} {mg : Str → Option Value} {base : Heap} {φ : Fds} (T : Txt K mg φ) : FnOk P w K mg base CX0 10 (He.fAd K ("shows_led", none)) φ.shows_led p_shows_led (sp_shled K (He.ga K "Measure") (He.ga K "Ladder")) := by
  obtain ⟨_, B0v, B0⟩ := b_has_size_2 T
  obtain ⟨_, B1v, B1⟩ := b_led_3 T
  obtain ⟨_, B2v, B2⟩ := b_is_tuple_of_2 T
  obtain ⟨_, B3v, B3⟩ := b_is_paper_5 T
  obtain ⟨_, B4v, B4⟩ := b_are_wholes_1 T
  refine T.f_shows_led.ok sc_shows_led (fun vs H Q E h => ?_) (fun cdv A outer s H vs Q E hr h => ?_)
  · obtain ⟨p, q, S, v, k, zs, zt, r, rt, lo, hi, lt, ht, a, u, ys, bs, rfl, hp, hq, ha, k0, k1, lv, ls, hS, P, kk⟩ := h; rfl
  · obtain ⟨p, q, S, v, k, zs, zt, r, rt, lo, hi, lt, ht, a, u, ys, bs, rfl, hp, hq, ha, k0, k1, lv, ls, hS, P, kk⟩ := h
    refine ⟨_, PSs.nox (pss_cons (ps_if (pt_not (pt_val (pe_call (ok_has_size (K := K) T) (hr.mono (by decide)) rfl T.g_has_size T.f_has_size.kp B0 B0v pass0 (pa_cons (pv 0) (pa_cons (pv 1) pa_nil)))))
      (pss_one (ps_ret pe_bl))
      pss_nil)
      (pss_cons (ps_set (i := 5) sc_shows_led.nd rfl (Or.inl rfl) (pe_call (ok_led (K := K) T) (hr.mono (by decide)) rfl T.g_led T.f_led.kp B1 B1v pass0 (pa_cons (pv 0) (pa_cons (pv 1) (pa_cons (pv 2) pa_nil)))))
      (pss_cons (ps_if (pt_cmpR op_isN (pv 5) pe_non (nomark _))
      (pss_one (ps_ret (pe_and (pe_cmpR op_isN (pv 3) pe_non (nomark _)) (pe_one (pe_call (ok_is_tuple_of (K := K) T) (hr.mono (by decide)) rfl T.g_is_tuple_of T.f_is_tuple_of.kp B2 B2v pass0 (pa_cons (pv 4) (pa_cons pe_int pa_nil)))))))
      pss_nil)
      (pss_one (ps_ret (pe_and (pe_call (ok_are_wholes (K := K) T) (hr.mono (by decide)) rfl T.g_are_wholes T.f_are_wholes.kp B4 B4v pass0 (pa_cons (pv 3) pa_nil)) (pe_and (pe_cmpR (eqDK (K := K) hr.units) (pv 3) (pv 5) (nomark _)) (pe_one (pe_call (ok_is_paper (K := K) T) (hr.mono (by decide)) rfl T.g_is_paper T.f_is_paper.kp B3 B3v pass0 (pa_cons (pv 0) (pa_cons (pv 1) (pa_cons (pv 2) (pa_cons (pv 5) (pa_cons (pv 4) pa_nil)))))))))))))), ?_⟩
    have cl_Ladder := T.cl_Ladder
    have na_Ladder_marks := T.na_Ladder_marks
    have na_Ladder_rule := T.na_Ladder_rule
    have na_Ladder_least := T.na_Ladder_least
    have na_Ladder_most := T.na_Ladder_most
    have cl_Measure := T.cl_Measure
    have na_Measure_top := T.na_Measure_top
    have na_Measure_bottom := T.na_Measure_bottom
    
    have l24 := hq.len1
    refine ⟨_, rfl, _, rfl, p, k, zs, r, lo, hi, a, rfl, hp, ha, _, rfl, iteF ?_⟩
    refine ⟨_, rfl, _, rfl, _, rfl, p, q, k, zs, zt, r, rt, lo, hi, lt, ht, a, rfl, hp, hq, ha, k0, by omega, fun w' u' H1 s1 lw ls' => ?_⟩
    have eu := LedS.uniq ls' ls
    subst eu
    have hS1 := s1 _ _ hS
    cases u' with
    | none =>
      cases (show v = V.non from lv)
      cases (show w' = V.non from lw)
      have e := pap_none P ls
      subst e
      refine ⟨_, rfl, rfl, _, rfl, iteDT rfl ?_⟩
      refine ⟨_, rfl, rfl, _, rfl, iteDT rfl ?_⟩
      exact ⟨_, rfl, S, [], 0, rfl, SqT.of hS1, kk H1 s1⟩
    | some cd =>
      obtain ⟨c, d⟩ := cd
      obtain ⟨Tv, rfl, hv⟩ := lv
      obtain ⟨Tw, rfl, hw⟩ := lw
      have R := pap_run (ladq_of hp) (ladq_of hq) P ls
      have hv1 := s1 _ _ hv
      refine ⟨_, rfl, rfl, _, rfl, iteDF (fun e => by cases e) ?_⟩
      refine ⟨_, rfl, Tv, [(c : Int), (d : Int)], rfl, SqT.of hv1, Nat.le_of_ble_eq_true rfl, fun H2 s2 => ?_⟩
      refine ⟨_, rfl, iteT ?_⟩
      refine ⟨_, rfl, _, rfl, intsD [(c : Int), (d : Int)], intsD [(c : Int), (d : Int)], dpT (s2 _ _ hv1), dpT (s2 _ _ hw), rfl, rfl, _, rfl, ?_⟩
      rw [eqv_intsD, decide_eq_true rfl]
      refine iteT ?_
      have s12 := s1.trans s2
      obtain ⟨h1, h2, h3, _, _, _⟩ := ls
      refine ⟨_, rfl, _, rfl, _, rfl, _, rfl, _, rfl, p, q, Tw, S, 4 * k + 36, zs, zt, r, rt, lo, hi, lt, ht, a, c, d, ys, rfl, (hp.same s12).mono (by omega), (hq.same s12).mono (by omega), by omega, by omega, s2 _ _ hw, s12 _ _ hS, h3, by omega, R.1, fun i y e => ?_, fun H3 s3 => kk H3 (s12.trans s3)⟩
      obtain ⟨t, z, e1, q1, f, g⟩ := R.2 i y e
      exact ⟨t, z, e1, q1.same s12, f, g⟩
theorem ok_l_begin {P : Program} {w : World} {K : PySem.W.Frag} {mg : Str → Option Value} {base : Heap} {φ : Fds} (T : Txt K mg φ) : FnOk P w K mg base CX0 1 (He.fAd K ("_law_begin", none)) φ.l_begin p_l_begin (sp_begin K) := by
  refine T.f_l_begin.ok sc_l_begin (fun vs H Q E h => ?_) (fun cdv A outer s H vs Q E hr h => ?_)
  · obtain ⟨a, ns, rfl, hS, hn, kk⟩ := h; rfl
  · obtain ⟨a, ns, rfl, hS, hn, kk⟩ := h
    refine ⟨_, PSs.nox (pss_cons (ps_par (i := 1) (j := 2) rfl sc_l_begin.nd rfl rfl (by decide) rfl rfl (pa_cons pe_int (pa_cons (pe_lst pa_nil) pa_nil)) (by rfl))
      (pss_cons (ps_for PassesOwn.never rfl (pi_enum (by rfl) T.z_enumerate (pa_cons (pe_slice (slL (K := K)) (pv 0) po_none (po_some pe_int)) pa_nil)) (pg_tup rfl (pgs_cons (pg_name (i := 3) sc_l_begin.nd rfl (Or.inl rfl)) (pgs_cons (pg_name (i := 4) sc_l_begin.nd rfl (Or.inl rfl)) pgs_nil)))
      (pss_cons (ps_set (i := 1) sc_l_begin.nd rfl (Or.inl rfl) (pe_op op_mod (pe_op op_add (pe_op op_add (pe_op op_add (pe_op op_mulA (pv 1) pe_int) (pe_op op_mod (pv 4) (pe_op op_pow pe_int pe_int))) (pe_op op_mulA pe_int (pv 3))) pe_int) pe_int))
      (pss_one (ps_if (pt_cmpR op_ge (pv 4) (pe_op op_pow pe_int pe_int) (nomark _))
      (pss_one (ps_expr (pe_bm PySem.F.plainAttrs_list PySem.F.slot_list_append PySem.F.type_list_append mt_append (pv 2) (pa_cons (pv 4) pa_nil))))
      pss_nil))))
      (pss_one (ps_ret (pe_lst (pa_cons (pv 2) (pa_cons (pv 1) (pa_cons pe_int pa_nil)))))))), ?_⟩
    walk_at "w"
    intro G nG
    have sG := same1 (u := .lst []) nG
    have hG : (upd H G (.lst [])) G = some (.lst []) := upd_same
    have nlG : ∀ b, H b = none → b ≠ G → (upd H G (.lst [])) b = none := fun b e n => by rw [upd_ne n]; exact e
    generalize upd H G (.lst []) = H1 at *
    refine ⟨_, _, rfl, ?_⟩
    walk_at "w"
    all_goals (try exact (ns.map V.int : List V))
    refine ⟨sG.seq hS, ?_⟩
    intro L3 nL3
    have ec : cutV (ns.map V.int) none (some 63) = ns.map V.int := (cutV_take (ns.map V.int) (n := 63) rfl).trans (List.take_of_length_le (by rw [List.length_map]; exact hn))
    rw [ec]
    have s3 := sG.trans (same1 (u := .lst (ns.map V.int)) nL3)
    have hG3 := up1 (u := .lst (ns.map V.int)) nL3 hG
    have hL3 : (upd H1 L3 (.lst (ns.map V.int))) L3 = some (.lst (ns.map V.int)) := upd_same
    have neL : L3 ≠ G := fun q => by rw [q, hG] at nL3; cases nL3
    generalize upd H1 L3 (.lst (ns.map V.int)) = H3 at *
    walk_at "w"
    refine for_it walk_enum (fun i σ H' => ∃ (sd : Int) (gs : List Int), (∃ v1 v2, σ = [some (.ref a), some (.int sd), some (.ref G), v1, v2]) ∧ 0 ≤ sd ∧ sd < 2305843009213693951 ∧ (∀ c o, H3 c = some o → c ≠ G → H' c = some o) ∧ H' G = some (.lst (gs.map V.int)) ∧ (∀ z ∈ gs, 0 ≤ z) ∧ gs.length ≤ i) ⟨271828183, [], ⟨_, _, rfl⟩, by decide, by decide, fun c o e _ => e, hG3, fun _ h => (nomatch h), Nat.le_refl _⟩ (fun i σ H' _ q => by obtain ⟨_, _, _, _, _, k, _⟩ := q; exact SqL.of (K := K) (k _ _ hL3 neL)) ?_ ?_
    · rintro i x σ H4 H5 hi ⟨sd, gs, ⟨v1, v2, rfl⟩, b0, b1, k, hg, g0, g1⟩ hY
      obtain ⟨T, y1, y2, rfl, nT, rfl, e1, e2⟩ := hY
      cases e1
      obtain ⟨c, rfl⟩ : ∃ c : Int, y2 = V.int c := by
        replace e2 : (ns.map V.int)[i]? = some y2 := e2
        rw [List.getElem?_map] at e2
        cases e3 : ns[i]? with
        | none => rw [e3] at e2; cases e2
        | some c => rw [e3] at e2; cases e2; exact ⟨c, rfl⟩
      rw [List.length_map] at hi
      have hT : (upd H4 T (.tup [V.int (i : Int), V.int c])) T = some (.tup [V.int (i : Int), V.int c]) := upd_same
      have hg4 := up1 (u := .tup [V.int (i : Int), V.int c]) nT hg
      have k4 : ∀ b o, H3 b = some o → b ≠ G → (upd H4 T (.tup [V.int (i : Int), V.int c])) b = some o := fun b o e n => up1 nT (k b o e n)
      generalize upd H4 T (.tup [V.int (i : Int), V.int c]) = H5 at *
      walk_at "w"
      refine ⟨cp10, ?_⟩
      walk_at "w"
      refine ⟨p40, ?_⟩
      walk_at "w"
      refine ⟨cp18, ?_⟩
      walk_at "w"
      have q0 := Int.emod_nonneg (sd * 1000003 + c % 10 ^ (Int.toNat 40) + 7919 * (i : Int) + 1) (b := 2305843009213693951) (by decide)
      have q1 := Int.emod_lt_of_pos (sd * 1000003 + c % 10 ^ (Int.toNat 40) + 7919 * (i : Int) + 1) (b := 2305843009213693951) (by decide)
      show (if _ = true then _ else _)
      split
      · rename_i hc
        have c0 : 0 ≤ c := Int.le_trans (by decide : (0 : Int) ≤ 10 ^ (Int.toNat 18)) (of_decide_eq_true hc)
        have lg : (gs.map V.int).length < 1000 := by rw [List.length_map]; omega
        walk_at "w"
        refine ⟨gs ++ [c], ⟨_, _, rfl⟩, q0, q1, fun b o e n => by rw [upd_ne n]; exact k4 b o e n, by rw [upd_same]; simp, fun z hz => ?_, by rw [List.length_append, List.length_singleton]; omega⟩
        rcases List.mem_append.mp hz with hz | hz
        · exact g0 z hz
        · rw [List.mem_singleton.mp hz]; exact c0
      · exact ⟨_, gs, ⟨_, _, rfl⟩, q0, q1, k4, hg4, g0, by omega⟩
    · rintro σ H4 ⟨sd, gs, ⟨v1, v2, rfl⟩, b0, b1, k, hg, g0, g1⟩
      walk_at "w"
      intro p np
      have sA : Same H H4 := fun b o e => k b o (s3 b o e) fun q => by rw [q, nG] at e; cases e
      refine kk p G _ (sA.trans (same1 np)) ?_ nG ⟨⟨sd, 0, upd_same, b0, b1, by decide, by decide⟩, ⟨gs, up1 np hg, g0, by rw [List.length_map] at g1; omega⟩, fun q => by rw [← q, hg] at np; cases np⟩
      cases eH : H p with
      | none => rfl
      | some o => exact absurd (sA _ _ eH) (by rw [np]; intro q; cases q)
theorem ok_l_pick {P : Program} {w : World} {K : PySem.W.Frag} {mg : Str → Option Value} {base : Heap} {φ : Fds} (T : Txt K mg φ) : FnOk P w K mg base CX0 1 (He.fAd K ("_law_pick", none)) φ.l_pick p_l_pick sp_pick27 := by
  refine T.f_l_pick.ok sc_l_pick (fun vs H Q E h => ?_) (fun cdv A outer s H vs Q E hr h => ?_)
  · obtain ⟨h, g, n, m, rfl, pt, hn, hm, hl, kk⟩ := h; rfl
  · obtain ⟨h, g, n, m, rfl, pt, hn, hm, hl, kk⟩ := h
    refine ⟨_, PSs.nox (pss_cons (ps_while PassesOwn.never (PW.pt (pw_and (pt_cmpR (op_neL0 (Nat.lt_of_le_of_lt (Nat.le_add_right _ 64) hr.units)) (pe_ix (ixl (K := K)) (pv 0) pe_int (fun _ _ => rfl)) (pe_lst pa_nil) (nomark _)) (pw_and1 (pt_cmpR op_eq (pe_ix (ixl (K := K)) (pe_ix (ixl (K := K)) (pv 0) pe_int (fun _ _ => rfl)) pe_int (fun _ _ => rfl)) pe_int (nomark _)))))
      (pss_one (ps_expr (pe_bm PySem.F.plainAttrs_list PySem.F.slot_list_pop PySem.F.type_list_pop mt_popAt (pe_ix (ixl (K := K)) (pv 0) pe_int (fun _ _ => rfl)) (pa_cons pe_int pa_nil)))))
      (pss_cons (ps_if (pt_cmpR (op_neL0 (Nat.lt_of_le_of_lt (Nat.le_add_right _ 64) hr.units)) (pe_ix (ixl (K := K)) (pv 0) pe_int (fun _ _ => rfl)) (pe_lst pa_nil) (nomark _))
      (pss_cons (ps_set (i := 2) sc_l_pick.nd rfl (Or.inl rfl) (pe_op op_mod (pe_ix (ixl (K := K)) (pe_ix (ixl (K := K)) (pv 0) pe_int (fun _ _ => rfl)) pe_int (fun _ _ => rfl)) (pv 1)))
      (pss_cons (ps_asg (pe_op op_fd (pe_ix (ixl (K := K)) (pe_ix (ixl (K := K)) (pv 0) pe_int (fun _ _ => rfl)) pe_int (fun _ _ => rfl)) (pv 1)) (pg_sub (pe_ix (ixl (K := K)) (pv 0) pe_int (fun _ _ => rfl)) pe_int set_list))
      (pss_one (ps_ret (pv 2)))))
      pss_nil)
      (pss_cons (ps_set (i := 3) sc_l_pick.nd rfl (Or.inl rfl) (pe_op op_add (pe_ix (ixl (K := K)) (pv 0) pe_int (fun _ _ => rfl)) pe_int))
      (pss_cons (ps_asg (pv 3) (pg_sub (pv 0) pe_int set_list))
      (pss_cons (ps_set (i := 4) sc_l_pick.nd rfl (Or.inl rfl) (pe_op op_mod (pe_op op_add (pe_op op_add (pe_ix (ixl (K := K)) (pv 0) pe_int (fun _ _ => rfl)) (pe_op op_mulA (pe_op op_mulA (pe_op op_mulA pe_int (pv 3)) (pv 3)) (pv 3))) (pe_op op_mulA pe_int (pv 3))) pe_int))
      (pss_one (ps_ret (pe_op op_mod (pe_op op_add (pe_op op_fd (pe_op op_mod (pe_op op_mulA (pv 4) (pv 4)) pe_int) pe_int) (pe_op op_fd (pv 4) pe_int)) (pv 1))))))))), ?_⟩
    obtain ⟨⟨s, t, hh, s0, s1, t0, t1⟩, ⟨gs, hg, g0, g1⟩, ne⟩ := id pt
    refine ⟨fun l σ H' => ∃ gs', σ = [some (.ref h), some (.int m), none, none, none] ∧ H' h = some (.lst [.ref g, .int s, .int t]) ∧ H' g = some (.lst (gs'.map V.int)) ∧ (∀ z ∈ gs', 0 ≤ z) ∧ gs'.length ≤ 63 ∧ Kp2 h g H H' ∧ l = gs'.length, ⟨_, gs, rfl, hh, hg, g0, g1, Kp2.refl H, rfl⟩, ?_⟩
    rintro l σ H' ⟨gs', rfl, hh1, hg1, p0, p1, k1, rfl⟩
    cases gs' with
    | nil =>
      walk_at "w"
      intro p2 np2
      have k2 := k1.up (u := .lst []) np2
      have n2 : p2 ≠ h ∧ p2 ≠ g := ⟨fun q => (by rw [q, hh1] at np2; cases np2), fun q => (by rw [q, hg1] at np2; cases np2)⟩
      have hh2 := up1 (u := .lst []) np2 hh1
      have hg2 := up1 (u := .lst []) np2 hg1
      have hp2 : (upd H' p2 (.lst [])) p2 = some (.lst []) := upd_same
      generalize upd H' p2 (.lst []) = H2 at *
      refine ⟨_, _, _, rfl, rfl, SqL.of hg2, SqL.of hp2, ?_⟩
      walk_at "w"
      intro p3 np3
      have k3 := k2.up (u := .lst []) np3
      have n3 : p3 ≠ h ∧ p3 ≠ g := ⟨fun q => (by rw [q, hh2] at np3; cases np3), fun q => (by rw [q, hg2] at np3; cases np3)⟩
      have hh3 := up1 (u := .lst []) np3 hh2
      have hg3 := up1 (u := .lst []) np3 hg2
      have hp3 : (upd H2 p3 (.lst [])) p3 = some (.lst []) := upd_same
      generalize upd H2 p3 (.lst []) = H3 at *
      refine ⟨_, _, _, rfl, rfl, SqL.of hg3, SqL.of hp3, ?_⟩
      walk_at "w"
      all_goals (try refine ⟨SqL.of upd_same, atI_of (n := 1) rfl rfl, ?_⟩)
      walk_at "w"
      refine ⟨⟨by decide, by decide⟩, ?_⟩
      walk_at "w"
      refine ⟨⟨by decide, by decide⟩, ?_⟩
      walk_at "w"
      refine kk _ _ (Int.emod_nonneg _ (by omega)) (Int.emod_lt_of_pos _ hm) ⟨⟨s, t + 1, upd_same, s0, s1, by omega, by omega⟩, ⟨[], (by rw [upd_ne ne]; exact hg3), fun _ h => (nomatch h), (by decide)⟩, ne⟩ k3.puth
    | cons z zs =>
      walk_at "w"
      intro p2 np2
      have k2 := k1.up (u := .lst []) np2
      have hh2 := up1 (u := .lst []) np2 hh1
      have hg2 := up1 (u := .lst []) np2 hg1
      have hp2 : (upd H' p2 (.lst [])) p2 = some (.lst []) := upd_same
      generalize upd H' p2 (.lst []) = H2 at *
      refine ⟨_, _, _, rfl, rfl, SqL.of hg2, SqL.of hp2, ?_⟩
      walk_at "w"
      all_goals (try refine ⟨atI_of (n := 0) rfl rfl, ?_⟩)
      walk_at "w"
      show (if _ = true then _ else _)
      by_cases z0 : z = 0
      · subst z0
        rw [if_pos (by simp)]
        refine ⟨fun σ2 Hx => ∃ gs' : List Int, σ2 = [some (.ref h), some (.int m), none, none, none] ∧ Hx h = some (.lst [.ref g, .int s, .int t]) ∧ Hx g = some (.lst (gs'.map V.int)) ∧ (∀ z ∈ gs', 0 ≤ z) ∧ gs'.length ≤ 63 ∧ Kp2 h g H Hx ∧ zs.length = gs'.length, fun σ2 Hx q => ⟨zs.length, Nat.lt_succ_self _, q⟩, ?_⟩
        walk_at "w"
        refine ⟨(by simp [seqIndex?] : seqIndex? 0 ((0 :: zs).map V.int).length = some 0), rfl, ?_⟩
        exact ⟨zs, rfl, (by rw [upd_ne (Ne.symm ne)]; exact hh2), upd_same, fun z hz => p0 z (List.mem_cons_of_mem _ hz), by simp at p1; omega, k2.putg, rfl⟩
      · rw [if_neg (by simp [z0])]
        walk_at "w"
        intro p3 np3
        have k3 := k2.up (u := .lst []) np3
        have hh3 := up1 (u := .lst []) np3 hh2
        have hg3 := up1 (u := .lst []) np3 hg2
        have hp3 : (upd H2 p3 (.lst [])) p3 = some (.lst []) := upd_same
        generalize upd H2 p3 (.lst []) = H3 at *
        refine ⟨_, _, _, rfl, rfl, SqL.of hg3, SqL.of hp3, ?_⟩
        walk_at "w"
        refine ⟨atI_of (n := 0) rfl rfl, ?_⟩
        walk_at "w"
        all_goals (try refine ⟨atI_of (n := 0) rfl rfl, ?_⟩)
        walk_at "w"
        refine ⟨(by simp [ixN] : ixN ((z :: zs).map V.int).length 0 = some 0), ?_⟩
        show tRet (tVar 2) _ _ _
        walk_at "w"
        refine kk _ _ (Int.emod_nonneg _ (by omega)) (Int.emod_lt_of_pos _ hm) ⟨⟨s, t, (by rw [upd_ne (Ne.symm ne)]; exact hh3), s0, s1, t0, by omega⟩, ⟨z.fdiv m :: zs, upd_same, ?_, p1⟩, ne⟩ k3.putg
        intro y hy
        rcases List.mem_cons.mp hy with rfl | hy
        · exact Int.fdiv_nonneg (p0 z (List.mem_cons_self ..)) (by omega)
        · exact p0 y (List.mem_cons_of_mem _ hy)
theorem ok_l_of {P : Program} {w : World} {K : PySem.W.Frag} {mg : Str → Option Value} {base : Heap} {φ : Fds} (T : Txt K mg φ) : FnOk P w K mg base CX0 2 (He.fAd K ("_law_of", none)) φ.l_of p_l_of (sp_of27 K) := by
  obtain ⟨_, B0v, B0⟩ := b_l_pick_2 T
  refine T.f_l_of.ok sc_l_of (fun vs H Q E h => ?_) (fun cdv A outer s H vs Q E hr h => ?_)
  · obtain ⟨h, g, l, n, xs, rfl, pt, hn, hl, ne, ne2, l0, l1, k⟩ := h; rfl
  · obtain ⟨h, g, l, n, xs, rfl, pt, hn, hl, ne, ne2, l0, l1, k⟩ := h
    refine ⟨_, PSs.nox (pss_one (ps_ret (pe_ix (ixl (K := K)) (pv 1) (pe_call (ok_l_pick (K := K) T) (hr.mono (by decide)) rfl T.g_l_pick T.f_l_pick.kp B0 B0v pass0 (pa_cons (pv 0) (pa_cons (pe_callB (id := "len") (lenS (K := K)) (by rfl) T.z_len PySem.boot_len (pa_cons (pv 1) pa_nil)) pa_nil))) (fun _ _ => rfl)))), ?_⟩
    walk_at "w"
    intro d H1 d0 d1 pt1 k1
    obtain ⟨j, rfl⟩ := Int.eq_ofNat_of_zero_le d0
    have hj : j < xs.length := by omega
    exact ⟨l, xs, _, xs[j], rfl, rfl, k1.seq ne ne2 hl, atI_nat (List.getElem?_eq_getElem hj), k j _ _ (List.getElem?_eq_getElem hj) pt1 k1⟩
theorem ok_l_parts {P : Program} {w : World} {K : PySem.W.Frag} {mg : Str → Option Value} {base : Heap} {φ : Fds} (T : Txt K mg φ) : FnOk P w K mg base CX0 1 (He.fAd K ("_law_parts", none)) φ.l_parts p_l_parts sp_parts27 := by
  refine T.f_l_parts.ok sc_l_parts (fun vs H Q E h => ?_) (fun cdv A outer s H vs Q E hr h => ?_)
  · obtain ⟨a, b, rfl, hb, lb, k⟩ := h; rfl
  · obtain ⟨a, b, rfl, hb, lb, k⟩ := h
    refine ⟨_, PSs.nox (pss_cons (ps_par (i := 2) (j := 3) rfl sc_l_parts.nd rfl rfl (by decide) rfl rfl (pa_cons (pe_callB (id := "abs") call_abs (by rfl) T.z_abs (by decide +kernel) (pa_cons (pv 0) pa_nil)) (pa_cons (pv 1) pa_nil)) (by rfl))
      (pss_cons (ps_while PassesOwn.never (pt_cmpR op_gt (pv 3) pe_int (nomark _))
      (pss_one (ps_par (i := 2) (j := 3) rfl sc_l_parts.nd rfl rfl (by decide) rfl rfl (pa_cons (pv 3) (pa_cons (pe_op op_mod (pv 2) (pv 3)) pa_nil)) (by rfl))))
      (pss_one (ps_ret (pe_tup (pa_cons (pe_op op_fd (pv 0) (pv 2)) (pa_cons (pe_op op_fd (pv 1) (pv 2)) pa_nil))))))), ?_⟩
    walk_at "w"
    have na : ((if a < 0 then -a else a : Int)) = (a.natAbs : Int) := by split <;> omega
    rw [na]
    refine while_by (fun σ H' => H' = H ∧ ∃ g s : Int, σ = [some (.int a), some (.int b), some (.int g), some (.int s)] ∧ 0 ≤ g ∧ 0 ≤ s ∧ Int.gcd g s = Int.gcd a b)
      (fun σ _ => match σ with | [_, _, _, some (.int s)] => s.toNat | _ => 0) ⟨rfl, _, _, rfl, by omega, by omega, by show Nat.gcd _ _ = Nat.gcd _ _; rw [Int.natAbs_natCast]⟩ ?_ (fun σ H Q Q' hQ ⟨v, e1, i, j, e2, e3, c, e4, q⟩ => ⟨v, e1, i, j, e2, e3, c, e4, hQ _ _ q⟩)
    rintro σ H' ⟨rfl, g, s, rfl, hg, hs, e⟩
    refine ⟨_, rfl, _, _, rfl, rfl, _, rfl, ?_⟩
    refine ite2 (fun c => ?_) (fun c => ?_)
    · have c0 : 0 < s := of_decide_eq_true c
      walk_at "w"
      refine ⟨⟨rfl, s, g % s, rfl, hs, Int.emod_nonneg _ (by omega), (gcd_step c0 hg).trans e⟩, ?_⟩
      show (g % s).toNat < s.toNat
      have h1 := Int.emod_nonneg g (show s ≠ 0 by omega)
      have h2 := Int.emod_lt_of_pos g c0
      omega
    · have c0 : ¬ 0 < s := fun z => c (decide_eq_true z)
      have s0 : s = 0 := by omega
      subst s0
      have eg : g = sgn b * (Int.gcd a b : Int) := by
        rw [← e, Int.gcd_zero_right]
        unfold sgn
        rw [if_pos hb]
        omega
      obtain ⟨g0, gl, fr⟩ := fr_mk (a := a) (b := b) (c := g) (by omega) eg
      obtain ⟨e1, e2⟩ := pr_of hb fr
      have lg : g.natAbs.log2 < 9000 := Nat.lt_of_lt_of_le (PySem.Flt.log2_lt_of (Nat.succ_pos _) (Nat.lt_of_le_of_lt gl Nat.lt_log2_self)) (by omega)
      walk_at "w"
      intro p np
      refine k p _ np (same1 np) ?_
      rw [upd_same]
      show some (HO.tup [.int (a.fdiv g), .int (b.fdiv g)]) = some (HO.tup [.int _, .int _])
      rw [e1, e2]
theorem ok_l_less {P : Program} {w : World} {K : PySem.W.Frag} {mg : Str → Option Value} {base : Heap} {φ : Fds} (T : Txt K mg φ) : FnOk P w K mg base CX0 1 (He.fAd K ("_law_less", none)) φ.l_less p_l_less sp_less27 := by
  refine T.f_l_less.ok sc_l_less (fun vs H Q E h => ?_) (fun cdv A outer s H vs Q E hr h => ?_)
  · obtain ⟨a, b, x, y, k, rfl, ha, hb, sx, sy, lk, q⟩ := h; rfl
  · obtain ⟨a, b, x, y, k, rfl, ha, hb, sx, sy, lk, q⟩ := h
    refine ⟨_, PSs.nox (pss_one (ps_ret (pe_cmpR op_lt (pe_op op_mulA (pe_ix (ixt (K := K)) (pv 0) pe_int (fun _ _ => rfl)) (pe_ix (ixt (K := K)) (pv 1) pe_int (fun _ _ => rfl))) (pe_op op_mulA (pe_ix (ixt (K := K)) (pv 1) pe_int (fun _ _ => rfl)) (pe_ix (ixt (K := K)) (pv 0) pe_int (fun _ _ => rfl))) (nomark _)))), ?_⟩
    have c1 : CMulW x.num (y.den : Int) := cmw sx.1 sy.2 lk
    have c2 : CMulW y.num (x.den : Int) := cmw sy.1 sx.2 lk
    rw [← lt_PR] at q
    walk_at "w"
    exact q
theorem ok_l_plus {P : Program} {w : World} {K : PySem.W.Frag} {mg : Str → Option Value} {base : Heap} {φ : Fds} (T : Txt K mg φ) : FnOk P w K mg base CX0 2 (He.fAd K ("_law_plus", none)) φ.l_plus p_l_plus sp_plus27 := by
  obtain ⟨_, B0v, B0⟩ := b_l_parts_2 T
  refine T.f_l_plus.ok sc_l_plus (fun vs H Q E h => ?_) (fun cdv A outer s H vs Q E hr h => ?_)
  · obtain ⟨a, b, x, y, k, rfl, ha, hb, sx, sy, k0, lk, q⟩ := h; rfl
  · obtain ⟨a, b, x, y, k, rfl, ha, hb, sx, sy, k0, lk, q⟩ := h
    refine ⟨_, PSs.nox (pss_one (ps_ret (pe_call (ok_l_parts (K := K) T) (hr.mono (by decide)) rfl T.g_l_parts T.f_l_parts.kp B0 B0v pass0 (pa_cons (pe_op op_add (pe_op op_mulA (pe_ix (ixt (K := K)) (pv 0) pe_int (fun _ _ => rfl)) (pe_ix (ixt (K := K)) (pv 1) pe_int (fun _ _ => rfl))) (pe_op op_mulA (pe_ix (ixt (K := K)) (pv 1) pe_int (fun _ _ => rfl)) (pe_ix (ixt (K := K)) (pv 0) pe_int (fun _ _ => rfl)))) (pa_cons (pe_op op_mulA (pe_ix (ixt (K := K)) (pv 0) pe_int (fun _ _ => rfl)) (pe_ix (ixt (K := K)) (pv 1) pe_int (fun _ _ => rfl))) pa_nil))))), ?_⟩
    have c1 : CMulW x.num (y.den : Int) := cmw sx.1 sy.2 lk
    have c2 : CMulW y.num (x.den : Int) := cmw sy.1 sx.2 lk
    have c3 : CMulW (x.den : Int) (y.den : Int) := cmw sx.2 sy.2 lk
    have p3 := Int.mul_pos (den0 x) (den0 y)
    have l3 : ((x.den : Int) * (y.den : Int)).natAbs.log2 < 9000 := (sx.2.mul sy.2).log (by omega) (by omega)
    walk_at "w"
    rw [add_PR]
    exact q
theorem ok_l_mid {P : Program} {w : World} {K : PySem.W.Frag} {mg : Str → Option Value} {base : Heap} {φ : Fds} (T : Txt K mg φ) : FnOk P w K mg base CX0 3 (He.fAd K ("_law_mid", none)) φ.l_mid p_l_mid sp_mid27 := by
  obtain ⟨_, B0v, B0⟩ := b_l_plus_2 T
  obtain ⟨_, B1v, B1⟩ := b_l_parts_2 T
  refine T.f_l_mid.ok sc_l_mid (fun vs H Q E h => ?_) (fun cdv A outer s H vs Q E hr h => ?_)
  · obtain ⟨a, b, x, y, k, rfl, ha, hb, sx, sy, k0, lk, q⟩ := h; rfl
  · obtain ⟨a, b, x, y, k, rfl, ha, hb, sx, sy, k0, lk, q⟩ := h
    refine ⟨_, PSs.nox (pss_cons (ps_set (i := 2) sc_l_mid.nd rfl (Or.inl rfl) (pe_call (ok_l_plus (K := K) T) (hr.mono (by decide)) rfl T.g_l_plus T.f_l_plus.kp B0 B0v pass0 (pa_cons (pv 0) (pa_cons (pv 1) pa_nil))))
      (pss_one (ps_ret (pe_call (ok_l_parts (K := K) T) (hr.mono (by decide)) rfl T.g_l_parts T.f_l_parts.kp B1 B1v pass0 (pa_cons (pe_ix (ixt (K := K)) (pv 2) pe_int (fun _ _ => rfl)) (pa_cons (pe_op op_mulA pe_int (pe_ix (ixt (K := K)) (pv 2) pe_int (fun _ _ => rfl))) pa_nil)))))), ?_⟩
    walk_at "w"
    all_goals (try refine ⟨x, y, k, rfl, ha, hb, sx, sy, k0, lk, fun p H' np s hp => ?_⟩)
    have hp' : H' p = some (.tup [.int (x + y).num, .int ((x + y).den : Int)]) := hp
    walk_at "w"
    have sz := (szr_add sx sy).2
    refine ⟨by have := den0 (x + y); omega, (Sz.mul (show Sz 2 2 by decide) sz).log (by omega) (by omega), fun p2 H2 np2 s2 hp2 => ?_⟩
    refine q p2 H2 ?_ (s.trans s2) (by rw [half_PR] at hp2; exact hp2)
    cases eH : H p2 with
    | none => rfl
    | some o => exact absurd (s _ _ eH) (by rw [np2]; intro z; cases z)
theorem ok_l_made {P : Program} {w : World} {K : PySem.W.Frag} {mg : Str → Option Value} {base : Heap} {φ : Fds} (T : Txt K mg φ) : FnOk P w K mg base CX0 5 (He.fAd K ("_law_made", none)) φ.l_made p_l_made (sp_made27 K (He.ga K "Measure") (He.ga K "Ladder")) := by
  obtain ⟨_, B0v, B0⟩ := b_Measure_init_3 T
  obtain ⟨_, B1v, B1⟩ := b_Ladder_init_5 T
  refine T.f_l_made.ok sc_l_made (fun vs H Q E h => ?_) (fun cdv A outer s H vs Q E hr h => ?_)
  · obtain ⟨p, d, k, rfl, hp, ok, sz, k0, k1, fin⟩ := h; rfl
  · obtain ⟨p, d, k, rfl, hp, ok, sz, k0, k1, fin⟩ := h
    refine ⟨_, PSs.nox (pss_cons (ps_asg (pv 0) (pg_tup rfl (pgs_cons (pg_name (i := 1) sc_l_made.nd rfl (Or.inl rfl)) (pgs_cons (pg_name (i := 2) sc_l_made.nd rfl (Or.inl rfl)) (pgs_cons (pg_name (i := 3) sc_l_made.nd rfl (Or.inl rfl)) (pgs_cons (pg_name (i := 4) sc_l_made.nd rfl (Or.inl rfl)) pgs_nil))))))
      (pss_cons (ps_setLc (i := 5) (own := [("_law_end", 6)]) (g := gName 6) rfl sc_l_made.nd rfl rfl (sw_true rfl rfl rfl (by decide +kernel)) (pi_tup (pe_tup (pa_cons (pv 3) (pa_cons (pv 4) pa_nil)))) (blkOk_by (own := [("_law_end", 6)]) (N := N_l_made) (sc := (defScope s_l_made)) (by decide +kernel)) (fun _ _ _ _ _ => (pg_name (i := 6) sc_l_made.nd rfl (Or.inl rfl))) (fun _ _ _ _ _ => pts_nil) (fun _ _ _ _ _ => (pe_ifExp (pt_cmpR op_isN (pv 6) pe_non (nomark _)) pe_non (pe_make T.mk_Measure (ok_Measure_init (K := K) T) (hr.mono (by decide)) rfl T.g_Measure B0 B0v pass0 (pa_cons (pe_ix (ixt (K := K)) (pv 6) pe_int (fun _ _ => rfl)) (pa_cons (pe_ix (ixt (K := K)) (pv 6) pe_int (fun _ _ => rfl)) pa_nil))))))
      (pss_one (ps_ret (pe_make T.mk_Ladder (ok_Ladder_init (K := K) T) (hr.mono (by decide)) rfl T.g_Ladder B1 B1v pass0 (pa_cons (pe_callTy (T := "tuple") (tupleL (K := K)) (by rfl) T.z_tuple (by decide +kernel) (pa_cons (pe_lc (own := [("_law_top", 7), ("_law_bottom", 8)]) (g := gTup K 2 (gCons (gName 7) (gCons (gName 8) (gNil)))) rfl sc_l_made.nd (pi_list (pv 1)) (blkOk_by (own := [("_law_top", 7), ("_law_bottom", 8)]) (N := N_l_made) (sc := (defScope s_l_made)) (by decide +kernel)) (fun _ _ _ _ _ => (pg_tup rfl (pgs_cons (pg_name (i := 7) sc_l_made.nd rfl (Or.inl rfl)) (pgs_cons (pg_name (i := 8) sc_l_made.nd rfl (Or.inl rfl)) pgs_nil)))) (fun _ _ _ _ _ => pts_nil) (fun _ _ _ _ _ => (pe_make T.mk_Measure (ok_Measure_init (K := K) T) (hr.mono (by decide)) rfl T.g_Measure B0 B0v pass0 (pa_cons (pv 7) (pa_cons (pv 8) pa_nil))))) pa_nil)) (pa_cons (pv 2) (pa_cons (pe_ix (ixl (K := K)) (pv 5) pe_int (fun _ _ => rfl)) (pa_cons (pe_ix (ixl (K := K)) (pv 5) pe_int (fun _ _ => rfl)) pa_nil))))))))), ?_⟩
    obtain ⟨M, u, w', vs, h1, h2, rs, h4, h5⟩ := id hp.ob
    have lv := rs.1
    have l24 := ok.len1
    walk_at "w"
    intro T nT
    have hT : (upd H T (.tup [u, w'])) T = some (.tup [u, w']) := upd_same
    have s1 := same1 (u := .tup [u, w']) nT
    generalize upd H T (.tup [u, w']) = H1 at *
    walk_at "w"
    all_goals (try refine ⟨⟨_, SqT.of hT⟩, ?_⟩)
    intro D nD
    refine lcr (n := [u, w'].length) walk_tup (fun _ _ g s => s.sqt g) (fun i H v => QO (He.ga K "Measure") H k v (if i = 0 then oR d.lo else oR d.hi)) (fun i H H' v q n => q.nl n) (szs (Nat.le_of_ble_eq_true rfl)) (SqT.of hT) nD (fun i x H3 H4 N M2 hi s3 yy hN => ?_) (fun H3 zs s3 hD3 lz hz => ?_)
    · obtain ⟨rfl, hx⟩ := yy
      obtain ⟨o, ho, hoz, eo⟩ : ∃ o, OP H x o ∧ ZzO k o ∧ (if i = 0 then oR d.lo else oR d.hi) = oR o := by
        have hi2 : i = 0 ∨ i = 1 := by
          have hi' : i < 2 := hi
          omega
        rcases hi2 with rfl | rfl
        · cases hx; exact ⟨_, h4, sz.2.1, rfl⟩
        · cases hx; exact ⟨_, h5, sz.2.2, rfl⟩
      rw [eo] at hN
      clear eo hx
      cases o with
      | none =>
        cases ho
        walk_at "w"
        exact hN _ _ (Same.refl _) rfl
      | some q =>
        obtain ⟨a, rfl, ha⟩ := ho
        change _ = some (HO.tup [V.int q.num, V.int (q.den : Int)]) at ha
        have ha1 := s3 _ _ (s1 _ _ ha)
        have sq := hoz _ rfl
        walk_at "w"
        refine q_made (k := k) (den0 q) sq.1 sq.2 k0 (by omega) fun p1 H5 s5 R => hN _ _ s5 ⟨p1, rfl, R⟩
    have lz2 : zs.length = 2 := lz
    obtain ⟨z0, z1, rfl⟩ : ∃ z0 z1, zs = [z0, z1] := by
      match zs, lz2 with
      | [z0, z1], _ => exact ⟨z0, z1, rfl⟩
    have o0 : QO (He.ga K "Measure") H3 k z0 (oR d.lo) := hz 0 z0 rfl
    have o1 : QO (He.ga K "Measure") H3 k z1 (oR d.hi) := hz 1 z1 rfl
    have s13 := s1.trans s3
    have h2' := s13 _ _ h2
    walk_at "w"
    intro D2 nD2
    refine lcr (n := vs.length) walk_list (fun _ _ g s => s.seq g) (fun i H v => ∃ a x, v = .ref a ∧ d.ms[i]? = some x ∧ QAt (He.ga K "Measure") H a k (ofR x)) (fun i H H' v ⟨a, x, e1, e2, e3⟩ n => ⟨a, x, e1, e2, e3.nl n⟩) (szs (by omega)) (SqL.of h2') nD2 (fun i x H4 H5 N M2 hi s4 yy hN => ?_) (fun H4 ys s4 hD4 ly hy => ?_)
    · obtain ⟨rfl, hx⟩ := yy
      obtain ⟨q, hq⟩ : ∃ q, d.ms[i]? = some q := ⟨_, List.getElem?_eq_getElem (by omega)⟩
      obtain ⟨a, ea, ha⟩ := rs.2 i q hq
      rw [ea] at hx
      cases hx
      change _ = some (HO.tup [V.int q.num, V.int (q.den : Int)]) at ha
      have ha1 := s4 _ _ (s13 _ _ ha)
      have sq := sz.get _ hq
      walk_at "w"
      refine q_made (k := k) (den0 q) sq.1 sq.2 k0 (by omega) fun p1 H6 s6 R => hN _ _ s6 ⟨p1, q, rfl, hq, R⟩
    walk_at "w"
    intro T2 nT2
    have s45 := s4.trans (same1 (u := .tup ys) nT2)
    have hT2 : (upd H4 T2 (.tup ys)) T2 = some (.tup ys) := upd_same
    have hy' : ∀ (i : Nat) (y : V), ys[i]? = some y → ∃ a x, y = .ref a ∧ d.ms[i]? = some x ∧ QAt (He.ga K "Measure") (upd H4 T2 (.tup ys)) a k (ofR x) := fun i y e => by
      obtain ⟨a, x, e1, e2, e3⟩ := hy i y e
      exact ⟨a, x, e1, e2, e3.same (same1 nT2)⟩
    have hD5 := s45 _ _ hD3
    generalize upd H4 T2 (.tup ys) = H5 at *
    walk_at "w"
    all_goals (try refine ⟨atI_of (n := 1) rfl rfl, ?_⟩)
    walk_at "w"
    refine lad_made (k := k) (SqT.of hT2) (zs := zR d.ms) ⟨by rw [zR_len]; omega, fun i v z e1 e2 => ?_⟩ (by omega) (by rw [zR_len]; exact ok.len0) (by rw [zR_len]; exact ok.len1) ok.riseQ ok.rule (o0.same s45) (o1.same s45) ok.spanQ fun q H6 _ s6 L6 _ => fin q H6 ((s13.trans s45).trans s6) L6
    obtain ⟨a, x, g1, g2, g3⟩ := hy' i v e1
    rw [zR_get, g2] at e2
    cases e2
    exact ⟨a, g1, g3⟩
theorem ok_l_scaled {P : Program} {w : World} {K : PySem.W.Frag} {mg : Str → Option Value} {base : Heap} {φ : Fds} (T : Txt K mg φ) : FnOk P w K mg base CX0 2 (He.fAd K ("_law_scaled", none)) φ.l_scaled p_l_scaled sp_scaled27 := by
  obtain ⟨_, B0v, B0⟩ := b_l_parts_2 T
  refine T.f_l_scaled.ok sc_l_scaled (fun vs H Q E h => ?_) (fun cdv A outer s H vs Q E hr h => ?_)
  · obtain ⟨p, s, d, c, k, rfl, hp, hs, sz, sc, k0, k1, l9, fin⟩ := h; rfl
  · obtain ⟨p, s, d, c, k, rfl, hp, hs, sz, sc, k0, k1, l9, fin⟩ := h
    refine ⟨_, PSs.nox (pss_cons (ps_asg (pv 0) (pg_tup rfl (pgs_cons (pg_name (i := 2) sc_l_scaled.nd rfl (Or.inl rfl)) (pgs_cons (pg_name (i := 3) sc_l_scaled.nd rfl (Or.inl rfl)) (pgs_cons (pg_name (i := 4) sc_l_scaled.nd rfl (Or.inl rfl)) (pgs_cons (pg_name (i := 5) sc_l_scaled.nd rfl (Or.inl rfl)) pgs_nil))))))
      (pss_cons (ps_setLc (i := 6) (own := [("_law_top", 8), ("_law_bottom", 9)]) (g := gTup K 2 (gCons (gName 8) (gCons (gName 9) (gNil)))) rfl sc_l_scaled.nd rfl rfl (sw_true rfl rfl rfl (by decide +kernel)) (pi_list (pv 2)) (blkOk_by (own := [("_law_top", 8), ("_law_bottom", 9)]) (N := N_l_scaled) (sc := (defScope s_l_scaled)) (by decide +kernel)) (fun _ _ _ _ _ => (pg_tup rfl (pgs_cons (pg_name (i := 8) sc_l_scaled.nd rfl (Or.inl rfl)) (pgs_cons (pg_name (i := 9) sc_l_scaled.nd rfl (Or.inl rfl)) pgs_nil)))) (fun _ _ _ _ _ => pts_nil) (fun _ _ _ _ _ => (pe_call (ok_l_parts (K := K) T) (hr.mono (by decide)) rfl T.g_l_parts T.f_l_parts.kp B0 B0v pass0 (pa_cons (pe_op op_mulA (pv 8) (pe_ix (ixt (K := K)) (pv 1) pe_int (fun _ _ => rfl))) (pa_cons (pe_op op_mulA (pv 9) (pe_ix (ixt (K := K)) (pv 1) pe_int (fun _ _ => rfl))) pa_nil)))))
      (pss_cons (ps_setLc (i := 7) (own := [("_law_end", 10)]) (g := gName 10) rfl sc_l_scaled.nd rfl rfl (sw_true rfl rfl rfl (by decide +kernel)) (pi_tup (pe_tup (pa_cons (pv 4) (pa_cons (pv 5) pa_nil)))) (blkOk_by (own := [("_law_end", 10)]) (N := N_l_scaled) (sc := (defScope s_l_scaled)) (by decide +kernel)) (fun _ _ _ _ _ => (pg_name (i := 10) sc_l_scaled.nd rfl (Or.inl rfl))) (fun _ _ _ _ _ => pts_nil) (fun _ _ _ _ _ => (pe_ifExp (pt_cmpR op_isN (pv 10) pe_non (nomark _)) pe_non (pe_call (ok_l_parts (K := K) T) (hr.mono (by decide)) rfl T.g_l_parts T.f_l_parts.kp B0 B0v pass0 (pa_cons (pe_op op_mulA (pe_ix (ixt (K := K)) (pv 10) pe_int (fun _ _ => rfl)) (pe_ix (ixt (K := K)) (pv 1) pe_int (fun _ _ => rfl))) (pa_cons (pe_op op_mulA (pe_ix (ixt (K := K)) (pv 10) pe_int (fun _ _ => rfl)) (pe_ix (ixt (K := K)) (pv 1) pe_int (fun _ _ => rfl))) pa_nil))))))
      (pss_one (ps_ret (pe_tup (pa_cons (pv 6) (pa_cons (pv 3) (pa_cons (pe_ix (ixl (K := K)) (pv 7) pe_int (fun _ _ => rfl)) (pa_cons (pe_ix (ixl (K := K)) (pv 7) pe_int (fun _ _ => rfl)) pa_nil)))))))))), ?_⟩
    obtain ⟨M, u, w', vs, h1, h2, rs, h4, h5⟩ := id hp.ob
    have lv := rs.1
    have hs' : H s = some (.tup [.int c.num, .int (c.den : Int)]) := hs
    have dc := den0 c
    walk_at "w"
    intro D nD
    refine lcr (n := vs.length) walk_list (fun _ _ g s => s.seq g) (fun i H v => ∃ a x, v = .ref a ∧ d.ms[i]? = some x ∧ H a = some (PR (x * c))) (fun i H H' v ⟨a, x, e1, e2, e3⟩ n => ⟨a, x, e1, e2, n _ _ e3 rfl⟩) (szs (by omega)) (SqL.of h2) nD (fun i x H1 H2 N M2 hi s1 yy hN => ?_) (fun H1 ys s1 hD ly hy => ?_)
    · obtain ⟨rfl, hx⟩ := yy
      obtain ⟨q, hq⟩ : ∃ q, d.ms[i]? = some q := ⟨_, List.getElem?_eq_getElem (by omega)⟩
      obtain ⟨a, ea, ha⟩ := rs.2 i q hq
      rw [ea] at hx
      cases hx
      change _ = some (HO.tup [V.int q.num, V.int (q.den : Int)]) at ha
      have ha1 := s1 _ _ ha
      have hs1 := s1 _ _ hs'
      have sq := sz.get _ hq
      have c1 : CMulW q.num c.num := cmw sq.1 sc.1 (by omega)
      have c2 : CMulW (q.den : Int) (c.den : Int) := cmw sq.2 sc.2 (by omega)
      have dp := Int.mul_pos (den0 q) dc
      have lg : ((q.den : Int) * (c.den : Int)).natAbs.log2 < 9000 := (sq.2.mul sc.2).log (by omega) (by omega)
      walk_at "w"
      intro t H3 nt s3 ht
      rw [mul_PR] at ht
      exact hN _ _ s3 ⟨t, q, rfl, hq, ht⟩
    have h4' := h4.same s1
    have h5' := h5.same s1
    have hs1 := s1 _ _ hs'
    walk_at "w"
    intro T nT
    have hT : (upd H1 T (.tup [u, w'])) T = some (.tup [u, w']) := upd_same
    have sT := same1 (u := .tup [u, w']) nT
    have s2 := s1.trans sT
    have hD2 := up1 (u := .tup [u, w']) nT hD
    generalize upd H1 T (.tup [u, w']) = H2 at *
    walk_at "w"
    intro D2 nD2
    refine lcr (n := [u, w'].length) walk_tup (fun _ _ g s => s.sqt g) (fun i H v => OP H v ((if i = 0 then d.lo else d.hi).map (· * c))) (fun i H H' v q n => q.nl n) (szs (Nat.le_of_ble_eq_true rfl)) (SqT.of hT) nD2 (fun i x H3 H4 N M2 hi s3 yy hN => ?_) (fun H3 zs s3 hD3 lz hz => ?_)
    · obtain ⟨rfl, hx⟩ := yy
      have hs3 := s3 _ _ (s2 _ _ hs')
      have one : ∀ (v : V) (o : Option Rat), OP H v o → ZzO k o → ∀ N : VK, (∀ y H5, Same H4 H5 → OP H5 y (o.map (· * c)) → N y H5) → True := fun _ _ _ _ _ _ => trivial
      obtain ⟨o, ho, hoz, eo⟩ : ∃ o, OP H x o ∧ ZzO k o ∧ (if i = 0 then d.lo else d.hi) = o := by
        have hi2 : i = 0 ∨ i = 1 := by
          have hi' : i < 2 := hi
          omega
        rcases hi2 with rfl | rfl
        · cases hx; exact ⟨_, h4, sz.2.1, rfl⟩
        · cases hx; exact ⟨_, h5, sz.2.2, rfl⟩
      rw [eo] at hN
      clear eo one hx
      cases o with
      | none =>
        cases ho
        walk_at "w"
        exact hN _ _ (Same.refl _) rfl
      | some q =>
        obtain ⟨a, rfl, ha⟩ := ho
        change _ = some (HO.tup [V.int q.num, V.int (q.den : Int)]) at ha
        have ha1 := s3 _ _ (s2 _ _ ha)
        have sq := hoz _ rfl
        have c1 : CMulW q.num c.num := cmw sq.1 sc.1 (by omega)
        have c2 : CMulW (q.den : Int) (c.den : Int) := cmw sq.2 sc.2 (by omega)
        have dp := Int.mul_pos (den0 q) dc
        have lg : ((q.den : Int) * (c.den : Int)).natAbs.log2 < 9000 := (sq.2.mul sc.2).log (by omega) (by omega)
        walk_at "w"
        intro t H5 nt s5 ht
        rw [mul_PR] at ht
        exact hN _ _ s5 ⟨t, rfl, ht⟩
    have lz2 : zs.length = 2 := lz
    obtain ⟨z0, z1, rfl⟩ : ∃ z0 z1, zs = [z0, z1] := by
      match zs, lz2 with
      | [z0, z1], _ => exact ⟨z0, z1, rfl⟩
    have o0 := hz 0 z0 rfl
    have o1 := hz 1 z1 rfl
    walk_at "w"
    all_goals (try refine ⟨atI_of (n := 1) rfl rfl, ?_⟩)
    walk_at "w"
    intro T3 nT3
    have s4 := s3.trans (same1 (u := .tup [V.ref D, V.str d.r, z0, z1]) nT3)
    refine fin T3 _ (s2.trans s4) ⟨D, z0, z1, ys, upd_same, s4 _ _ hD2, ⟨by rw [ly, lv]; exact (List.length_map ..).symm, fun i x e => ?_⟩, o0.same (same1 nT3), o1.same (same1 nT3)⟩
    have e : (d.ms.map (· * c))[i]? = some x := e
    rw [List.getElem?_map] at e
    have hi : i < ys.length := by
      cases e1 : d.ms[i]? with
      | none => rw [e1] at e; cases e
      | some y => have := (List.getElem?_eq_some_iff.mp e1).1; omega
    obtain ⟨a, q, e1, e2, e3⟩ := hy i _ (List.getElem?_eq_getElem hi)
    rw [e2] at e
    cases e
    exact ⟨a, by rw [List.getElem?_eq_getElem hi, e1], (sT.trans s4) _ _ e3⟩
theorem ok_l_drawn {P : Program} {w : World} {K : PySem.W.Frag} {mg : Str → Option Value} {base : Heap} {φ : Fds} (T : Txt K mg φ) : FnOk P w K mg base CX0 4 (He.fAd K ("_law_drawn", none)) φ.l_drawn p_l_drawn sp_drawn27 := by
  obtain ⟨_, B0v, B0⟩ := b_l_pick_2 T
  obtain ⟨_, B1v, B1⟩ := b_l_of_2 T
  obtain ⟨_, B2v, B2⟩ := b_l_plus_2 T
  obtain ⟨_, B3v, B3⟩ := b_l_mid_2 T
  obtain ⟨_, B4v, B4⟩ := b_l_less_2 T
  refine T.f_l_drawn.ok sc_l_drawn (fun vs H Q E h => ?_) (fun cdv A outer s H vs Q E hr h => ?_)
  · obtain ⟨h, g, n, m, rfl, pt, hn, m0, m1, fin⟩ := h; rfl
  · obtain ⟨h, g, n, m, rfl, pt, hn, m0, m1, fin⟩ := h
    refine ⟨_, PSs.nox (pss_cons (ps_cut (ps_par (i := 2) (j := 3) rfl sc_l_drawn.nd rfl rfl (by decide) rfl rfl (pa_cons (pe_call (ok_l_of (K := K) T) (hr.mono (by decide)) rfl T.g_l_of T.f_l_of.kp B1 B1v pass0 (pa_cons (pv 0) (pa_cons (pe_lst (pa_cons pe_str (pa_cons pe_str (pa_cons pe_str pa_nil)))) pa_nil))) (pa_cons (pe_op op_add pe_int (pe_call (ok_l_pick (K := K) T) (hr.mono (by decide)) rfl T.g_l_pick T.f_l_pick.kp B0 B0v pass0 (pa_cons (pv 0) (pa_cons (pv 1) pa_nil)))) pa_nil)) (by rfl)))
      (pss_cons (ps_cut (ps_set (i := 4) sc_l_drawn.nd rfl (Or.inl rfl) (pe_lst (pa_cons (pe_tup (pa_cons pe_int (pa_cons pe_int pa_nil))) (pa_cons (pe_tup (pa_cons pe_int (pa_cons pe_int pa_nil))) (pa_cons (pe_tup (pa_cons pe_int (pa_cons pe_int pa_nil))) (pa_cons (pe_tup (pa_cons pe_int (pa_cons pe_int pa_nil))) (pa_cons (pe_tup (pa_cons pe_int (pa_cons pe_int pa_nil))) (pa_cons (pe_tup (pa_cons pe_int (pa_cons pe_int pa_nil))) (pa_cons (pe_tup (pa_cons pe_int (pa_cons pe_int pa_nil))) (pa_cons (pe_tup (pa_cons pe_int (pa_cons pe_int pa_nil))) pa_nil)))))))))))
      (pss_cons (ps_cut (ps_set (i := 5) sc_l_drawn.nd rfl (Or.inl rfl) (pe_call (ok_l_of (K := K) T) (hr.mono (by decide)) rfl T.g_l_of T.f_l_of.kp B1 B1v pass0 (pa_cons (pv 0) (pa_cons (pe_op op_cat (pv 4) (pe_lst (pa_cons pe_non (pa_cons pe_non pa_nil)))) pa_nil)))))
      (pss_cons (ps_cut (ps_set (i := 6) sc_l_drawn.nd rfl (Or.inl rfl) (pe_lst (pa_cons (pe_call (ok_l_of (K := K) T) (hr.mono (by decide)) rfl T.g_l_of T.f_l_of.kp B1 B1v pass0 (pa_cons (pv 0) (pa_cons (pe_lst (pa_cons (pe_tup (pa_cons pe_int (pa_cons pe_int pa_nil))) (pa_cons (pe_tup (pa_cons pe_int (pa_cons pe_int pa_nil))) (pa_cons (pe_tup (pa_cons pe_int (pa_cons pe_int pa_nil))) (pa_cons (pe_tup (pa_cons (pe_un un_neg pe_int) (pa_cons pe_int pa_nil))) (pa_cons (pe_tup (pa_cons pe_int (pa_cons pe_int pa_nil))) (pa_cons (pe_tup (pa_cons (pe_un un_neg pe_int) (pa_cons pe_int pa_nil))) pa_nil))))))) pa_nil))) pa_nil))))
      (pss_cons (ps_cut (ps_for PassesOwn.never rfl (pi_range1 rfl T.z_range (pa_cons (pe_op op_sub (pv 3) pe_int) pa_nil)) (pg_name (i := 7) sc_l_drawn.nd rfl (Or.inl rfl))
      (pss_one (ps_expr (pe_bm PySem.F.plainAttrs_list PySem.F.slot_list_append PySem.F.type_list_append mt_append (pv 6) (pa_cons (pe_call (ok_l_plus (K := K) T) (hr.mono (by decide)) rfl T.g_l_plus T.f_l_plus.kp B2 B2v pass0 (pa_cons (pe_ix (ixl (K := K)) (pv 6) (pe_un un_neg pe_int) (fun _ _ => rfl)) (pa_cons (pe_ifExp (pt_cmpR op_notN (pv 5) pe_non (nomark _)) (pv 5) (pe_call (ok_l_of (K := K) T) (hr.mono (by decide)) rfl T.g_l_of T.f_l_of.kp B1 B1v pass0 (pa_cons (pv 0) (pa_cons (pv 4) pa_nil)))) pa_nil))) pa_nil))))))
      (pss_cons (ps_cut (ps_set (i := 8) sc_l_drawn.nd rfl (Or.inl rfl) (pe_lst pa_nil)))
      (pss_cons (ps_cut (ps_for PassesOwn.never rfl (pi_range1 rfl T.z_range (pa_cons pe_int pa_nil)) (pg_name (i := 7) sc_l_drawn.nd rfl (Or.inl rfl))
      (pss_cons (ps_par (i := 9) (j := 10) rfl sc_l_drawn.nd rfl rfl (by decide) rfl rfl (pa_cons (pe_call (ok_l_pick (K := K) T) (hr.mono (by decide)) rfl T.g_l_pick T.f_l_pick.kp B0 B0v pass0 (pa_cons (pv 0) (pa_cons pe_int pa_nil))) (pa_cons (pe_call (ok_l_pick (K := K) T) (hr.mono (by decide)) rfl T.g_l_pick T.f_l_pick.kp B0 B0v pass0 (pa_cons (pv 0) (pa_cons (pv 3) pa_nil))) pa_nil)) (by rfl))
      (pss_cons (ps_set (i := 11) sc_l_drawn.nd rfl (Or.inl rfl) (pe_lst (pa_cons (pe_ix (ixl (K := K)) (pv 6) (pv 10) (fun _ _ => rfl)) (pa_cons (pe_call (ok_l_mid (K := K) T) (hr.mono (by decide)) rfl T.g_l_mid T.f_l_mid.kp B3 B3v pass0 (pa_cons (pe_ix (ixl (K := K)) (pv 6) (pv 10) (fun _ _ => rfl)) (pa_cons (pe_ix (ixl (K := K)) (pv 6) (pe_callB (id := "max") (call_max2 rfl) (by rfl) T.z_max (by decide +kernel) (pa_cons pe_int (pa_cons (pe_op op_sub (pv 10) pe_int) pa_nil))) (fun _ _ => rfl)) pa_nil))) (pa_cons (pe_call (ok_l_plus (K := K) T) (hr.mono (by decide)) rfl T.g_l_plus T.f_l_plus.kp B2 B2v pass0 (pa_cons (pe_ix (ixl (K := K)) (pv 6) (pv 10) (fun _ _ => rfl)) (pa_cons (pe_tup (pa_cons (pe_op op_sub pe_int (pe_op op_mulA pe_int (pv 7))) (pa_cons pe_int pa_nil))) pa_nil))) pa_nil)))))
      (pss_one (ps_expr (pe_bm PySem.F.plainAttrs_list PySem.F.slot_list_append PySem.F.type_list_append mt_append (pv 8) (pa_cons (pe_ifExp (pt_cmpR op_lt (pv 9) pe_int (nomark _)) (pe_ix (ixl (K := K)) (pv 11) (pv 9) (fun _ _ => rfl)) pe_non) pa_nil))))))))
      (pss_cons (ps_cut (ps_if (PW.pt (pw_and (pt_cmpR (notInDK (K := K) (rm65 hr)) pe_non (pv 8) (by rfl)) (pw_and1 (pt_val (pe_call (ok_l_less (K := K) T) (hr.mono (by decide)) rfl T.g_l_less T.f_l_less.kp B4 B4v pass0 (pa_cons (pe_ix (ixl (K := K)) (pv 8) pe_int (fun _ _ => rfl)) (pa_cons (pe_ix (ixl (K := K)) (pv 8) pe_int (fun _ _ => rfl)) pa_nil)))))))
      (pss_one (ps_set (i := 8) sc_l_drawn.nd rfl (Or.inl rfl) (pe_revL (pv 8))))
      pss_nil))
      (pss_one (ps_ret (pe_tup (pa_cons (pv 6) (pa_cons (pv 2) (pa_cons (pe_ix (ixl (K := K)) (pv 8) pe_int (fun _ _ => rfl)) (pa_cons (pe_ix (ixl (K := K)) (pv 8) pe_int (fun _ _ => rfl)) pa_nil))))))))))))))), ?_⟩
    obtain ⟨J1, eJ1⟩ : ∃ J : L2.St → Hp → Prop, J = fun σ' H' => ∃ (r : Str) (mn : Int), σ' = [some (.ref h), some (.int m), some (.str r), some (.int mn), none, none, none, none, none, none, none, none] ∧ IsRule r ∧ 0 < mn ∧ mn ≤ 24 ∧ PotAt H' h g (n + 2) ∧ Kp2 h g H H' := ⟨_, rfl⟩
    refine ⟨J1, ?_, ?_⟩
    · walk_at "f"
      intro L nL
      have hL : (upd H L (.lst [V.str (Str.ofString "up"), V.str (Str.ofString "down"), V.str (Str.ofString "near")])) L = some (.lst [V.str (Str.ofString "up"), V.str (Str.ofString "down"), V.str (Str.ofString "near")]) := upd_same
      have kL : Kp2 h g H _ := (Kp2.refl H).up (u := .lst [V.str (Str.ofString "up"), V.str (Str.ofString "down"), V.str (Str.ofString "near")]) nL
      have ptL := pt.up (u := .lst [V.str (Str.ofString "up"), V.str (Str.ofString "down"), V.str (Str.ofString "near")]) nL
      obtain ⟨ne1, ne2⟩ := pt.nel nL
      clear pt
      generalize upd H L (.lst [V.str (Str.ofString "up"), V.str (Str.ofString "down"), V.str (Str.ofString "near")]) = HA at *
      have lgm := lg24 (show (m : Int) ≤ 24 by omega) (show (0 : Int) ≤ m by omega)
      refine ⟨h, g, L, n, _, rfl, ptL, by omega, SqL.of hL, ne1, ne2, by decide, by decide, fun i x HB hx ptB kB => ?_⟩
      obtain ⟨r, rfl, ru⟩ : ∃ r, x = V.str r ∧ IsRule r := by
        match i, hx with
        | 0, hx => cases hx; exact ⟨_, rfl, .inl rfl⟩
        | 1, hx => cases hx; exact ⟨_, rfl, .inr (.inl rfl)⟩
        | 2, hx => cases hx; exact ⟨_, rfl, .inr (.inr rfl)⟩
        | j + 3, hx => simp at hx
      clear ptL
      walk_at "f"
      intro d HC d0 d1 ptC kC
      walk_at "f"
      subst eJ1
      exact ⟨r, _, rfl, ru, by omega, by omega, ptC, (kL.trans kB).trans kC⟩
    rintro σ1 H2 hJ1
    subst eJ1
    obtain ⟨r, mn, rfl, ru, mn0, mn1, pt2, k2⟩ := hJ1
    clear pt
    have nH : ∀ p, H2 p = none → p ≠ h ∧ p ≠ g := fun p e => pt2.nel e
    obtain ⟨J2, eJ2⟩ : ∃ J : L2.St → Hp → Prop, J = fun σ' H' => ∃ (P : Addr), σ' = [some (.ref h), some (.int m), some (.str r), some (.int mn), some (.ref P), none, none, none, none, none, none, none] ∧ PoolAt H' P ∧ PotAt H' h g (n + 2) ∧ Kp2 h g H H' := ⟨_, rfl⟩
    refine ⟨J2, ?_, ?_⟩
    · walk_at "f"
      intro pa0 npa0
      have ea0 : (upd H2 pa0 (.tup [V.int (1), V.int 1])) pa0 = some (.tup [V.int (1), V.int 1]) := upd_same
      have sa0 := same1 (u := .tup [V.int (1), V.int 1]) npa0
      generalize upd H2 pa0 (.tup [V.int (1), V.int 1]) = HA0 at *
      walk_at "f"
      intro pa1 npa1
      have ea1 : (upd HA0 pa1 (.tup [V.int (1), V.int 2])) pa1 = some (.tup [V.int (1), V.int 2]) := upd_same
      have sa1 := same1 (u := .tup [V.int (1), V.int 2]) npa1
      generalize upd HA0 pa1 (.tup [V.int (1), V.int 2]) = HA1 at *
      walk_at "f"
      intro pa2 npa2
      have ea2 : (upd HA1 pa2 (.tup [V.int (1), V.int 3])) pa2 = some (.tup [V.int (1), V.int 3]) := upd_same
      have sa2 := same1 (u := .tup [V.int (1), V.int 3]) npa2
      generalize upd HA1 pa2 (.tup [V.int (1), V.int 3]) = HA2 at *
      walk_at "f"
      intro pa3 npa3
      have ea3 : (upd HA2 pa3 (.tup [V.int (2), V.int 7])) pa3 = some (.tup [V.int (2), V.int 7]) := upd_same
      have sa3 := same1 (u := .tup [V.int (2), V.int 7]) npa3
      generalize upd HA2 pa3 (.tup [V.int (2), V.int 7]) = HA3 at *
      walk_at "f"
      intro pa4 npa4
      have ea4 : (upd HA3 pa4 (.tup [V.int (5), V.int 12])) pa4 = some (.tup [V.int (5), V.int 12]) := upd_same
      have sa4 := same1 (u := .tup [V.int (5), V.int 12]) npa4
      generalize upd HA3 pa4 (.tup [V.int (5), V.int 12]) = HA4 at *
      walk_at "f"
      intro pa5 npa5
      have ea5 : (upd HA4 pa5 (.tup [V.int (1), V.int 104729])) pa5 = some (.tup [V.int (1), V.int 104729]) := upd_same
      have sa5 := same1 (u := .tup [V.int (1), V.int 104729]) npa5
      generalize upd HA4 pa5 (.tup [V.int (1), V.int 104729]) = HA5 at *
      walk_at "f"
      intro pa6 npa6
      have ea6 : (upd HA5 pa6 (.tup [V.int (3), V.int 1])) pa6 = some (.tup [V.int (3), V.int 1]) := upd_same
      have sa6 := same1 (u := .tup [V.int (3), V.int 1]) npa6
      generalize upd HA5 pa6 (.tup [V.int (3), V.int 1]) = HA6 at *
      walk_at "f"
      intro pa7 npa7
      have ea7 : (upd HA6 pa7 (.tup [V.int (1), V.int 1])) pa7 = some (.tup [V.int (1), V.int 1]) := upd_same
      have sa7 := same1 (u := .tup [V.int (1), V.int 1]) npa7
      generalize upd HA6 pa7 (.tup [V.int (1), V.int 1]) = HA7 at *
      walk_at "f"
      intro P nP
      have al : ∀ v ∈ [V.ref pa0, V.ref pa1, V.ref pa2, V.ref pa3, V.ref pa4, V.ref pa5, V.ref pa6, V.ref pa7], PoolP 26391708 HA7 v := fun v hv => by
        simp only [List.mem_cons, List.not_mem_nil, or_false] at hv
        rcases hv with rfl | rfl | rfl | rfl | rfl | rfl | rfl | rfl
        · exact ⟨pa0, (⟨1, 1, by decide, by decide⟩ : Rat), rfl, ((((((((Same.refl _).trans sa1).trans sa2).trans sa3).trans sa4).trans sa5).trans sa6).trans sa7) _ _ ea0, by decide, ⟨8797236, by decide +kernel, by decide⟩⟩
        · exact ⟨pa1, (⟨1, 2, by decide, by decide⟩ : Rat), rfl, (((((((Same.refl _).trans sa2).trans sa3).trans sa4).trans sa5).trans sa6).trans sa7) _ _ ea1, by decide, ⟨4398618, by decide +kernel, by decide⟩⟩
        · exact ⟨pa2, (⟨1, 3, by decide, by decide⟩ : Rat), rfl, ((((((Same.refl _).trans sa3).trans sa4).trans sa5).trans sa6).trans sa7) _ _ ea2, by decide, ⟨2932412, by decide +kernel, by decide⟩⟩
        · exact ⟨pa3, (⟨2, 7, by decide, by decide⟩ : Rat), rfl, (((((Same.refl _).trans sa4).trans sa5).trans sa6).trans sa7) _ _ ea3, by decide, ⟨2513496, by decide +kernel, by decide⟩⟩
        · exact ⟨pa4, (⟨5, 12, by decide, by decide⟩ : Rat), rfl, ((((Same.refl _).trans sa5).trans sa6).trans sa7) _ _ ea4, by decide, ⟨3665515, by decide +kernel, by decide⟩⟩
        · exact ⟨pa5, (⟨1, 104729, by decide, by decide⟩ : Rat), rfl, (((Same.refl _).trans sa6).trans sa7) _ _ ea5, by decide, ⟨84, by decide +kernel, by decide⟩⟩
        · exact ⟨pa6, (⟨3, 1, by decide, by decide⟩ : Rat), rfl, ((Same.refl _).trans sa7) _ _ ea6, by decide, ⟨26391708, by decide +kernel, by decide⟩⟩
        · exact ⟨pa7, (⟨1, 1, by decide, by decide⟩ : Rat), rfl, (Same.refl _) _ _ ea7, by decide, ⟨8797236, by decide +kernel, by decide⟩⟩
      have sA : Same H2 HA7 := (((((((((Same.refl _).trans sa0).trans sa1).trans sa2).trans sa3).trans sa4).trans sa5).trans sa6).trans sa7)
      subst eJ2
      exact ⟨P, rfl, ⟨_, upd_same, rfl, fun v hv => (al v hv).same (same1 nP)⟩, (pt2.same sA).up nP, (k2.trans (Kp2.same sA)).up nP⟩
    rintro σ2 H3 hJ2
    subst eJ2
    obtain ⟨P, rfl, hP3, pt3, k3⟩ := hJ2
    clear pt2 k2 nH
    obtain ⟨J3, eJ3⟩ : ∃ J : L2.St → Hp → Prop, J = fun σ' H' => ∃ (sv : V), σ' = [some (.ref h), some (.int m), some (.str r), some (.int mn), some (.ref P), some sv, none, none, none, none, none, none] ∧ PoolAt H' P ∧ StepAt H' sv ∧ PotAt H' h g (n + 3) ∧ Kp2 h g H H' := ⟨_, rfl⟩
    refine ⟨J3, ?_, ?_⟩
    · obtain ⟨ps, eP, lP, al⟩ := id hP3
      walk_at "f"
      intro N nN
      have eP' := up1 (u := .lst [V.non, V.non]) nN eP
      have hN : (upd H3 N (.lst [V.non, V.non])) N = some (.lst [V.non, V.non]) := upd_same
      have sN := same1 (u := .lst [V.non, V.non]) nN
      generalize upd H3 N (.lst [V.non, V.non]) = HA at *
      refine ⟨P, N, ps, [.non, .non], rfl, rfl, eP', hN, szl (by rw [lP]; decide), fun C nC => ?_⟩
      have hC : (upd HA C (.lst (ps ++ [V.non, V.non]))) C = some (.lst (ps ++ [V.non, V.non])) := upd_same
      have sC := sN.trans (same1 (u := .lst (ps ++ [V.non, V.non])) nC)
      obtain ⟨ne1, ne2⟩ := (pt3.same sN).nel nC
      generalize upd HA C (.lst (ps ++ [V.non, V.non])) = HB at *
      refine ⟨h, g, C, n + 2, _, rfl, pt3.same sC, by omega, SqL.of hC, ne1, ne2, by rw [List.length_append, lP]; decide, by rw [List.length_append, lP]; decide, fun i x HD hx ptD kD => ?_⟩
      have st : StepAt HB x := by
        rcases List.mem_append.mp (List.mem_of_getElem? hx) with q | q
        · exact .inr ((al x q).same sC)
        · simp only [List.mem_cons, List.not_mem_nil, or_false] at q
          rcases q with rfl | rfl <;> exact .inl rfl
      have pB := pt3.same sC
      walk_at "f"
      subst eJ3
      exact ⟨x, rfl, (hP3.same sC).kp pB kD, st.nl (pB.nl kD), ptD, (k3.trans (Kp2.same sC)).trans kD⟩
    rintro σ3 H4 hJ3
    subst eJ3
    obtain ⟨sv, rfl, hP4, st4, pt4, k4⟩ := hJ3
    clear hP3 pt3 k3
    obtain ⟨J4, eJ4⟩ : ∃ J : L2.St → Hp → Prop, J = fun σ' H' => ∃ (M : Addr) (x : Rat), σ' = [some (.ref h), some (.int m), some (.str r), some (.int mn), some (.ref P), some sv, some (.ref M), none, none, none, none, none] ∧ H M = none ∧ PoolAt H' P ∧ StepAt H' sv ∧ MkD H' M [x] ∧ P ≠ M ∧ PotAt H' h g (n + 4) ∧ Kp2 h g H H' := ⟨_, rfl⟩
    refine ⟨J4, ?_, ?_⟩
    · walk_at "f"
      intro pb0 npb0
      have eb0 : (upd H4 pb0 (.tup [V.int (0), V.int 1])) pb0 = some (.tup [V.int (0), V.int 1]) := upd_same
      have sb0 := same1 (u := .tup [V.int (0), V.int 1]) npb0
      generalize upd H4 pb0 (.tup [V.int (0), V.int 1]) = HA0 at *
      walk_at "f"
      intro pb1 npb1
      have eb1 : (upd HA0 pb1 (.tup [V.int (3), V.int 1])) pb1 = some (.tup [V.int (3), V.int 1]) := upd_same
      have sb1 := same1 (u := .tup [V.int (3), V.int 1]) npb1
      generalize upd HA0 pb1 (.tup [V.int (3), V.int 1]) = HA1 at *
      walk_at "f"
      intro pb2 npb2
      have eb2 : (upd HA1 pb2 (.tup [V.int (7), V.int 2])) pb2 = some (.tup [V.int (7), V.int 2]) := upd_same
      have sb2 := same1 (u := .tup [V.int (7), V.int 2]) npb2
      generalize upd HA1 pb2 (.tup [V.int (7), V.int 2]) = HA2 at *
      walk_at "f"
      intro pb3 npb3
      have eb3 : (upd HA2 pb3 (.tup [V.int (-2), V.int 1])) pb3 = some (.tup [V.int (-2), V.int 1]) := upd_same
      have sb3 := same1 (u := .tup [V.int (-2), V.int 1]) npb3
      generalize upd HA2 pb3 (.tup [V.int (-2), V.int 1]) = HA3 at *
      walk_at "f"
      intro pb4 npb4
      have eb4 : (upd HA3 pb4 (.tup [V.int (10), V.int 3])) pb4 = some (.tup [V.int (10), V.int 3]) := upd_same
      have sb4 := same1 (u := .tup [V.int (10), V.int 3]) npb4
      generalize upd HA3 pb4 (.tup [V.int (10), V.int 3]) = HA4 at *
      walk_at "f"
      intro pb5 npb5
      have eb5 : (upd HA4 pb5 (.tup [V.int (-1), V.int 104729])) pb5 = some (.tup [V.int (-1), V.int 104729]) := upd_same
      have sb5 := same1 (u := .tup [V.int (-1), V.int 104729]) npb5
      generalize upd HA4 pb5 (.tup [V.int (-1), V.int 104729]) = HA5 at *
      walk_at "f"
      intro L nL
      have al : ∀ v ∈ [V.ref pb0, V.ref pb1, V.ref pb2, V.ref pb3, V.ref pb4, V.ref pb5], PoolV 35188944 HA5 v := fun v hv => by
        simp only [List.mem_cons, List.not_mem_nil, or_false] at hv
        rcases hv with rfl | rfl | rfl | rfl | rfl | rfl
        · exact ⟨pb0, (⟨0, 1, by decide, by decide⟩ : Rat), rfl, ((((((Same.refl _).trans sb1).trans sb2).trans sb3).trans sb4).trans sb5) _ _ eb0, ⟨0, by decide +kernel, by decide⟩⟩
        · exact ⟨pb1, (⟨3, 1, by decide, by decide⟩ : Rat), rfl, (((((Same.refl _).trans sb2).trans sb3).trans sb4).trans sb5) _ _ eb1, ⟨26391708, by decide +kernel, by decide⟩⟩
        · exact ⟨pb2, (⟨7, 2, by decide, by decide⟩ : Rat), rfl, ((((Same.refl _).trans sb3).trans sb4).trans sb5) _ _ eb2, ⟨30790326, by decide +kernel, by decide⟩⟩
        · exact ⟨pb3, (⟨-2, 1, by decide, by decide⟩ : Rat), rfl, (((Same.refl _).trans sb4).trans sb5) _ _ eb3, ⟨-17594472, by decide +kernel, by decide⟩⟩
        · exact ⟨pb4, (⟨10, 3, by decide, by decide⟩ : Rat), rfl, ((Same.refl _).trans sb5) _ _ eb4, ⟨29324120, by decide +kernel, by decide⟩⟩
        · exact ⟨pb5, (⟨-1, 104729, by decide, by decide⟩ : Rat), rfl, (Same.refl _) _ _ eb5, ⟨-84, by decide +kernel, by decide⟩⟩
      have sA : Same H4 HA5 := (((((((Same.refl _).trans sb0).trans sb1).trans sb2).trans sb3).trans sb4).trans sb5)
      have sL := sA.trans (same1 (u := .lst [V.ref pb0, V.ref pb1, V.ref pb2, V.ref pb3, V.ref pb4, V.ref pb5]) nL)
      have al2 : ∀ v ∈ [V.ref pb0, V.ref pb1, V.ref pb2, V.ref pb3, V.ref pb4, V.ref pb5], PoolV 35188944 (upd HA5 L (.lst [V.ref pb0, V.ref pb1, V.ref pb2, V.ref pb3, V.ref pb4, V.ref pb5])) v := fun v hv => (al v hv).nl (Nl.of (same1 nL))
      obtain ⟨ne1, ne2⟩ := (pt4.same sA).nel nL
      have hL : (upd HA5 L (.lst [V.ref pb0, V.ref pb1, V.ref pb2, V.ref pb3, V.ref pb4, V.ref pb5])) L = some (.lst [V.ref pb0, V.ref pb1, V.ref pb2, V.ref pb3, V.ref pb4, V.ref pb5]) := upd_same
      generalize upd HA5 L (.lst [V.ref pb0, V.ref pb1, V.ref pb2, V.ref pb3, V.ref pb4, V.ref pb5]) = HB at *
      have pB := pt4.same sL
      refine ⟨h, g, L, n + 3, _, rfl, pB, by omega, SqL.of hL, ne1, ne2, Nat.le_of_ble_eq_true rfl, Nat.le_of_ble_eq_true rfl, fun i v HD hv ptD kD => ?_⟩
      obtain ⟨a, x, rfl, hx, wx⟩ := (al2 v (List.mem_of_getElem? hv)).nl (pB.nl kD)
      have kk := (k4.trans (Kp2.same sL)).trans kD
      walk_at "f"
      intro M nM
      have hP := ((hP4.same sL).kp pB kD)
      have nPM : P ≠ M := by
        obtain ⟨ps, e, _⟩ := hP
        exact ne_of_none e nM
      subst eJ4
      refine ⟨M, x, rfl, kk.non ptD nM, hP.same (same1 nM), ((st4.same sL).nl (pB.nl kD)).same (same1 nM), ⟨[.ref a], upd_same, ⟨rfl, fun j z hz => ?_⟩, fun j y z h1 h2 => by simp at h2, fun j z hz => ?_⟩, nPM, ptD.up nM, kk.up nM⟩
      · match j, hz with
        | 0, hz => cases hz; exact ⟨a, rfl, up1 nM hx⟩
        | j + 1, hz => simp at hz
      · match j, hz with
        | 0, hz => cases hz; exact wx.mono (by decide)
        | j + 1, hz => simp at hz
    rintro σ4 H5 hJ4
    subst eJ4
    obtain ⟨M, x, rfl, nM, hP5, st5, mk5, nPM, pt5, k5⟩ := hJ4
    clear hP4 st4 pt4 k4
    obtain ⟨J5, eJ5⟩ : ∃ J : L2.St → Hp → Prop, J = fun σ' H' => ∃ (ms : List Rat) (v7 : Option V), σ' = [some (.ref h), some (.int m), some (.str r), some (.int mn), some (.ref P), some sv, some (.ref M), v7, none, none, none, none] ∧ (ms.length : Int) = mn ∧ MkD H' M ms ∧ PotAt H' h g (n + 28) ∧ Kp2 h g H H' := ⟨_, rfl⟩
    refine ⟨J5, ?_, ?_⟩
    · walk_at "f"
      refine for_range (fun i σ H' => ∃ (ms : List Rat) (v7 : Option V), σ = [some (.ref h), some (.int m), some (.str r), some (.int mn), some (.ref P), some sv, some (.ref M), v7, none, none, none, none] ∧ ms.length = i + 1 ∧ MkD H' M ms ∧ PoolAt H' P ∧ StepAt H' sv ∧ PotAt H' h g (n + 4 + i) ∧ Kp2 h g H H') ⟨[x], _, rfl, rfl, mk5, hP5, st5, pt5, k5⟩ ?_ ?_
      · rintro i σ HA hi ⟨ms, v7, rfl, lm, ⟨vs, eM, rs, ri, wh⟩, hP, st, pt, kk⟩
        have hi2 : i ≤ 22 := by omega
        have ne := rsv_ne pt eM rs (by omega)
        have lv := rs.1
        obtain ⟨x', hx⟩ : ∃ x, ms[i]? = some x := ⟨_, List.getElem?_eq_getElem (by omega)⟩
        obtain ⟨a, ea, ha⟩   := rs.2 i x' hx
        have wx := wh i x' hx
        have iM : atI vs (-1) = some (.ref a) := atI_end (n := i) (by omega) ea
        have bd : (4 + 3 * i) * 8797236 ≤ 1000000000 := by omega
        walk_at "f"
        have fin1 : ∀ (HB : Hp) (b : Addr) (y : Rat) (q : Nat), q ≤ n + 4 + i + 1 → HB M = some (.lst vs) → RsV HB vs ms → PoolAt HB P → StepAt HB sv → PotAt HB h g q → Kp2 h g H HB → 0 < y → WhM y 26391708 → ∀ (c : Addr) (HC : Hp), Same HB HC → HC c = some (PR (x' + y)) →
            ∃ (ms' : List Rat) (v7 : Option V), [some (.ref h), some (.int m), some (.str r), some (.int mn), some (.ref P), some sv, some (.ref M), some (.int (0 + (i : Int))), none, none, none, none] = [some (.ref h), some (.int m), some (.str r), some (.int mn), some (.ref P), some sv, some (.ref M), v7, none, none, none, none] ∧ ms'.length = i + 1 + 1 ∧ MkD (upd HC M (.lst (vs ++ [V.ref c]))) M ms' ∧ PoolAt (upd HC M (.lst (vs ++ [V.ref c]))) P ∧ StepAt (upd HC M (.lst (vs ++ [V.ref c]))) sv ∧ PotAt (upd HC M (.lst (vs ++ [V.ref c]))) h g (n + 4 + (i + 1)) ∧ Kp2 h g H (upd HC M (.lst (vs ++ [V.ref c]))) := by
          intro HB b y q lq eB rB hPB stB ptB kB y0 wy c HC sC hc
          have eC := sC _ _ eB
          exact ⟨ms ++ [x' + y], _, rfl, by rw [List.length_append, lm]; rfl, MkD.snoc eC (rB.same sC) ri wh lm hx y0 wy hc, (hPB.same sC).put eC nPM, (stB.same sC).nl (Nl.put eC), (((ptB.same sC).put ne.1 ne.2).mono (by omega)), (kB.trans (Kp2.same sC)).putN nM⟩
        rcases st with rfl | ⟨b, y, rfl, hb, y0, wy⟩
        · obtain ⟨ps, eP, lP, al⟩ := id hP
          have nP := hP.ne pt
          walk_at "f"
          refine ⟨nP.1, nP.2, by omega, by omega, fun j z HB hz ptB kB => ?_⟩
          obtain ⟨b, y, rfl, hb, y0, wy⟩ := (al _ (List.mem_of_getElem? hz)).nl (pt.nl kB)
          have nB := pt.nl kB
          have eB := kB _ _ eM ne.1 ne.2
          refine ⟨a, b, x', y, 30, rfl, nB _ _ ha rfl, hb, wx.sz bd, wy.sz (by decide), by decide, by decide, fun c HC nc sC hc => ?_⟩
          have eC := sC _ _ eB
          have ll : vs.length < 1000 := by omega
          walk_at "f"
          exact fin1 _ b y _ (Nat.le_refl _) eB (rs.nl nB) (hP.kp pt kB) (.inl rfl) ptB (kk.trans kB) y0 wy c HC sC hc
        · walk_at "f"
          refine ⟨x', y, 30, rfl, ha, hb, wx.sz bd, wy.sz (by decide), by decide, by decide, fun c HC nc sC hc => ?_⟩
          have eC := sC _ _ eM
          have ll : vs.length < 1000 := by omega
          walk_at "f"
          exact fin1 _ b y _ (by omega) eM rs hP (.inr ⟨b, y, rfl, hb, y0, wy⟩) pt kk y0 wy c HC sC hc
      · rintro σ HA ⟨ms, v7, rfl, lm, mk, hP, st, pt, kk⟩
        subst eJ5
        exact ⟨ms, v7, rfl, by omega, mk, pt.mono (by omega), kk⟩
    rintro σ5 H6 hJ5
    subst eJ5
    obtain ⟨ms, v7, rfl, lm, mk6, pt6, k6⟩ := hJ5
    clear hP5 st5 mk5 pt5 k5 nPM
    obtain ⟨J6, eJ6⟩ : ∃ J : L2.St → Hp → Prop, J = fun σ' H' => ∃ (E : Addr), σ' = [some (.ref h), some (.int m), some (.str r), some (.int mn), some (.ref P), some sv, some (.ref M), v7, some (.ref E), none, none, none] ∧ H E = none ∧ H' E = some (.lst []) ∧ E ≠ h ∧ E ≠ g ∧ M ≠ E ∧ MkD H' M ms ∧ PotAt H' h g (n + 28) ∧ Kp2 h g H H' := ⟨_, rfl⟩
    refine ⟨J6, ?_, ?_⟩
    · walk_at "f"
      intro E nE
      obtain ⟨ne1, ne2⟩ := pt6.nel nE
      have nME : M ≠ E := by
        obtain ⟨vs, e, _⟩ := mk6
        exact ne_of_none e nE
      subst eJ6
      exact ⟨E, rfl, k6.non pt6 nE, upd_same, ne1, ne2, nME, mk6.same (same1 nE), pt6.up nE, k6.up nE⟩
    rintro σ6 H7 hJ6
    subst eJ6
    obtain ⟨E, rfl, nE, hE, nE1, nE2, nME, mk7, pt7, k7⟩ := hJ6
    clear mk6 pt6 k6
    obtain ⟨J7, eJ7⟩ : ∃ J : L2.St → Hp → Prop, J = fun σ' H' => ∃ (a b : V) (v7 v9 v10 v11 : Option V), σ' = [some (.ref h), some (.int m), some (.str r), some (.int mn), some (.ref P), some sv, some (.ref M), v7, some (.ref E), v9, v10, v11] ∧ H' E = some (.lst [a, b]) ∧ ElV H' a ∧ ElV H' b ∧ MkD H' M ms ∧ PotAt H' h g (n + 32) ∧ Kp2 h g H H' := ⟨_, rfl⟩
    refine ⟨J7, ?_, ?_⟩
    · walk_at "f"
      refine for_range (fun i σ H' => ∃ (es : List V) (v7 v9 v10 v11 : Option V), σ = [some (.ref h), some (.int m), some (.str r), some (.int mn), some (.ref P), some sv, some (.ref M), v7, some (.ref E), v9, v10, v11] ∧ H' E = some (.lst es) ∧ es.length = i ∧ (∀ v ∈ es, ElV H' v) ∧ MkD H' M ms ∧ PotAt H' h g (n + 28 + 2 * i) ∧ Kp2 h g H H') ⟨[], _, _, _, _, rfl, hE, rfl, fun v hv => by simp at hv, mk7, pt7, k7⟩ ?_ ?_
      · rintro i σ HA hi ⟨es, v7, v9, v10, v11, rfl, hEA, le, ae, mk, pt, kk⟩
        have hi2 : i < 2 := hi
        have lgm := lg24 mn1 (by omega)
        walk_at "f"
        intro wy HB wy0 wy1 ptB kB
        have mkB := mk.kp (by omega) pt kB
        walk_at "f"
        intro at0 HC a0 a1 ptC kC
        have mkC := mkB.kp (by omega) ptB kC
        have kAC := kB.trans kC
        have hEC := kAC _ _ hEA nE1 nE2
        have aeC : ∀ v ∈ es, ElV HC v := fun v hv => (ae v hv).nl (pt.nl kAC)
        have kkC := kk.trans kAC
        clear mk mkB ptB pt kB kC kAC ae kk hEA
        obtain ⟨ai, rfl⟩ := Int.eq_ofNat_of_zero_le a0
        obtain ⟨vs, eM, rs, ri, wh⟩ := id mkC
        have lv := rs.1
        obtain ⟨x1, hx1⟩ : ∃ x, ms[ai]? = some x := ⟨_, List.getElem?_eq_getElem (by omega)⟩
        obtain ⟨c1, e1, h1⟩ := rs.2 ai x1 hx1
        have i1 : atI vs (ai : Int) = some (.ref c1) := atI_nat e1
        have w1 := wh ai x1 hx1
        obtain ⟨bi, eb, lb, b2⟩ : ∃ bi : Nat, (if (ai : Int) - 1 > 0 then (ai : Int) - 1 else 0) = (bi : Int) ∧ bi < ms.length ∧ (4 + 3 * bi) * 8797236 ≤ 1000000000 := ⟨ai - 1, by split <;> omega, by omega, Nat.le_trans (Nat.mul_le_mul_right _ (show 4 + 3 * (ai - 1) ≤ 73 by omega)) (Nat.le_of_ble_eq_true rfl)⟩
        obtain ⟨x2, hx2⟩ : ∃ x, ms[bi]? = some x := ⟨_, List.getElem?_eq_getElem lb⟩
        obtain ⟨c2, e2, h2⟩ := rs.2 bi x2 hx2
        have i2 : atI vs (if (ai : Int) - 1 > 0 then (ai : Int) - 1 else 0) = some (.ref c2) := by rw [eb]; exact atI_nat e2
        have w2 := wh bi x2 hx2
        have b1 : (4 + 3 * ai) * 8797236 ≤ 1000000000 := Nat.le_trans (Nat.mul_le_mul_right _ (show 4 + 3 * ai ≤ 73 by omega)) (Nat.le_of_ble_eq_true rfl)
        have eS : HO.tup [V.int (1 - 2 * (0 + (i : Int))), V.int 5] = PR (toR (1 - 2 * (0 + (i : Int)), 5)) := by
          have k1 : (toR (1, 5)).num = 1 ∧ ((toR (1, 5)).den : Int) = 5 := by decide +kernel
          have k2 : (toR (-1, 5)).num = -1 ∧ ((toR (-1, 5)).den : Int) = 5 := by decide +kernel
          obtain rfl | rfl : i = 0 ∨ i = 1 := by omega
          · show HO.tup [V.int 1, V.int 5] = HO.tup [V.int (toR (1, 5)).num, V.int ((toR (1, 5)).den : Int)]
            rw [k1.1, k1.2]
          · show HO.tup [V.int (-1), V.int 5] = HO.tup [V.int (toR (-1, 5)).num, V.int ((toR (-1, 5)).den : Int)]
            rw [k2.1, k2.2]
        have hs1 : (1 - 2 * (0 + (i : Int))).natAbs ≤ 1 := by omega
        have w3 := w1.fifth b1 hs1
        have z3 : SzR 30 (toR (1 - 2 * (0 + (i : Int)), 5)) := szr_of (by decide) (Nat.lt_of_le_of_lt hs1 (by decide)) (by decide)
        have m0 := w1.mid w2 b1 b2
        walk_at "f"
        refine ⟨x1, x2, 30, rfl, h1, h2, w1.sz b1, w2.sz b2, by decide, by decide, fun q1 HD nq1 sD hq1 => ?_⟩
        have eMD := sD _ _ eM
        walk_at "f"
        intro T nT
        have hT : (upd HD T (.tup [V.int (1 - 2 * (0 + (i : Int))), V.int 5])) T = some (.tup [V.int (1 - 2 * (0 + (i : Int))), V.int 5]) := upd_same
        have sT := same1 (u := .tup [V.int (1 - 2 * (0 + (i : Int))), V.int 5]) nT
        generalize upd HD T (.tup [V.int (1 - 2 * (0 + (i : Int))), V.int 5]) = HE at *
        rw [eS] at hT
        have sE := sD.trans sT
        have h1E := sE _ _ h1
        walk_at "f"
        all_goals (try refine ⟨x1, toR (1 - 2 * (0 + (i : Int)), 5), 30, rfl, h1E, hT, w1.sz b1, z3, by decide, by decide, fun q2 HF nq2 sF hq2 => ?_⟩)
        walk_at "f"
        intro L nL
        have sL := sF.trans (same1 (u := .lst [V.ref c1, V.ref q1, V.ref q2]) nL)
        have hL : (upd HF L (.lst [V.ref c1, V.ref q1, V.ref q2])) L = some (.lst [V.ref c1, V.ref q1, V.ref q2]) := upd_same
        have hq2' := up1 (u := .lst [V.ref c1, V.ref q1, V.ref q2]) nL hq2
        generalize upd HF L (.lst [V.ref c1, V.ref q1, V.ref q2]) = HG at *
        have hq1' := (sT.trans sL) _ _ hq1
        have h1' := sL _ _ h1E
        have sCG := sE.trans sL
        have hEG := sCG _ _ hEC
        have ll : es.length < 1000 := by omega
        have fin1 : ∀ v, ElV HG v → ∃ (v7 v9 v10 v11 : Option V), [some (.ref h), some (.int m), some (.str r), some (.int mn), some (.ref P), some sv, some (.ref M), some (.int (0 + (i : Int))), some (.ref E), some (.int wy), some (.int (ai : Int)), some (.ref L)] = [some (.ref h), some (.int m), some (.str r), some (.int mn), some (.ref P), some sv, some (.ref M), v7, some (.ref E), v9, v10, v11] ∧ (upd HG E (.lst (es ++ [v]))) E = some (.lst (es ++ [v])) ∧ (es ++ [v]).length = i + 1 ∧ (∀ u ∈ es ++ [v], ElV (upd HG E (.lst (es ++ [v]))) u) ∧ MkD (upd HG E (.lst (es ++ [v]))) M ms ∧ PotAt (upd HG E (.lst (es ++ [v]))) h g (n + 28 + 2 * (i + 1)) ∧ Kp2 h g H (upd HG E (.lst (es ++ [v]))) := fun v ev => by
          refine ⟨_, _, _, _, rfl, upd_same, by rw [List.length_append, le]; rfl, fun u hu => ?_, (mkC.same sCG).put hEG nME, (((ptC.same sCG).put nE1 nE2).mono (by omega)), (kkC.trans (Kp2.same sCG)).putN nE⟩
          rcases List.mem_append.mp hu with hu | hu
          · exact ((aeC u hu).nl (Nl.of sCG)).nl (Nl.put hEG)
          · rw [List.mem_singleton.mp hu]
            exact ev.nl (Nl.put hEG)
        walk_at "f"
        refine ite2 (fun c => ?_) (fun c => ?_)
        · have cw : wy < 3 := of_decide_eq_true c
          obtain ⟨v, iv, ev⟩ : ∃ v, atI [V.ref c1, V.ref q1, V.ref q2] wy = some v ∧ ElV HG v := by
            obtain rfl | rfl | rfl : wy = 0 ∨ wy = 1 ∨ wy = 2 := by omega
            · exact ⟨_, rfl, .inr ⟨c1, x1, rfl, h1', (w1.sz b1).mono (by decide)⟩⟩
            · exact ⟨_, rfl, .inr ⟨q1, _, rfl, hq1', m0⟩⟩
            · exact ⟨_, rfl, .inr ⟨q2, _, rfl, hq2', w3⟩⟩
          walk_at "f"
          exact fin1 v ev
        · walk_at "f"
          exact fin1 .non (.inl rfl)
      · rintro σ HA ⟨es, v7, v9, v10, v11, rfl, hEA, le, ae, mk, pt, kk⟩
        subst eJ7
        have le2 : es.length = 2 := le
        obtain ⟨a, b, rfl⟩ : ∃ a b, es = [a, b] := by
          match es, le2 with
          | [a, b], _ => exact ⟨a, b, rfl⟩
        exact ⟨a, b, v7, v9, v10, v11, rfl, hEA, ae a (by simp), ae b (by simp), mk, pt, kk⟩
    rintro σ7 H8 hJ7
    subst eJ7
    obtain ⟨a, b, v7, v9, v10, v11, rfl, hE8, ela, elb, mk8, pt8, k8⟩ := hJ7
    clear hE nE1 nE2 nME mk7 pt7 k7
    obtain ⟨J8, eJ8⟩ : ∃ J : L2.St → Hp → Prop, J = fun σ' H' => ∃ (E' : Addr) (a b : V) (lo hi : Option Rat), σ' = [some (.ref h), some (.int m), some (.str r), some (.int mn), some (.ref P), some sv, some (.ref M), v7, some (.ref E'), v9, v10, v11] ∧ H' E' = some (.lst [a, b]) ∧ OP H' a lo ∧ OP H' b hi ∧ ZzO 34 lo ∧ ZzO 34 hi ∧ (∀ x y, lo = some x → hi = some y → x ≤ y) ∧ MkD H' M ms ∧ PotAt H' h g (n + 32) ∧ Kp2 h g H H' := ⟨_, rfl⟩
    refine ⟨J8, ?_, ?_⟩
    · obtain ⟨oa, opa, za⟩ := ela.op
      obtain ⟨ob, opb, zb⟩ := elb.op
      walk_at "f"
      refine notin_ends hE8 opa opb ⟨_, rfl, ?_⟩
      have keep : (∀ x y, oa = some x → ob = some y → x ≤ y) → J8 [some (.ref h), some (.int m), some (.str r), some (.int mn), some (.ref P), some sv, some (.ref M), v7, some (.ref E), v9, v10, v11] H8 := fun sp => by
        subst eJ8
        exact ⟨E, a, b, oa, ob, rfl, hE8, opa, opb, za, zb, sp, mk8, pt8, k8⟩
      cases oa with
      | none =>
        refine ite2 (fun z => by cases z) (fun _ => ?_)
        exact keep (fun x y e => by cases e)
      | some x =>
        cases ob with
        | none =>
          refine ite2 (fun z => by cases z) (fun _ => ?_)
          exact keep (fun x y _ e => by cases e)
        | some y =>
          refine ite2 (fun _ => ?_) (fun z => absurd rfl z)
          obtain ⟨pa, rfl, ha⟩ := opa
          obtain ⟨pb, rfl, hb⟩ := opb
          walk_at "f"
          all_goals (try refine ⟨y, x, 34, rfl, hb, ha, zb _ rfl, za _ rfl, by decide, ?_⟩)
          walk_at "f"
          refine ite2 (fun c => ?_) (fun c => ?_)
          · have lt : y < x := of_decide_eq_true c
            walk_at "f"
            intro R nR
            subst eJ8
            exact ⟨R, .ref pb, .ref pa, some y, some x, rfl, upd_same, ⟨pb, rfl, up1 nR hb⟩, ⟨pa, rfl, up1 nR ha⟩, zb, za, fun u v e1 e2 => by cases e1; cases e2; exact Rat.le_of_lt lt, mk8.same (same1 nR), pt8.up nR, k8.up nR⟩
          · exact keep (fun u v e1 e2 => by cases e1; cases e2; exact Rat.not_lt.mp fun q => c (decide_eq_true q))
    rintro σ8 H9 hJ8
    subst eJ8
    obtain ⟨E', a', b', lo, hi, rfl, hE9, oa, ob, za, zb, span, mk9, pt9, k9⟩ := hJ8
    clear hE8 ela elb mk8 pt8 k8
    obtain ⟨vs, eM, rs, ri, wh⟩ := mk9
    have l0 : 0 < ms.length := by omega
    have l1 : ms.length ≤ 24 := by omega
    walk_at "f"
    intro T nT
    have s1 := same1 (u := .tup [V.ref M, V.str r, a', b']) nT
    refine fin T ⟨ms, r, lo, hi⟩ _ (k9.up nT) ((pt9.up nT).mono (by omega)) ⟨M, a', b', vs, upd_same, s1 _ _ eM, rs.same s1, oa.same s1, ob.same s1⟩ ⟨l0, l1, ri, ru, span⟩ ⟨fun x hx => ?_, za, zb⟩
    obtain ⟨i, hI⟩ := List.mem_iff_getElem?.mp hx
    have li : i < ms.length := (List.getElem?_eq_some_iff.mp hI).1
    exact ((wh i x hI).sz (Nat.le_trans (Nat.mul_le_mul_right _ (show 4 + 3 * i ≤ 73 by omega)) (Nat.le_of_ble_eq_true rfl))).mono (by decide)
theorem ok_l_ladders {P : Program} {w : World} {K : PySem.W.Frag} {mg : Str → Option Value} {base : Heap} {φ : Fds} (T : Txt K mg φ) : FnOk P w K mg base CX0 5 (He.fAd K ("_law_ladders", none)) φ.l_ladders p_l_ladders sp_ladders27 := by
  obtain ⟨_, B0v, B0⟩ := b_l_of_2 T
  obtain ⟨_, B1v, B1⟩ := b_l_scaled_2 T
  obtain ⟨_, B2v, B2⟩ := b_l_drawn_2 T
  refine T.f_l_ladders.ok sc_l_ladders (fun vs H Q E h => ?_) (fun cdv A outer s H vs Q E hr h => ?_)
  · obtain ⟨h, g, n, c, m, rfl, pt, hn, hc, m0, m1, fin⟩ := h; rfl
  · obtain ⟨h, g, n, c, m, rfl, pt, hn, hc, m0, m1, fin⟩ := h
    refine ⟨_, PSs.nox (pss_cons (ps_set (i := 3) sc_l_ladders.nd rfl (Or.inr rfl) (pe_call (ok_l_of (K := K) T) (hr.mono (by decide)) rfl T.g_l_of T.f_l_of.kp B0 B0v pass0 (pa_cons (pv 0) (pa_cons (pe_lst (pa_cons (pe_tup (pa_cons pe_int (pa_cons pe_int pa_nil))) (pa_cons (pe_tup (pa_cons pe_int (pa_cons pe_int pa_nil))) (pa_cons (pe_tup (pa_cons pe_int (pa_cons pe_int pa_nil))) (pa_cons (pe_tup (pa_cons (pe_op op_pow pe_int pe_int) (pa_cons pe_int pa_nil))) (pa_cons (pe_tup (pa_cons pe_int (pa_cons (pe_op op_add (pe_op op_pow pe_int pe_int) pe_int) pa_nil))) pa_nil)))))) pa_nil))))
      (pss_one (ps_ret (pe_lc (own := [("_law_k", 4)]) (g := gName 4) rfl sc_l_ladders.nd (pi_range1 rfl T.z_range (pa_cons (pv 1) pa_nil)) (blkOk_by (own := [("_law_k", 4)]) (N := N_l_ladders) (sc := (defScope s_l_ladders)) (by decide +kernel)) (fun _ _ _ _ _ => (pg_name (i := 4) sc_l_ladders.nd rfl (Or.inl rfl))) (fun _ _ _ _ _ => pts_nil) (fun _ _ _ _ _ => (pe_call (ok_l_scaled (K := K) T) (hr.mono (by decide)) rfl T.g_l_scaled T.f_l_scaled.kp B1 B1v pass0 (pa_cons (pe_call (ok_l_drawn (K := K) T) (hr.mono (by decide)) rfl T.g_l_drawn T.f_l_drawn.kp B2 B2v pass0 (pa_cons (pv 0) (pa_cons (pv 2) pa_nil))) (pa_cons (pv 3) pa_nil)))))))), ?_⟩
    walk_at "w"
    intro p0 np0
    have e0 : (upd H p0 (.tup [V.int 1, V.int 1])) p0 = some (.tup [V.int 1, V.int 1]) := upd_same
    have s0 := same1 (u := .tup [V.int 1, V.int 1]) np0
    generalize upd H p0 (.tup [V.int 1, V.int 1]) = HA0 at *
    walk_at "w"
    intro p1 np1
    have e1 : (upd HA0 p1 (.tup [V.int 1, V.int 1])) p1 = some (.tup [V.int 1, V.int 1]) := upd_same
    have s1 := same1 (u := .tup [V.int 1, V.int 1]) np1
    generalize upd HA0 p1 (.tup [V.int 1, V.int 1]) = HA1 at *
    walk_at "w"
    intro p2 np2
    have e2 : (upd HA1 p2 (.tup [V.int 1, V.int 1])) p2 = some (.tup [V.int 1, V.int 1]) := upd_same
    have s2 := same1 (u := .tup [V.int 1, V.int 1]) np2
    generalize upd HA1 p2 (.tup [V.int 1, V.int 1]) = HA2 at *
    walk_at "w"
    all_goals (try refine ⟨cp30, ?_⟩)
    walk_at "w"
    intro p3 np3
    have e3 : (upd HA2 p3 (.tup [V.int (10 ^ Int.toNat 30), V.int 7])) p3 = some (.tup [V.int (10 ^ Int.toNat 30), V.int 7]) := upd_same
    have s3 := same1 (u := .tup [V.int (10 ^ Int.toNat 30), V.int 7]) np3
    generalize upd HA2 p3 (.tup [V.int (10 ^ Int.toNat 30), V.int 7]) = HA3 at *
    walk_at "w"
    all_goals (try refine ⟨cp30, ?_⟩)
    walk_at "w"
    intro p4 np4
    have e4 : (upd HA3 p4 (.tup [V.int 1, V.int (10 ^ Int.toNat 30 + 57)])) p4 = some (.tup [V.int 1, V.int (10 ^ Int.toNat 30 + 57)]) := upd_same
    have s4 := same1 (u := .tup [V.int 1, V.int (10 ^ Int.toNat 30 + 57)]) np4
    generalize upd HA3 p4 (.tup [V.int 1, V.int (10 ^ Int.toNat 30 + 57)]) = HA4 at *
    walk_at "w"
    have e30 : (10 : Int) ^ Int.toNat 30 = 1000000000000000000000000000000 := by decide +kernel
    have e57 : (10 : Int) ^ Int.toNat 30 + 57 = 1000000000000000000000000000057 := by decide +kernel
    rw [e57] at e4
    rw [e30] at e3
    intro L nL
    have al : ∀ v ∈ [V.ref p0, V.ref p1, V.ref p2, V.ref p3, V.ref p4], ∃ (a : Addr) (q : Rat), v = .ref a ∧ HA4 a = some (PR q) ∧ 0 < q ∧ SzR 106 q := fun v hv => by
      simp only [List.mem_cons, List.not_mem_nil, or_false] at hv
      rcases hv with rfl | rfl | rfl | rfl | rfl
      · exact ⟨p0, (⟨1, 1, by decide, by decide⟩ : Rat), rfl, (((((Same.refl _).trans s1).trans s2).trans s3).trans s4) _ _ e0, by decide +kernel, by decide +kernel, by decide +kernel⟩
      · exact ⟨p1, (⟨1, 1, by decide, by decide⟩ : Rat), rfl, ((((Same.refl _).trans s2).trans s3).trans s4) _ _ e1, by decide +kernel, by decide +kernel, by decide +kernel⟩
      · exact ⟨p2, (⟨1, 1, by decide, by decide⟩ : Rat), rfl, (((Same.refl _).trans s3).trans s4) _ _ e2, by decide +kernel, by decide +kernel, by decide +kernel⟩
      · exact ⟨p3, (⟨1000000000000000000000000000000, 7, by decide, by decide +kernel⟩ : Rat), rfl, ((Same.refl _).trans s4) _ _ e3, by decide +kernel, by decide +kernel, by decide +kernel⟩
      · exact ⟨p4, (⟨1, 1000000000000000000000000000057, by decide, by decide +kernel⟩ : Rat), rfl, (Same.refl _) _ _ e4, by decide +kernel, by decide +kernel, by decide +kernel⟩
    have sA : Same H HA4 := ((((((Same.refl _).trans s0).trans s1).trans s2).trans s3).trans s4)
    have sL := sA.trans (same1 (u := .lst [V.ref p0, V.ref p1, V.ref p2, V.ref p3, V.ref p4]) nL)
    have sL1 := same1 (u := .lst [V.ref p0, V.ref p1, V.ref p2, V.ref p3, V.ref p4]) nL
    have hL : (upd HA4 L (.lst [V.ref p0, V.ref p1, V.ref p2, V.ref p3, V.ref p4])) L = some (.lst [V.ref p0, V.ref p1, V.ref p2, V.ref p3, V.ref p4]) := upd_same
    obtain ⟨ne1, ne2⟩ := (pt.same sA).nel nL
    generalize upd HA4 L (.lst [V.ref p0, V.ref p1, V.ref p2, V.ref p3, V.ref p4]) = HB at *
    have pB := pt.same sL
    refine ⟨h, g, L, n, _, rfl, pB, by omega, SqL.of hL, ne1, ne2, Nat.le_of_ble_eq_true rfl, Nat.le_of_ble_eq_true rfl, fun i v HC hv ptC kC => ?_⟩
    obtain ⟨sa, q, rfl, hq, q0, sq⟩ := al v (List.mem_of_getElem? hv)
    have hqC := pB.get kC (sL1 _ _ hq) rfl
    have kk := (Kp2.same sL).trans kC
    clear al hL pB kC pt sA sL sL1 hq
    walk_at "w"
    intro D nD
    refine lcLd (n := c) (c := 40) (m := n + 1) LdG (fun d q => q.ok.len0) walk_range (fun _ => trivial) (szs (by omega)) ptC nD (fun i x H1 H2 N M hi k1 pt1 yy hN => ?_) (fun H1 ys k1 pt1 hD ly al => fin D ys H1 (kk.non ptC nD) (kk.trans k1) pt1 hD ly al)
    obtain ⟨rfl, rfl⟩ := yy
    refine ⟨rfl, yesT ?_⟩
    have hq1 := ptC.get k1 hqC rfl
    walk_at "w"
    intro p d H3 k3 pt3 hp ok sz
    refine ⟨_, rfl, p, sa, d, q, 106, rfl, hp, pt1.get k3 hq1 rfl, sz.mono (by decide), sq, by decide, by decide, by have := ok.len1; omega, fun t H4 s4 ht => ?_⟩
    exact hN t (d.sc q) H4 (k3.trans (Kp2.same s4)) (pt3.same s4) ht ⟨ok.sc q0, sz.sc sq⟩
theorem ok_l_rising {P : Program} {w : World} {K : PySem.W.Frag} {mg : Str → Option Value} {base : Heap} {φ : Fds} (T : Txt K mg φ) : FnOk P w K mg base CX0 2 (He.fAd K ("_law_rising", none)) φ.l_rising p_l_rising sp_rising29 := by
  obtain ⟨_, B0v, B0⟩ := b_l_less_2 T
  refine T.f_l_rising.ok sc_l_rising (fun vs H Q E h => ?_) (fun cdv A outer s H vs Q E hr h => ?_)
  · obtain ⟨P0, vs0, qs, k, rfl, hP, r0, sz, k1, l9, kk⟩ := h; rfl
  · obtain ⟨P0, vs0, qs, k, rfl, hP, r0, sz, k1, l9, kk⟩ := h
    refine ⟨_, PSs.nox (pss_cons (ps_set (i := 1) sc_l_rising.nd rfl (Or.inl rfl) (pe_lst pa_nil))
      (pss_cons (ps_for PassesOwn.never rfl (pi_list (pv 0)) (pg_name (i := 2) sc_l_rising.nd rfl (Or.inr rfl))
      (pss_cons (ps_set (i := 3) sc_l_rising.nd rfl (Or.inl rfl) (pe_callB (id := "len") (lenS (K := K)) (by rfl) T.z_len PySem.boot_len (pa_cons (pe_lc (own := [("_law_one", 4)]) (g := gName 4) rfl sc_l_rising.nd (pi_list (pv 1)) (blkOk_by (own := [("_law_one", 4)]) (N := N_l_rising) (sc := (defScope s_l_rising)) (by decide +kernel)) (fun _ _ _ _ _ => (pg_name (i := 4) sc_l_rising.nd rfl (Or.inl rfl))) (fun _ _ _ _ _ => (pts_one (pt_val (pe_call (ok_l_less (K := K) T) (hr.mono (by decide)) rfl T.g_l_less T.f_l_less.kp B0 B0v pass0 (pa_cons (pv 4) (pa_cons (pv 2) pa_nil)))))) (fun _ _ _ _ _ => (pv 4))) pa_nil)))
      (pss_one (ps_if (pt_cmpR (notInDK (K := K) (rm65 hr)) (pv 2) (pv 1) (by rfl))
      (pss_one (ps_expr (pe_bm PySem.F.plainAttrs_list PySem.F.slot_list_insert PySem.F.type_list_insert mt_insert (pv 1) (pa_cons (pv 3) (pa_cons (pv 2) pa_nil)))))
      pss_nil))))
      (pss_one (ps_ret (pv 1))))), ?_⟩
    have lq := r0.1
    have hPS := SqL.of (K := K) hP
    walk_at "f"
    intro D nD
    have hD : (upd H D (.lst [])) D = some (.lst []) := upd_same
    have sD := same1 (u := .lst []) nD
    have ne : ∀ b o, H b = some o → b ≠ D := fun b o e => ne_of_none e nD
    generalize upd H D (.lst []) = H1 at *
    have hP1 := sD _ _ hP
    walk_at "f"
    refine for_it (walk_list (K := K) (a := P0) (xs := vs0)) (fun i σ H' => ∃ (ws : List V) (ss : List Rat) (v2 v3 : Option V), σ = [some (.ref P0), some (.ref D), v2, v3, none] ∧ Same H H' ∧ H' D = some (.lst ws) ∧ RsV H' ws ss ∧ ss.Pairwise (· < ·) ∧ (∀ x, x ∈ ss ↔ ∃ j, j < i ∧ qs[j]? = some x) ∧ ss.length ≤ i) ?_ (fun i σ H' _ p => ?_) ?_ ?_
    · exact ⟨[], [], _, _, rfl, sD, hD, RsV.none, List.Pairwise.nil, fun x => ⟨fun h => by simp at h, fun ⟨j, h, _⟩ => absurd h (Nat.not_lt_zero _)⟩, Nat.zero_le _⟩
    · obtain ⟨_, _, _, _, _, s, _⟩ := p
      exact SqL.of (s _ _ hP)
    · rintro i x σ H2 H2' hi ⟨ws, ss, v2, v3, rfl, s2, hD2, rs, pw, mem, ls⟩ yy
      obtain ⟨rfl, hx⟩ := yy
      obtain ⟨q, hq⟩ : ∃ q, qs[i]? = some q := ⟨_, List.getElem?_eq_getElem (by omega)⟩
      obtain ⟨a, ea, ha⟩ := r0.2 i q hq
      rw [ea] at hx
      cases hx
      have ha2 := s2 _ _ ha
      have sq := sz q (List.mem_of_getElem? hq)
      have ss_sz : ∀ s ∈ ss, SzR k s := fun s hs => by
        obtain ⟨j, _, hj⟩ := (mem s).mp hs
        exact sz s (List.mem_of_getElem? hj)
      have lw := rs.1
      have hDS := SqL.of (K := K) hD2
      show tSeq _ _ _ _ _
      refine ends_gen rfl fun DE eDE => ?_
      walk_at "f"
      intro E nE
      refine lcz (n := ws.length) walk_list (fun _ _ g s => s.seq g) (optR q ws ss) (optR_len lw) (szs (by omega)) hDS nE (fun j x H3 H4 o N M hj ho s3 yy hN hM => ?_) (fun H3 s3 hE => ?_)
      · obtain ⟨rfl, hx2⟩ := yy
        obtain ⟨y, hy⟩ : ∃ y, ss[j]? = some y := ⟨_, List.getElem?_eq_getElem (by omega)⟩
        obtain ⟨b, eb, hb⟩ := rs.2 j y hy
        rw [eb] at hx2
        cases hx2
        rw [optR_get eb hy] at ho
        have ho : (if y < q then some (V.ref b) else none) = o := Option.some.inj ho
        have sy := ss_sz y (List.mem_of_getElem? hy)
        refine ⟨rfl, ?_⟩
        refine ⟨_, rfl, _, rfl, b, a, y, q, k, rfl, s3 _ _ hb, s3 _ _ ha2, sy, sq, k1, ?_⟩
        refine ⟨_, rfl, ?_⟩
        show (if _ = true then _ else _)
        by_cases c : y < q
        · rw [if_pos (decide_eq_true c)]
          exact ⟨_, rfl, hN _ _ (by rw [← ho, if_pos c]) (Same.refl _)⟩
        · rw [if_neg (fun z => c (of_decide_eq_true z))]
          exact hM _ (by rw [← ho, if_neg c]) (Same.refl _)
      have ec := optR_cnt (q := q) lw
      have hES := SqL.of (K := K) hE
      have s23 := s2.trans s3
      have hD3 := s3 _ _ hD2
      have rs3 := rs.same s3
      have ha3 := s3 _ _ ha2
      have cl := cntR_le ss q
      walk_at "f"
      refine ⟨intsD [q.num, (q.den : Int)], _, dpT (zs := [q.num, (q.den : Int)]) ha3, RsV.dp hD3 rs3, shInts _, shRows (fun q : Rat => [q.num, (q.den : Int)]) ss, _, rfl, ?_⟩
      rw [any_rats, ec]
      show (if _ = true then _ else _)
      by_cases c : q ∈ ss
      · rw [if_neg (by simp [c])]
        show DE.nx _ _
        rw [eDE]
        refine ⟨ws, ss, _, _, rfl, s23, hD3, rs3, pw, fun x => ?_, by omega⟩
        rw [mem x]
        constructor
        · rintro ⟨j, h, e⟩
          exact ⟨j, by omega, e⟩
        · rintro ⟨j, h, e⟩
          by_cases ej : j = i
          · subst ej
            rw [hq] at e
            cases e
            exact (mem _).mp c
          · exact ⟨j, by omega, e⟩
      · rw [if_pos (by simp [c])]
        walk_at "f"
        show DE.nx _ _
        rw [eDE]
        rw [show ((cntR ss q : Nat) : Int).toNat = cntR ss q from Int.toNat_natCast _]
        have nl3 : Nl H3 (upd H3 D (.lst (ws.take (cntR ss q) ++ [V.ref a] ++ ws.drop (cntR ss q)))) := Nl.put hD3
        refine ⟨_, insR ss q, _, _, rfl, fun b o e => ?_, upd_same, (rs3.insr ha3).nl nl3, insR_pw pw c, fun x => ?_, ?_⟩
        · rw [upd_ne (ne b o e)]
          exact s23 _ _ e
        · rw [insR_mem, mem x]
          constructor
          · rintro (⟨j, h, e⟩ | rfl)
            · exact ⟨j, by omega, e⟩
            · exact ⟨i, by omega, hq⟩
          · rintro ⟨j, h, e⟩
            by_cases ej : j = i
            · subst ej
              rw [hq] at e
              cases e
              exact .inr rfl
            · exact .inl ⟨j, by omega, e⟩
        · unfold insR
          rw [List.length_append, List.length_append, List.length_take, List.length_drop, List.length_singleton]
          omega
    · rintro σ H2 ⟨ws, ss, v2, v3, rfl, s2, hD2, rs, pw, mem, ls⟩
      walk_at "f"
      refine kk D ws ss H2 s2 hD2 rs pw (fun x => ?_) (by omega)
      rw [mem x]
      constructor
      · rintro ⟨j, _, h⟩
        exact List.mem_of_getElem? h
      · intro h
        obtain ⟨j, hj⟩ := List.mem_iff_getElem?.mp h
        exact ⟨j, by have := (List.getElem?_eq_some_iff.mp hj).1; omega, hj⟩
theorem ok_l_points {P : Program} {w : World} {K : PySem.W.Frag} {mg : Str → Option Value} {base : Heap} {φ : Fds} (T : Txt K mg φ) : FnOk P w K mg base CX0 4 (He.fAd K ("_law_points", none)) φ.l_points p_l_points sp_points29 := by
  obtain ⟨_, B0v, B0⟩ := b_l_mid_2 T
  obtain ⟨_, B1v, B1⟩ := b_l_rising_1 T
  obtain ⟨_, B2v, B2⟩ := b_l_plus_2 T
  refine T.f_l_points.ok sc_l_points (fun vs H Q E h => ?_) (fun cdv A outer s H vs Q E hr h => ?_)
  · obtain ⟨p, q, d, e, rfl, hp, hq, gd, ge, kk⟩ := h; rfl
  · obtain ⟨p, q, d, e, rfl, hp, hq, gd, ge, kk⟩ := h
    refine ⟨_, PSs.nox (pss_cons (ps_set (i := 2) sc_l_points.nd rfl (Or.inl rfl) (pe_lst pa_nil))
      (pss_cons (ps_for PassesOwn.never rfl (pi_tup (pe_tup (pa_cons (pv 0) (pa_cons (pv 1) pa_nil)))) (pg_tup rfl (pgs_cons (pg_name (i := 3) sc_l_points.nd rfl (Or.inl rfl)) (pgs_cons (pg_name (i := 4) sc_l_points.nd rfl (Or.inl rfl)) (pgs_cons (pg_name (i := 5) sc_l_points.nd rfl (Or.inl rfl)) (pgs_cons (pg_name (i := 6) sc_l_points.nd rfl (Or.inl rfl)) pgs_nil)))))
      (pss_cons (ps_set (i := 2) sc_l_points.nd rfl (Or.inl rfl) (pe_op op_cat (pe_op op_cat (pv 2) (pv 3)) (pe_lc (own := [("_law_low", 8), ("_law_high", 9)]) (g := gTup K 2 (gCons (gName 8) (gCons (gName 9) (gNil)))) rfl sc_l_points.nd (RZ.pi_zipA (by rfl) T.z_zip (pa_cons (pv 3) (pa_cons (pe_slice (slL (K := K)) (pv 3) (po_some pe_int) po_none) pa_nil))) (blkOk_by (own := [("_law_low", 8), ("_law_high", 9)]) (N := N_l_points) (sc := (defScope s_l_points)) (by decide +kernel)) (fun _ _ _ _ _ => (pg_tup rfl (pgs_cons (pg_name (i := 8) sc_l_points.nd rfl (Or.inl rfl)) (pgs_cons (pg_name (i := 9) sc_l_points.nd rfl (Or.inl rfl)) pgs_nil)))) (fun _ _ _ _ _ => pts_nil) (fun _ _ _ _ _ => (pe_call (ok_l_mid (K := K) T) (hr.mono (by decide)) rfl T.g_l_mid T.f_l_mid.kp B0 B0v pass0 (pa_cons (pv 8) (pa_cons (pv 9) pa_nil)))))))
      (pss_one (ps_set (i := 2) sc_l_points.nd rfl (Or.inl rfl) (pe_op op_cat (pv 2) (pe_lc (own := [("_law_end", 10)]) (g := gName 10) rfl sc_l_points.nd (pi_tup (pe_tup (pa_cons (pv 5) (pa_cons (pv 6) pa_nil)))) (blkOk_by (own := [("_law_end", 10)]) (N := N_l_points) (sc := (defScope s_l_points)) (by decide +kernel)) (fun _ _ _ _ _ => (pg_name (i := 10) sc_l_points.nd rfl (Or.inl rfl))) (fun _ _ _ _ _ => (pts_one (pt_cmpR op_notN (pv 10) pe_non (nomark _)))) (fun _ _ _ _ _ => (pv 10))))))))
      (pss_cons (ps_set (i := 2) sc_l_points.nd rfl (Or.inl rfl) (pe_call (ok_l_rising (K := K) T) (hr.mono (by decide)) rfl T.g_l_rising T.f_l_rising.kp B1 B1v pass0 (pa_cons (pv 2) pa_nil)))
      (pss_cons (ps_setLc (i := 7) (own := [("_law_low", 8), ("_law_high", 9)]) (g := gTup K 2 (gCons (gName 8) (gCons (gName 9) (gNil)))) rfl sc_l_points.nd rfl rfl (sw_true rfl rfl rfl (by decide +kernel)) (RZ.pi_zipA (by rfl) T.z_zip (pa_cons (pv 2) (pa_cons (pe_slice (slL (K := K)) (pv 2) (po_some pe_int) po_none) pa_nil))) (blkOk_by (own := [("_law_low", 8), ("_law_high", 9)]) (N := N_l_points) (sc := (defScope s_l_points)) (by decide +kernel)) (fun _ _ _ _ _ => (pg_tup rfl (pgs_cons (pg_name (i := 8) sc_l_points.nd rfl (Or.inl rfl)) (pgs_cons (pg_name (i := 9) sc_l_points.nd rfl (Or.inl rfl)) pgs_nil)))) (fun _ _ _ _ _ => pts_nil) (fun _ _ _ _ _ => (pe_call (ok_l_mid (K := K) T) (hr.mono (by decide)) rfl T.g_l_mid T.f_l_mid.kp B0 B0v pass0 (pa_cons (pv 8) (pa_cons (pv 9) pa_nil)))))
      (pss_one (ps_ret (pe_op op_cat (pe_op op_cat (pv 2) (pv 7)) (pe_lst (pa_cons (pe_call (ok_l_plus (K := K) T) (hr.mono (by decide)) rfl T.g_l_plus T.f_l_plus.kp B2 B2v pass0 (pa_cons (pe_ix (ixl (K := K)) (pv 2) pe_int (fun _ _ => rfl)) (pa_cons (pe_tup (pa_cons (pe_un un_neg pe_int) (pa_cons pe_int pa_nil))) pa_nil))) (pa_cons (pe_call (ok_l_plus (K := K) T) (hr.mono (by decide)) rfl T.g_l_plus T.f_l_plus.kp B2 B2v pass0 (pa_cons (pe_ix (ixl (K := K)) (pv 2) (pe_un un_neg pe_int) (fun _ _ => rfl)) (pa_cons (pe_tup (pa_cons pe_int (pa_cons pe_int pa_nil))) pa_nil))) pa_nil)))))))))), ?_⟩
    walk_at "f"
    intro B0 nB0
    have hB0 : (upd H B0 (.lst [])) B0 = some (.lst []) := upd_same
    have sB0 := same1 (u := .lst []) nB0
    generalize upd H B0 (.lst []) = H1 at *
    walk_at "f"
    intro T0 nT0
    have hT0 : (upd H1 T0 (.tup [V.ref p, V.ref q])) T0 = some (.tup [V.ref p, V.ref q]) := upd_same
    have sT0 := sB0.trans (same1 (u := .tup [V.ref p, V.ref q]) nT0)
    have hB1 := up1 (u := .tup [V.ref p, V.ref q]) nT0 hB0
    generalize upd H1 T0 (.tup [V.ref p, V.ref q]) = H2 at *
    have sTT := SqT.of (K := K) hT0
    clear nB0 hB0 sB0 nT0
    walk_at "f"
    refine for_it (walk_tup (K := K) (a := T0) (xs := [V.ref p, V.ref q])) (fun i σ H' => ∃ (B : Addr) (ws : List V) (v3 v4 v5 v6 : Option V), σ = [some (.ref p), some (.ref q), some (.ref B), v3, v4, v5, v6, none, none, none, none] ∧ Same H2 H' ∧ H' B = some (.lst ws) ∧ RsV H' ws (flatE ([d, e].take i))) ?_ (fun i σ H' _ p => ?_) ?_ ?_
    · exact ⟨B0, [], _, _, _, _, rfl, Same.refl _, hB1, RsV.none⟩
    · obtain ⟨_, _, _, _, _, _, _, s, _⟩ := p
      exact s.sqt sTT
    · rintro i x σ H3 H3' hi ⟨B, ws, v3, v4, v5, v6, rfl, s3, hB, rs⟩ yy
      obtain ⟨rfl, hx⟩ := yy
      obtain ⟨pp, dd, rfl, hpp, gdd, edd⟩ : ∃ (pp : Addr) (dd : LD), x = .ref pp ∧ LdAt H pp dd ∧ LdG dd ∧ [d, e].take (i + 1) = [d, e].take i ++ [dd] := by
        rcases i with _ | _ | i
        · cases hx
          exact ⟨p, d, rfl, hp, gd, rfl⟩
        · cases hx
          exact ⟨q, e, rfl, hq, ge, rfl⟩
        · have : i + 1 + 1 < 2 := hi
          omega
      have lfl : (flatE ([d, e].take i)).length ≤ 50 := by
        rcases i with _ | _ | i
        · exact Nat.zero_le _
        · show (flatE [d]).length ≤ 50
          have := ends_len (d := d)
          have := gd.ok.len1
          unfold flatE
          simp
          omega
        · have : i + 1 + 1 < 2 := hi
          omega
      have s03 := sT0.trans s3
      obtain ⟨M, u, w', vs, h1, h2, rm, h4, h5⟩ := (hpp.same s03).ob
      have l24 := gdd.ok.len1
      have lm := rm.1
      have lws := rs.1
      clear hx
      refine ⟨pp, _, rfl, SqT.of h1, rfl, _, _, rfl, _, _, rfl, _, _, rfl, _, _, rfl, rfl, ?_⟩
      show tSeq _ _ _ _ _
      refine ends_gen rfl fun DE eDE => ?_
      walk_at "f"
      intro C1 nC1
      have hC1 : (upd H3' C1 (.lst (ws ++ vs))) C1 = some (.lst (ws ++ vs)) := upd_same
      have sC1 := same1 (u := .lst (ws ++ vs)) nC1
      have rC1 := (rs.app rm).same sC1
      have h21 := sC1 _ _ h2
      have rm1 := rm.same sC1
      have h41 := h4.same sC1
      have h51 := h5.same sC1
      have s31 := s3.trans sC1
      generalize upd H3' C1 (.lst (ws ++ vs)) = HC at *
      walk_at "f"
      intro SL1 nSL1
      have ed1 : cutV vs (some 1) none = vs.drop 1 := cutV_drop vs (n := 1) rfl
      rw [ed1]
      have hSL1 : (upd HC SL1 (.lst (vs.drop 1))) SL1 = some (.lst (vs.drop 1)) := upd_same
      have sS1 := same1 (u := .lst (vs.drop 1)) nSL1
      have hLL1 := sS1 _ _ h21
      have rr1 := rm1.same sS1
      generalize upd HC SL1 (.lst (vs.drop 1)) = HS1 at *
      refine ⟨M, SL1, _, _, rfl, .inl ⟨SqL.of hLL1, SqL.of hSL1, fun DM1 nDM1 => ?_⟩⟩
      have lvm1 : vs.length = dd.ms.length := rr1.1
      refine lcr (n := dd.ms.length - 1) (walk_zip (n := dd.ms.length - 1) (xs := vs) (ys := vs.drop 1) (by rw [List.length_drop]; omega)) (fun _ _ g s => ⟨s.seq g.1, s.seq g.2⟩) (fun i H v => ∃ (a : Addr) (x : Rat), v = .ref a ∧ (midsR dd.ms)[i]? = some x ∧ H a = some (PR x)) (fun i H H' v ⟨a, x, e1, e2, e3⟩ n => ⟨a, x, e1, e2, n _ _ e3 rfl⟩) (szs (by omega)) ⟨SqL.of hLL1, SqL.of hSL1⟩ nDM1 (fun j x HA HB N M2 hj sA yy hN => ?_) (fun HM1 ys1 sM1 hDM1 ly1 hy1 => ?_)
      · obtain ⟨t, x1, x2, rfl, nt, rfl, ha, hb⟩ := yy
        obtain ⟨a1, ha1⟩ : ∃ a, dd.ms[j]? = some a := ⟨_, List.getElem?_eq_getElem (by omega)⟩
        obtain ⟨a2, ha2⟩ : ∃ a, dd.ms[j + 1]? = some a := ⟨_, List.getElem?_eq_getElem (by omega)⟩
        obtain ⟨c1, e1, g1⟩ := rr1.2 j a1 ha1
        obtain ⟨c2, e2, g2⟩ := rr1.2 (j + 1) a2 ha2
        have ha : vs[j]? = some x1 := ha
        have hb : (vs.drop 1)[j]? = some x2 := hb
        rw [List.getElem?_drop, Nat.add_comm, e2] at hb
        rw [e1] at ha
        cases ha
        cases hb
        have st := same1 (u := .tup [V.ref c1, V.ref c2]) nt
        have ht : (upd HA t (.tup [V.ref c1, V.ref c2])) t = some (.tup [V.ref c1, V.ref c2]) := upd_same
        generalize upd HA t (.tup [V.ref c1, V.ref c2]) = HB at *
        refine ⟨t, _, rfl, SqT.of ht, rfl, _, _, rfl, _, _, rfl, rfl, rfl, yesT ?_⟩
        refine ⟨_, rfl, _, rfl, c1, c2, a1, a2, 140, rfl, (sA.trans st) _ _ g1, (sA.trans st) _ _ g2, gdd.sz.1 _ (List.mem_of_getElem? ha1), gdd.sz.1 _ (List.mem_of_getElem? ha2), by decide, by decide, fun p5 H5 np s5 hp5 => ?_⟩
        exact hN _ _ (st.trans s5) ⟨p5, _, rfl, mids_get ha1 ha2, hp5⟩
      have rm1 : RsV HM1 ys1 (midsR dd.ms) := rsv_of (by rw [mids_len]; omega) hy1
      have sCM := sS1.trans sM1
      have hCM := sCM _ _ hC1
      have rCM := rC1.same sCM
      have lys := rm1.1
      refine ⟨C1, DM1, ws ++ vs, ys1, rfl, rfl, hCM, hDM1, szl (by rw [List.length_append]; omega), fun C2 nC2 => ?_⟩
      have hC2 : (upd HM1 C2 (.lst (ws ++ vs ++ ys1))) C2 = some (.lst (ws ++ vs ++ ys1)) := upd_same
      have sC2 := same1 (u := .lst (ws ++ vs ++ ys1)) nC2
      have rC2 := (rCM.app rm1).same sC2
      have h42 := (h41.same sCM).same sC2
      have h52 := (h51.same sCM).same sC2
      have s32 := (s31.trans sCM).trans sC2
      generalize upd HM1 C2 (.lst (ws ++ vs ++ ys1)) = HD at *
      walk_at "f"
      intro T3 nT3
      have hT3 : (upd HD T3 (.tup [u, w'])) T3 = some (.tup [u, w']) := upd_same
      have sT3 := same1 (u := .tup [u, w']) nT3
      have hC23 := sT3 _ _ hC2
      have rC23 := rC2.same sT3
      have h43 := h42.same sT3
      have h53 := h52.same sT3
      have s33 := s32.trans sT3
      generalize upd HD T3 (.tup [u, w']) = HE at *
      have sT3T := SqT.of (K := K) hT3
      clear hT3 sT3 h42 h52 h41 h51 hC2 rC2 s32 hy1 hDM1
      walk_at "f"
      refine ⟨⟨_, sT3T⟩, fun DL nDL => ?_⟩
      refine lcz (n := 2) (walk_tup (xs := [u, w'])) (fun _ _ g s => s.sqt g) [optO dd.lo u, optO dd.hi w'] rfl (szs (Nat.le_of_ble_eq_true rfl)) sT3T nDL (fun j x HA HB z N M2 hj hz sA yy hN hM => ?_) (fun HF sF hDL => ?_)
      · obtain ⟨rfl, hx⟩ := yy
        obtain ⟨o, op, eo⟩ : ∃ o, OP HE x o ∧ z = optO o x := by
          rcases j with _ | _ | j
          · cases hx
            cases hz
            exact ⟨_, h43, rfl⟩
          · cases hx
            cases hz
            exact ⟨_, h53, rfl⟩
          · omega
        subst eo
        refine ⟨rfl, _, rfl, rfl, _, rfl, ?_⟩
        show if (!decide (x = V.non)) = true then _ else _
        cases o with
        | none =>
          cases op
          exact hM _ rfl (Same.refl _)
        | some y =>
          obtain ⟨a, rfl, _⟩ := op
          exact ⟨_, rfl, hN _ _ rfl (Same.refl _)⟩
      have rO := (optO_rsv h43 h53).same sF
      have lO : ([optO dd.lo u, optO dd.hi w'].filterMap _root_.id).length ≤ 2 := by
        rw [rO.1, List.length_append]
        have e1 : dd.lo.toList.length ≤ 1 := by cases dd.lo <;> simp
        have e2 : dd.hi.toList.length ≤ 1 := by cases dd.hi <;> simp
        omega
      have rA := (rC23.same sF).app rO
      have hC24 := sF _ _ hC23
      have lyy : ys1.length = dd.ms.length - 1 := by rw [rm1.1, mids_len]
      refine ⟨C2, DL, _, _, rfl, rfl, hC24, hDL, szl (by rw [List.length_append, List.length_append]; omega), fun C3 nC3 => ?_⟩
      show DE.nx _ _
      rw [eDE]
      refine ⟨C3, _, _, _, _, _, rfl, (s33.trans sF).trans (same1 nC3), upd_same, ?_⟩
      rw [edd, flatE_snoc]
      have ea : flatE ([d, e].take i) ++ endsR dd = flatE ([d, e].take i) ++ dd.ms ++ midsR dd.ms ++ (dd.lo.toList ++ dd.hi.toList) := by
        unfold endsR
        simp [List.append_assoc]
      rw [ea]
      exact rA.same (same1 nC3)
    · rintro σ H3 ⟨B, ws, v3, v4, v5, v6, rfl, s3, hB, rs⟩
      have es : [d, e].take ([V.ref p, V.ref q] : List V).length = [d, e] := rfl
      rw [es] at rs
      have lE : (flatE [d, e]).length ≤ 100 := by
        have e1 := ends_len (d := d)
        have e2 := ends_len (d := e)
        have := gd.ok.len1
        have := ge.ok.len1
        unfold flatE
        simp
        omega
      have memE : ∀ x, x ∈ flatE [d, e] ↔ x ∈ endsR d ∨ x ∈ endsR e := fun x => by
        unfold flatE
        simp
      have szE : ∀ x ∈ flatE [d, e], SzR 283 x := fun x hx => by
        rcases (memE x).mp hx with hx | hx
        · exact ends_sz gd.sz x hx
        · exact ends_sz ge.sz x hx
      clear sTT hT0
      have s23 := sT0.trans s3
      walk_at "f"
      all_goals (try refine ⟨flatE [d, e], 283, rfl, hB, rs, szE, by decide, by omega, fun D1 ws1 ss H4 s4 hD1 r1 pw mem ls => ?_⟩)
      have szS : ∀ x ∈ ss, SzR 283 x := fun x hx => szE x ((mem x).mp hx)
      have l0 : 0 < ss.length := by
        have h0 := gd.ok.len0
        obtain ⟨x, hx⟩ : ∃ x, d.ms[0]? = some x := ⟨_, List.getElem?_eq_getElem h0⟩
        exact List.length_pos_of_mem ((mem x).mpr ((memE x).mpr (.inl (ends_all (.inl (List.mem_of_getElem? hx))))))
      have lw1 := r1.1
      clear hB rs s3 sT0
      walk_at "f"
      intro SL2 nSL2
      have ed2 : cutV ws1 (some 1) none = ws1.drop 1 := cutV_drop ws1 (n := 1) rfl
      rw [ed2]
      have hSL2 : (upd H4 SL2 (.lst (ws1.drop 1))) SL2 = some (.lst (ws1.drop 1)) := upd_same
      have sS2 := same1 (u := .lst (ws1.drop 1)) nSL2
      have hLL2 := sS2 _ _ hD1
      have rr2 := r1.same sS2
      generalize upd H4 SL2 (.lst (ws1.drop 1)) = HS2 at *
      refine ⟨D1, SL2, _, _, rfl, .inl ⟨SqL.of hLL2, SqL.of hSL2, fun DM2 nDM2 => ?_⟩⟩
      have lvm2 : ws1.length = ss.length := rr2.1
      refine lcr (n := ss.length - 1) (walk_zip (n := ss.length - 1) (xs := ws1) (ys := ws1.drop 1) (by rw [List.length_drop]; omega)) (fun _ _ g s => ⟨s.seq g.1, s.seq g.2⟩) (fun i H v => ∃ (a : Addr) (x : Rat), v = .ref a ∧ (midsR ss)[i]? = some x ∧ H a = some (PR x)) (fun i H H' v ⟨a, x, e1, e2, e3⟩ n => ⟨a, x, e1, e2, n _ _ e3 rfl⟩) (szs (by omega)) ⟨SqL.of hLL2, SqL.of hSL2⟩ nDM2 (fun j x HA HB N M2 hj sA yy hN => ?_) (fun HM2 ys2 sM2 hDM2 ly2 hy2 => ?_)
      · obtain ⟨t, x1, x2, rfl, nt, rfl, ha, hb⟩ := yy
        obtain ⟨a1, ha1⟩ : ∃ a, ss[j]? = some a := ⟨_, List.getElem?_eq_getElem (by omega)⟩
        obtain ⟨a2, ha2⟩ : ∃ a, ss[j + 1]? = some a := ⟨_, List.getElem?_eq_getElem (by omega)⟩
        obtain ⟨c1, e1, g1⟩ := rr2.2 j a1 ha1
        obtain ⟨c2, e2, g2⟩ := rr2.2 (j + 1) a2 ha2
        have ha : ws1[j]? = some x1 := ha
        have hb : (ws1.drop 1)[j]? = some x2 := hb
        rw [List.getElem?_drop, Nat.add_comm, e2] at hb
        rw [e1] at ha
        cases ha
        cases hb
        have st := same1 (u := .tup [V.ref c1, V.ref c2]) nt
        have ht : (upd HA t (.tup [V.ref c1, V.ref c2])) t = some (.tup [V.ref c1, V.ref c2]) := upd_same
        generalize upd HA t (.tup [V.ref c1, V.ref c2]) = HB at *
        refine ⟨t, _, rfl, SqT.of ht, rfl, _, _, rfl, _, _, rfl, rfl, rfl, yesT ?_⟩
        refine ⟨_, rfl, _, rfl, c1, c2, a1, a2, 283, rfl, (sA.trans st) _ _ g1, (sA.trans st) _ _ g2, szS _ (List.mem_of_getElem? ha1), szS _ (List.mem_of_getElem? ha2), by decide, by decide, fun p5 H5 np s5 hp5 => ?_⟩
        exact hN _ _ (st.trans s5) ⟨p5, _, rfl, mids_get ha1 ha2, hp5⟩
      have rm2 : RsV HM2 ys2 (midsR ss) := rsv_of (by rw [mids_len]; omega) hy2
      have sSM := sS2.trans sM2
      have hDd := sSM _ _ hD1
      have rD := r1.same sSM
      have lmd : ys2.length = ss.length - 1 := by rw [rm2.1, mids_len]
      obtain ⟨a, ha⟩ : ∃ a, ss[0]? = some a := ⟨_, List.getElem?_eq_getElem l0⟩
      obtain ⟨b, hb⟩ : ∃ b, ss[ss.length - 1]? = some b := ⟨_, List.getElem?_eq_getElem (by omega)⟩
      obtain ⟨a0, ea, ga⟩ := rD.2 0 a ha
      obtain ⟨b0, eb, gb⟩ := rD.2 _ b hb
      have sza := szS a (List.mem_of_getElem? ha)
      have szb' := szS b (List.mem_of_getElem? hb)
      have i0 : atI ws1 0 = some (.ref a0) := atI_nat (j := 0) ea
      have i1 : atI ws1 (-1) = some (.ref b0) := atI_end (n := ss.length - 1) (by omega) eb
      have sAll := (s23.trans s4).trans sSM
      clear hy2 hLL2 hSL2 rr2
      walk_at "f"
      intro C4 nC4
      have sC4 := same1 (u := .lst (ws1 ++ ys2)) nC4
      have hC4 : (upd HM2 C4 (.lst (ws1 ++ ys2))) C4 = some (.lst (ws1 ++ ys2)) := upd_same
      have hD4 := sC4 _ _ hDd
      have rC4 := (rD.app rm2).same sC4
      have ga4 := sC4 _ _ ga
      have gb4 := sC4 _ _ gb
      generalize upd HM2 C4 (.lst (ws1 ++ ys2)) = HG at *
      have hDS4 := SqL.of (K := K) hD4
      have szm : SzR 283 (-1 : Rat) := ⟨by decide +kernel, by decide +kernel⟩
      have szo : SzR 283 (1 : Rat) := ⟨by decide +kernel, by decide +kernel⟩
      walk_at "f"
      intro T5 nT5
      have h55 : (upd HG T5 (.tup [V.int (-1), V.int 1])) T5 = some (PR (-1 : Rat)) := upd_same
      have sT5 := same1 (u := .tup [V.int (-1), V.int 1]) nT5
      refine ⟨a0, T5, a, -1, 283, rfl, sT5 _ _ ga4, h55, sza, szm, by decide, by decide, fun x1 H5 np5 s5 hx1 => ?_⟩
      have s55 := sT5.trans s5
      have hD5 := s55 _ _ hD4
      have hDS5 := SqL.of (K := K) hD5
      clear h55 nT5
      walk_at "f"
      intro T6 nT6
      have h66 : (upd H5 T6 (.tup [V.int 1, V.int 1])) T6 = some (PR (1 : Rat)) := upd_same
      have sT6 := same1 (u := .tup [V.int 1, V.int 1]) nT6
      refine ⟨b0, T6, b, 1, 283, rfl, (s55.trans sT6) _ _ gb4, h66, szb', szo, by decide, by decide, fun x2 H6 np6 s6 hx2 => ?_⟩
      have s66 := sT6.trans s6
      have hx16 := s66 _ _ hx1
      clear h66 nT6
      walk_at "f"
      intro C6 nC6
      have hC6 : (upd H6 C6 (.lst [V.ref x1, V.ref x2])) C6 = some (.lst [V.ref x1, V.ref x2]) := upd_same
      have sC6 := same1 (u := .lst [V.ref x1, V.ref x2]) nC6
      have r6 := ((RsV.one hx16).app (RsV.one hx2)).same sC6
      have s46 := (s55.trans s66).trans sC6
      have hC46 := s46 _ _ hC4
      have rC6 := (rC4.same s46).app r6
      generalize upd H6 C6 (.lst [V.ref x1, V.ref x2]) = H7 at *
      refine ⟨C4, C6, _, _, rfl, rfl, hC46, hC6, szl (by rw [List.length_append]; show _ + 2 ≤ 1000; omega), fun C7 nC7 => ?_⟩
      refine kk C7 _ ss a b _ (((sAll.trans sC4).trans s46).trans (same1 nC7)) upd_same (rC6.same (same1 nC7)) pw ha hb (fun x hx => (mem x).mpr ((memE x).mpr (hx.imp ends_all ends_all))) (fun x hx => ?_) (by rw [List.length_append, List.length_append]; show _ + 2 ≤ 500; omega)
      unfold triedR at hx
      rcases List.mem_append.mp hx with hx | hx
      · rcases List.mem_append.mp hx with hx | hx
        · exact (szS x hx).mono (by decide)
        · exact (mids_sz szS x hx).mono (by decide)
      · simp only [List.mem_cons, List.not_mem_nil, or_false] at hx
        rcases hx with rfl | rfl
        · exact (szr_add sza szm).mono (by decide)
        · exact (szr_add szb' szo).mono (by decide)
theorem ok_l_right {P : Program} {w : World} {K : PySem.W.Frag} {mg : Str → Option Value} {base : Heap} {φ : Fds} (T : Txt K mg φ) : FnOk P w K mg base CX0 11 (He.fAd K ("_law_right", none)) φ.l_right p_l_right sp_lright29 := by
  obtain ⟨_, B0v, B0⟩ := b_l_made_1 T
  obtain ⟨_, B1v, B1⟩ := b_l_points_2 T
  obtain ⟨_, B2v, B2⟩ := b_Measure_init_3 T
  obtain ⟨_, B3v, B3⟩ := b_Ladder_size_2 T
  obtain ⟨_, B4v, B4⟩ := b_Ladder_len_1 T
  obtain ⟨_, B5v, B5⟩ := b_led_paper_3 T
  obtain ⟨_, B6v, B6⟩ := b_led_3 T
  obtain ⟨_, B7v, B7⟩ := b_shows_led_5 T
  refine T.f_l_right.ok sc_l_right (fun vs H Q E h => ?_) (fun cdv A outer s H vs Q E hr h => ?_)
  · obtain ⟨p, q, d, e, rfl, hp, hq, gd, ge, kk⟩ := h; rfl
  · obtain ⟨p, q, d, e, rfl, hp, hq, gd, ge, kk⟩ := h
    refine ⟨_, PSs.nox (pss_cons (ps_cut (ps_par3 (i := 2) (j := 3) (l := 4) rfl sc_l_right.nd rfl rfl rfl (by decide) (by decide) (by decide) rfl rfl rfl (pa_cons (pe_call (ok_l_made (K := K) T) (hr.mono (by decide)) rfl T.g_l_made T.f_l_made.kp B0 B0v pass0 (pa_cons (pv 0) pa_nil)) (pa_cons (pe_call (ok_l_made (K := K) T) (hr.mono (by decide)) rfl T.g_l_made T.f_l_made.kp B0 B0v pass0 (pa_cons (pv 1) pa_nil)) (pa_cons pe_dnewT pa_nil))) (by rfl)))
      (pss_cons (ps_cut (ps_for PassesOwn.never rfl (pi_list (pe_call (ok_l_points (K := K) T) (hr.mono (by decide)) rfl T.g_l_points T.f_l_points.kp B1 B1v pass0 (pa_cons (pv 0) (pa_cons (pv 1) pa_nil)))) (pg_tup rfl (pgs_cons (pg_name (i := 5) sc_l_right.nd rfl (Or.inl rfl)) (pgs_cons (pg_name (i := 6) sc_l_right.nd rfl (Or.inl rfl)) pgs_nil)))
      (pss_cons (ps_set (i := 7) sc_l_right.nd rfl (Or.inl rfl) (pe_make T.mk_Measure (ok_Measure_init (K := K) T) (hr.mono (by decide)) rfl T.g_Measure B2 B2v pass0 (pa_cons (pv 5) (pa_cons (pv 6) pa_nil))))
      (pss_cons (ps_par (i := 8) (j := 9) rfl sc_l_right.nd rfl rfl (by decide) rfl rfl (pa_cons (pe_meth (pv 2) T.cl_Ladder T.me_Ladder_size (ok_Ladder_size (K := K) T) (hr.mono (by decide)) B3 B3v pass0 (pa_cons (pv 7) pa_nil)) (pa_cons (pe_meth (pv 3) T.cl_Ladder T.me_Ladder_size (ok_Ladder_size (K := K) T) (hr.mono (by decide)) B3 B3v pass0 (pa_cons (pv 7) pa_nil)) pa_nil)) (by rfl))
      (pss_one (ps_if (PW.pt (pw_and (pt_cmpR op_notN (pv 8) pe_non (nomark _)) (pw_and1 (pt_cmpR op_notN (pv 9) pe_non (nomark _)))))
      (pss_one (ps_asg pe_bl (pg_sub (pv 4) (pe_tup (pa_cons (pv 8) (pa_cons (pv 9) pa_nil))) (setDictK hr.units))))
      pss_nil))))))
      (pss_cons (ps_cut (ps_for PassesOwn.never rfl (pi_range1 rfl T.z_range (pa_cons (pe_callB (id := "len") (call_lenO (ok_Ladder_len (K := K) T) T.me_Ladder_len (bnil B4v B4) pass0 (hr.mono (by decide))) (by rfl) T.z_len PySem.boot_len (pa_cons (pv 2) pa_nil)) pa_nil)) (pg_name (i := 10) sc_l_right.nd rfl (Or.inr rfl))
      (pss_cons (ps_par (i := 11) (j := 12) rfl sc_l_right.nd rfl rfl (by decide) rfl rfl (pa_cons (pe_call (ok_led (K := K) T) (hr.mono (by decide)) rfl T.g_led T.f_led.kp B6 B6v pass0 (pa_cons (pv 2) (pa_cons (pv 10) (pa_cons (pv 3) pa_nil)))) (pa_cons (pe_call (ok_led_paper (K := K) T) (hr.mono (by decide)) rfl T.g_led_paper T.f_led_paper.kp B5 B5v pass0 (pa_cons (pv 2) (pa_cons (pv 10) (pa_cons (pv 3) pa_nil)))) pa_nil)) (by rfl))
      (pss_cons (ps_cut (ps_set (i := 13) sc_l_right.nd rfl (Or.inl rfl) (pe_ifExp (pt_cmpR op_isN (pv 11) pe_non (nomark _)) (pe_lst pa_nil) (pe_listRg rfl (by rfl) T.z_list (prg_2 (by rfl) T.z_range (pe_ix (ixt (K := K)) (pv 11) pe_int (fun _ _ => rfl)) (pe_op op_add (pe_ix (ixt (K := K)) (pv 11) pe_int (fun _ _ => rfl)) pe_int))))))
      (pss_cons (ps_lock (ps_if (pt_cmpR (neDK (K := K) hr.units) (pv 13) (pe_callB (id := "sorted") (sortedIK (K := K)) (by rfl) T.z_sorted (by decide +kernel) (pa_cons (pe_lc (own := [("_law_here", 8), ("_law_there", 9)]) (g := gTup K 2 (gCons (gName 8) (gCons (gName 9) (gNil)))) rfl sc_l_right.nd (pi_keys (pv 4)) (blkOk_by (own := [("_law_here", 8), ("_law_there", 9)]) (N := N_l_right) (sc := (defScope s_l_right)) (by decide +kernel)) (fun _ _ _ _ _ => (pg_tup rfl (pgs_cons (pg_name (i := 8) sc_l_right.nd rfl (Or.inl rfl)) (pgs_cons (pg_name (i := 9) sc_l_right.nd rfl (Or.inl rfl)) pgs_nil)))) (fun _ _ _ _ _ => (pts_one (pt_cmpR op_eq (pv 8) (pv 10) (nomark _)))) (fun _ _ _ _ _ => (pv 9))) pa_nil)) (nomark _))
      (pss_one (ps_ret pe_bl))
      pss_nil))
      (pss_cons (ps_for PassesOwn.never rfl (pi_zipMK (K := K) (by rfl) T.z_zip (pa_cons (pv 13) (pa_cons (pv 12) pa_nil))) (pg_tup rfl (pgs_cons (pg_name (i := 14) sc_l_right.nd rfl (Or.inl rfl)) (pgs_cons (pg_name (i := 7) sc_l_right.nd rfl (Or.inl rfl)) pgs_nil)))
      (pss_one (ps_if (PW.pt (pw_or (pt_cmpR op_ne (pe_meth (pv 2) T.cl_Ladder T.me_Ladder_size (ok_Ladder_size (K := K) T) (hr.mono (by decide)) B3 B3v pass0 (pa_cons (pv 7) pa_nil)) (pv 10) (nomark _)) (pw_or1 (pt_cmpR op_ne (pe_meth (pv 3) T.cl_Ladder T.me_Ladder_size (ok_Ladder_size (K := K) T) (hr.mono (by decide)) B3 B3v pass0 (pa_cons (pv 7) pa_nil)) (pv 14) (nomark _)))))
      (pss_one (ps_ret pe_bl))
      pss_nil)))
      (pss_one (ps_if (PW.pt (pw_or (pt_cmpR op_ne (pe_callB (id := "len") (lenS (K := K)) (by rfl) T.z_len PySem.boot_len (pa_cons (pv 12) pa_nil)) (pe_callB (id := "len") (lenS (K := K)) (by rfl) T.z_len PySem.boot_len (pa_cons (pv 13) pa_nil)) (nomark _)) (pw_or1 (pt_cmpR op_notBl (pe_call (ok_shows_led (K := K) T) (hr.mono (by decide)) rfl T.g_shows_led T.f_shows_led.kp B7 B7v pass0 (pa_cons (pv 2) (pa_cons (pv 10) (pa_cons (pv 3) (pa_cons (pv 11) (pa_cons (pv 12) pa_nil)))))) pe_bl (nomark _)))))
      (pss_one (ps_ret pe_bl))
      pss_nil))))))))
      (pss_cons (ps_lock (ps_for PassesOwn.never rfl (pi_keys (pv 4)) (pg_tup rfl (pgs_cons (pg_name (i := 8) sc_l_right.nd rfl (Or.inl rfl)) (pgs_cons (pg_name (i := 9) sc_l_right.nd rfl (Or.inl rfl)) pgs_nil)))
      (pss_cons (ps_set (i := 15) sc_l_right.nd rfl (Or.inl rfl) (pe_call (ok_led (K := K) T) (hr.mono (by decide)) rfl T.g_led T.f_led.kp B6 B6v pass0 (pa_cons (pv 3) (pa_cons (pv 9) (pa_cons (pv 2) pa_nil)))))
      (pss_one (ps_if (PW.pt (pw_or (pt_cmpR op_isN (pv 15) pe_non (nomark _)) (pw_or1 (pt_not (pt_chain op_le op_le (pe_ix (ixt (K := K)) (pv 15) pe_int (fun _ _ => rfl)) (pv 8) (pe_ix (ixt (K := K)) (pv 15) pe_int (fun _ _ => rfl)))))))
      (pss_one (ps_ret pe_bl))
      pss_nil)))))
      (pss_one (ps_ret pe_bl)))))), ?_⟩
    have cl_Ladder := T.cl_Ladder
    have na_Ladder_marks := T.na_Ladder_marks
    have na_Ladder_rule := T.na_Ladder_rule
    have na_Ladder_least := T.na_Ladder_least
    have na_Ladder_most := T.na_Ladder_most
    have cl_Measure := T.cl_Measure
    have na_Measure_top := T.na_Measure_top
    have na_Measure_bottom := T.na_Measure_bottom
    
    obtain ⟨J1, eJ1⟩ : ∃ J : L2.St → Hp → Prop, J = fun σ' H' => ∃ (x1 x2 P : Addr) (H2 : Hp), σ' = [some (.ref p), some (.ref q), some (.ref x1), some (.ref x2), some (.ref P), none, none, none, none, none, none, none, none, none, none, none] ∧ Same H H2 ∧ H2 P = none ∧ Same H2 H' ∧ H' P = some (.dT []) ∧ LadAt K (He.ga K "Measure") (He.ga K "Ladder") H2 x1 140 (zR d.ms) d.r (oR d.lo) (oR d.hi) ∧ LadAt K (He.ga K "Measure") (He.ga K "Ladder") H2 x2 140 (zR e.ms) e.r (oR e.lo) (oR e.hi) := ⟨_, rfl⟩
    refine ⟨J1, ?_, ?_⟩
    · walk_at "f"
      all_goals (try refine ⟨d, 140, rfl, hp, gd.ok, gd.sz, by decide, by decide, fun x1 H1 s1 A1 => ?_⟩)
      walk_at "f"
      all_goals (try refine ⟨e, 140, rfl, hq.same s1, ge.ok, ge.sz, by decide, by decide, fun x2 H2 s2 A2 => ?_⟩)
      walk_at "f"
      intro P nP
      walk_at "f"
      subst eJ1
      exact ⟨x1, x2, P, H2, rfl, s1.trans s2, nP, same1 nP, upd_same, A1.same s2, A2⟩
    subst eJ1
    rintro σ H3 ⟨x1, x2, P, H2, rfl, s2, nP, s23, hP, A1, A2⟩
    obtain ⟨J2, eJ2⟩ : ∃ J : L2.St → Hp → Prop, J = fun σ' H' => ∃ (kvs : List (List Key × V)) (v5 v6 v7 v8 v9 : Option V), σ' = [some (.ref p), some (.ref q), some (.ref x1), some (.ref x2), some (.ref P), v5, v6, v7, v8, v9, none, none, none, none, none, none] ∧ Same H2 H' ∧ H' P = some (.dT kvs) ∧ kvs.length ≤ 500 ∧ KeysP kvs fun k l => ∃ x, d.F x = some k ∧ e.F x = some l := ⟨_, rfl⟩
    refine ⟨J2, ?_, ?_⟩
    · have hp3 := (hp.same s2).same s23
      have hq3 := (hq.same s2).same s23
      clear hp hq
      walk_at "f"
      all_goals (try refine ⟨d, e, rfl, hp3, hq3, gd, ge, fun D1 ws E a b H4 s4 hD1 rs pw ha hb al sz l5 => ?_⟩)
      have hP4 := s4 _ _ hP
      have nDP : D1 ≠ P := fun q => by rw [q, hP4] at hD1; cases hD1
      have lw := rs.1
      clear hp3 hq3
      have hDS := SqL.of (K := K) hD1
      refine ⟨D1, rfl, ⟨ws, hDS⟩, ?_⟩
      refine for_it (walk_list (K := K) (a := D1) (xs := ws)) (fun j σ H' => ∃ (kvs : List (List Key × V)) (v5 v6 v7 v8 v9 : Option V), σ = [some (.ref p), some (.ref q), some (.ref x1), some (.ref x2), some (.ref P), v5, v6, v7, v8, v9, none, none, none, none, none, none] ∧ Same H2 H' ∧ (∀ b o, H4 b = some o → b ≠ P → H' b = some o) ∧ H' P = some (.dT kvs) ∧ kvs.length ≤ j ∧ KeysP kvs (fun k l => ∃ (t : Nat) (x : Rat), t < j ∧ (triedR E a b)[t]? = some x ∧ d.F x = some k ∧ e.F x = some l)) ?_ (fun j σ H' _ p => ?_) ?_ ?_
      · exact ⟨[], _, _, _, _, _, rfl, s23.trans s4, fun _ _ h _ => h, hP4, Nat.le_refl _, KeysP.nil.imp fun k l => ⟨fun h => h.elim, fun ⟨t, x, h, _⟩ => absurd h (Nat.not_lt_zero _)⟩⟩
      · obtain ⟨_, _, _, _, _, _, _, _, kp, _⟩ := p
        exact SqL.of (kp _ _ hD1 nDP)
      · rintro j y σ H5 H5' hj ⟨kvs, v5, v6, v7, v8, v9, rfl, s25, kp, hP5, lk, kz⟩ yy
        obtain ⟨rfl, hy⟩ := yy
        obtain ⟨x, hx⟩ : ∃ x, (triedR E a b)[j]? = some x := ⟨_, List.getElem?_eq_getElem (by omega)⟩
        obtain ⟨t, et, ht⟩ := rs.2 j x hx
        rw [et] at hy
        cases hy
        have sx := sz x (List.mem_of_getElem? hx)
        have ht5 := kp _ _ ht (fun q => by rw [q, hP4] at ht; cases ht)
        refine ⟨t, _, rfl, SqT.of ht5, rfl, _, _, rfl, _, _, rfl, rfl, ?_⟩
        show tSeq _ _ _ _ _
        refine ends_gen rfl fun DI eDI => ?_
        walk_at "f"
        refine q_made (k := 600) (den0 x) sx.1 sx.2 (by decide) (by decide) fun m H6 s6 R => ?_
        have A16 := (A1.same (s25.trans s6)).mono (show 140 ≤ 600 by decide)
        have A26 := (A2.same (s25.trans s6)).mono (show 140 ≤ 600 by decide)
        refine ⟨_, rfl, meth_l A16 (by decide +kernel) (by decide +kernel) (by decide +kernel) (by decide +kernel) ⟨_, rfl, x1, m, 600, _, _, _, _, _, rfl, A16, R, by decide, by decide, fun H7 s7 => ?_⟩⟩
        have A27 := A26.same s7
        refine ⟨_, rfl, meth_l A27 (by decide +kernel) (by decide +kernel) (by decide +kernel) (by decide +kernel) ⟨_, rfl, x2, m, 600, _, _, _, _, _, rfl, A27, R.same s7, by decide, by decide, fun H8 s8 => ?_⟩⟩
        have s68 := (s6.trans s7).trans s8
        have hP8 := s68 _ _ hP5
        have ek : sizeQ (zR d.ms) d.r (oR d.lo) (oR d.hi) (x.num, (x.den : Int)) = d.F x := rfl
        have el : sizeQ (zR e.ms) e.r (oR e.lo) (oR e.hi) (x.num, (x.den : Int)) = e.F x := rfl
        rw [ek, el]
        clear A16 A26 A27 R ht5 et ht
        have stay : (∀ k l, ¬ (d.F x = some k ∧ e.F x = some l)) → ∀ v5 v6 v7 v8 v9, ∃ (kvs : List (List Key × V)) (w5 w6 w7 w8 w9 : Option V), [some (.ref p), some (.ref q), some (.ref x1), some (.ref x2), some (.ref P), v5, v6, v7, v8, v9, none, none, none, none, none, none] = [some (.ref p), some (.ref q), some (.ref x1), some (.ref x2), some (.ref P), w5, w6, w7, w8, w9, none, none, none, none, none, none] ∧ Same H2 H8 ∧ (∀ b o, H4 b = some o → b ≠ P → H8 b = some o) ∧ H8 P = some (.dT kvs) ∧ kvs.length ≤ j + 1 ∧ KeysP kvs (fun k l => ∃ (t : Nat) (x : Rat), t < j + 1 ∧ (triedR E a b)[t]? = some x ∧ d.F x = some k ∧ e.F x = some l) := fun no v5 v6 v7 v8 v9 => by
          refine ⟨kvs, v5, v6, v7, v8, v9, rfl, s25.trans s68, fun b o h n => s68 _ _ (kp b o h n), hP8, by omega, kz.imp fun k l => ⟨fun ⟨t, x, h, r⟩ => ⟨t, x, by omega, r⟩, fun ⟨t, x', h, e0, r⟩ => ⟨t, x', ?_, e0, r⟩⟩⟩
          by_cases c : t = j
          · subst c
            rw [hx] at e0
            cases e0
            exact absurd r (no k l)
          · omega
        cases hk : d.F x with
        | none =>
          walk_at "f"
          show DI.nx _ _
          rw [eDI]
          exact stay (fun k l h => by rw [hk] at h; cases h.1) _ _ _ _ _
        | some k0 =>
          cases hl : e.F x with
          | none =>
            walk_at "f"
            show DI.nx _ _
            rw [eDI]
            exact stay (fun k l h => by rw [hl] at h; cases h.2) _ _ _ _ _
          | some l0 =>
            clear stay
            walk_at "f"
            intro t2 nt2
            have ht2 : (upd H8 t2 (.tup [optI (some k0), optI (some l0)])) t2 = some (.tup ((kP k0 l0).map kV)) := upd_same
            have st2 := same1 (u := .tup [optI (some k0), optI (some l0)]) nt2
            have hP9 := st2 _ _ hP8
            have n2P : ∀ b o, H2 b = some o → b ≠ P := fun b o h q => by rw [q, nP] at h; cases h
            refine ⟨P, _, rfl, DPut.t (k := kP k0 l0) hP9 ht2 (szs (by omega)), ?_⟩
            show DI.nx _ _
            rw [eDI]
            refine ⟨putK kvs (kP k0 l0) (V.bl true), _, _, _, _, _, rfl, fun b o h => ?_, fun b o h n => ?_, upd_same, ?_, (kz.put k0 l0 (V.bl true)).imp fun k l => ?_⟩
            · rw [upd_ne (n2P b o h)]
              exact ((s25.trans s68).trans st2) _ _ h
            · rw [upd_ne n]
              exact st2 _ _ (s68 _ _ (kp b o h n))
            · have := length_putK kvs (kP k0 l0) (V.bl true)
              omega
            · constructor
              · rintro (⟨t, x, h, r⟩ | ⟨rfl, rfl⟩)
                · exact ⟨t, x, by omega, r⟩
                · exact ⟨j, x, by omega, hx, hk, hl⟩
              · rintro ⟨t, x', h, e0, r1, r2⟩
                by_cases c : t = j
                · subst c
                  rw [hx] at e0
                  cases e0
                  rw [hk] at r1
                  rw [hl] at r2
                  cases r1
                  cases r2
                  exact .inr ⟨rfl, rfl⟩
                · exact .inl ⟨t, x', by omega, e0, r1, r2⟩
      · rintro σ H5 ⟨kvs, v5, v6, v7, v8, v9, rfl, s25, kp, hP5, lk, kz⟩
        subst eJ2
        refine ⟨kvs, v5, v6, v7, v8, v9, rfl, s25, hP5, by omega, kz.imp fun k l => ?_⟩
        rw [lw]
        exact tried_pairs pw ha hb gd.ok ge.ok al
    subst eJ2
    clear hp hq hP s23
    rintro σ H3 ⟨kvs, v5, v6, v7, v8, v9, rfl, s23, hP, lk, kz⟩
    obtain ⟨J3, eJ3⟩ : ∃ J : L2.St → Hp → Prop, J = fun σ' H' => ∃ (v5 v6 v7 v8 v9 v10 v11 v12 v13 v14 v15 : Option V), σ' = [some (.ref p), some (.ref q), some (.ref x1), some (.ref x2), some (.ref P), v5, v6, v7, v8, v9, v10, v11, v12, v13, v14, v15] ∧ Same H3 H' := ⟨_, rfl⟩
    refine ⟨J3, ?_, ?_⟩
    · have A13 := A1.same s23
      have z1 : (zR d.ms).length = d.ms.length := zR_len
      have z2 : (zR e.ms).length = e.ms.length := zR_len
      have e24 := ge.ok.len1
      have d24 := gd.ok.len1
      obtain ⟨dx, fs, o1, _⟩ := A13.raw (m := "size") (by decide +kernel) (by decide +kernel) (by decide +kernel) (by decide +kernel)
      refine ⟨_, rfl, _, _, dx, fs, rfl, rfl, o1, x1, 140, _, _, _, _, rfl, A13, _, rfl, by omega, ?_⟩
      walk_at "f"
      refine for_range (fun i σ H' => ∃ (v5 v6 v7 v8 v9 v10 v11 v12 v13 v14 v15 : Option V), σ = [some (.ref p), some (.ref q), some (.ref x1), some (.ref x2), some (.ref P), v5, v6, v7, v8, v9, v10, v11, v12, v13, v14, v15] ∧ Same H3 H') ⟨_, _, _, _, _, _, _, _, _, _, _, rfl, Same.refl _⟩ ?_ ?_
      · rintro i σ H5 hi ⟨v5, v6, v7, v8, v9, v10, v11, v12, v13, v14, v15, rfl, s35⟩
        have hi2 : i < d.ms.length := by omega
        have s25 := s23.trans s35
        have A15 := A1.same s25
        have A25 := A2.same s25
        have hP5 := s35 _ _ hP
        clear A13
        show tSeq _ _ _ _ _
        refine ends_gen rfl fun DI eDI => ?_
        refine ⟨_, rfl, _, rfl, _, rfl, x1, x2, 140, zR d.ms, zR e.ms, d.r, e.r, _, _, _, _, i, by show [V.ref x1, V.int (0 + (i : Int)), V.ref x2] = _; rw [Int.zero_add], A15, A25, by omega, by decide, by decide, fun v u H6 s6 lv ls => ?_⟩
        have A16 := A15.same s6
        have A26 := A25.same s6
        refine ⟨_, rfl, _, rfl, _, rfl, x1, x2, 140, zR d.ms, zR e.ms, d.r, e.r, _, _, _, _, i, by show [V.ref x1, V.int (0 + (i : Int)), V.ref x2] = _; rw [Int.zero_add], A16, A26, by omega, by decide, by decide, fun T ys bs H7 s7 hT ly PP => ?_⟩
        have lv7 := lv.same27 s7
        have A17 := A16.same s7
        have A27 := A26.same s7
        have hP7 := (s6.trans s7) _ _ hP5
        have s37 := s35.trans (s6.trans s7)
        clear A15 A25 A16 A26 hP5 s25 s35 lv s6 s7
        obtain ⟨J4, eJ4⟩ : ∃ J : L2.St → Hp → Prop, J = fun σ' H' => ∃ (E : Addr) (zs : List Int), σ' = [some (.ref p), some (.ref q), some (.ref x1), some (.ref x2), some (.ref P), v5, v6, v7, v8, v9, some (.int (0 + (i : Int))), some v, some (.ref T), some (.ref E), v14, v15] ∧ Same H7 H' ∧ H' E = some (.lst (zs.map V.int)) ∧ E ≠ P ∧ (∀ (ns : List Nat) (ns' : List Int), ns.Nodup → ns'.Perm (ns.map fun b : Nat => (b : Int)) → ns'.Pairwise (· ≤ ·) → (∀ b, b ∈ ns ↔ ∃ x, d.F x = some i ∧ e.F x = some b) → ns' = zs) ∧ zs.length ≤ 24 ∧ ys.length = zs.length ∧ (∀ (j : Nat) (y : V), ys[j]? = some y → ∃ (t : Addr) (z : Q2) (c : Nat), y = .ref t ∧ QAt (He.ga K "Measure") H7 t (4 * 140 + 36) z ∧ d.F (toR z) = some i ∧ e.F (toR z) = some c ∧ zs[j]? = some (c : Int)) := ⟨_, rfl⟩
        refine ⟨_, _, rfl, ?_⟩
        refine ⟨J4, ?_, ?_⟩
        · cases u with
          | none =>
            cases lv7
            have ey := pap_none PP ls
            subst ey
            walk_at "f"
            intro E nE
            have nEP : E ≠ P := fun q => by rw [q, hP7] at nE; cases nE
            subst eJ4
            refine ⟨E, [], rfl, same1 nE, upd_same, nEP, fun ns ns' nd pm so mem => thr_none pm fun b h => ?_, Nat.zero_le _, rfl, fun j y h => by simp at h⟩
            obtain ⟨x, f, g⟩ := (mem b).mp h
            exact ls b (sizeQ_lt g) x f g
          | some cl =>
            obtain ⟨c, l⟩ := cl
            obtain ⟨T1, rfl, hT1⟩ := lv7
            obtain ⟨e1, al⟩ := pap_run gd.ok.lq ge.ok.lq PP ls
            have cl := ls.2.2.1
            have rm := run_met gd.ok ge.ok ls
            have sT1 := SqT.of (K := K) hT1
            have l1 := ls.2.1
            walk_at "f"
            all_goals (try refine (And.intro (RgOk.of_le (by omega) (by omega) (by omega) (by omega)) ?_ : _ ∧ _))
            intro E nE
            have nEP : E ≠ P := fun q => by rw [q, hP7] at nE; cases nE
            obtain ⟨zs, ez⟩ : ∃ zs : List Int, zs = (List.range ((l : Int) + 1 - (c : Int)).toNat).map fun j : Nat => (c : Int) + (j : Int) := ⟨_, rfl⟩
            have er : rgV (c : Int) ((l : Int) + 1) = zs.map V.int := by
              rw [ez, List.map_map]
              rfl
            rw [er]
            subst eJ4
            refine ⟨E, zs, rfl, same1 nE, upd_same, nEP, fun ns ns' nd pm so mem => ?_, ?_, ?_, fun j y h => ?_⟩
            · obtain ⟨zz, rfl, e2⟩ := thr_run cl nd pm so (fun b => (mem b).trans (rm b))
              rw [er] at e2
              have h := congrArg (List.map fun v : V => match v with | .int z => z | _ => 0) e2
              rw [List.map_map, List.map_map] at h
              have hid : ((fun v : V => match v with | .int z => z | _ => 0) ∘ V.int) = fun z : Int => z := rfl
              rw [hid, List.map_id', List.map_id'] at h
              exact h.symm
            · rw [ez, List.length_map, List.length_range]
              omega
            · rw [ez, List.length_map, List.length_range]
              omega
            · obtain ⟨t, z, e0, q, f, g⟩ := al j y h
              have hj := (List.getElem?_eq_some_iff.mp h).1
              refine ⟨t, z, c + j, e0, q, f, g, ?_⟩
              rw [ez, List.getElem?_map, List.getElem?_range (by omega)]
              show some ((c : Int) + (j : Int)) = some (((c + j : Nat)) : Int)
              rw [Int.natCast_add]
        subst eJ4
        rintro σ H8 ⟨E, zs, rfl, s78, hE, nEP, eqs, lz, lyz, al⟩
        have hP8 := s78 _ _ hP7
        have A18 := A17.same s78
        have A28 := A27.same s78
        have hT8 := s78 _ _ hT
        have lv8 := lv7.same27 s78
        have PP8 := PapS.same PP s78
        have s38 := s37.trans s78
        refine ⟨P, _, hP8, trivial, fun od => ?_⟩
        obtain ⟨HF, eF⟩ : ∃ HF, HF = upd H8 P (.frz od (.dT kvs)) := ⟨_, rfl⟩
        have hPf : HF P = some (.frz od (.dT kvs)) := by rw [eF]; exact upd_same
        have hEf : HF E = some (.lst (zs.map V.int)) := by rw [eF, upd_ne nEP]; exact hE
        rw [← eF]
        refine ⟨_, rfl, _, rfl, P, od, rfl, .inr ⟨kvs, hPf, fun F nF => ?_⟩⟩
        refine lcz (n := kvs.length) walk_keysT (fun _ _ g s => s _ _ g) (kvs.map fun kv => thrK i kv.1) (List.length_map ..) (szs (by omega)) hPf nF (fun j x H9 H10 o N M hj ho s9 yy hN hM => ?_) (fun H9 s9 hF => ?_)
        · obtain ⟨rfl, k, vv, q, ek, rfl, hq⟩ := yy
          obtain ⟨a', b', rfl⟩ := kz.al k (List.mem_map.mpr ⟨(k, vv), List.mem_of_getElem? ek, rfl⟩)
          rw [List.getElem?_map, ek] at ho
          have ho : thrK i (kP a' b') = o := Option.some.inj ho
          rw [thrK_at] at ho
          change _ = some (HO.tup [V.int (a' : Int), V.int (b' : Int)]) at hq
          refine ⟨q, _, rfl, SqT.of hq, rfl, _, _, rfl, _, _, rfl, rfl, ?_⟩
          refine ⟨rfl, ?_⟩
          walk_at "f"
          show (if _ = true then _ else _)
          by_cases c : (a' : Int) = (i : Int)
          · rw [if_pos c] at ho
            rw [if_pos (by simp [c])]
            exact ⟨_, rfl, hN _ _ ho.symm (Same.refl _)⟩
          · rw [if_neg c] at ho
            rw [if_neg (by simp [c])]
            exact hM _ ho.symm (Same.refl _)
        obtain ⟨ns, en, nd, mem⟩ := thr_ok kz i
        rw [en] at hF
        have lns : ns.length ≤ 24 := nd_short nd fun x hx => by
          obtain ⟨y, _, g⟩ := (mem x).mp hx
          have := LD.F_lt g
          omega
        refine ⟨F, ns.map fun b : Nat => (b : Int), rfl, SqL.of hF, by rw [List.length_map]; omega, fun ns' p' pm so np' => ?_⟩
        have e0 := eqs ns ns' nd pm so mem
        subst e0
        have sFp := s9.trans (same1 (u := .lst (ns'.map V.int)) np')
        have hEp := sFp _ _ hEf
        refine ⟨_, _, dpL hEp, dpL upd_same, shL _, shL _, _, rfl, ?_⟩
        rw [eqv_same]
        show (if (!true) = true then _ else _)
        rw [if_neg (by decide)]
        refine ⟨sFp _ _ hPf, ?_⟩
        have s8L : Same H8 (upd (upd H9 p' (.lst (ns'.map V.int))) P (.dT kvs)) := lock_same hP8 (eF ▸ sFp)
        generalize upd (upd H9 p' (.lst (ns'.map V.int))) P (.dT kvs) = HL at *
        have A1L := A18.same s8L
        have A2L := A28.same s8L
        have hTL := s8L _ _ hT8
        have hEL := s8L _ _ hE
        have lvL := lv8.same27 s8L
        have PPL := PapS.same PP8 s8L
        have s3L := s38.trans s8L
        have s7L := s78.trans s8L
        have sTL := SqT.of (K := K) hTL
        have sEL := SqL.of (K := K) hEL
        clear A17 A27 A18 A28 hT8 lv8 PP8 hF s9 hPf hEf sFp hEp nF np' so pm eqs mem
        refine ⟨_, rfl, _, rfl, E, T, _, _, rfl, sEL, sTL, ?_⟩
        refine for_it (walk_zipM (xs := ns'.map V.int) (ys := ys) (n := ys.length) (by rw [List.length_map]; omega)) (fun j σ H' => ∃ (v7 v14 : Option V), σ = [some (.ref p), some (.ref q), some (.ref x1), some (.ref x2), some (.ref P), v5, v6, v7, v8, v9, some (.int (0 + (i : Int))), some v, some (.ref T), some (.ref E), v14, v15] ∧ Same HL H') ⟨_, _, rfl, Same.refl _⟩ (fun j σ H' _ p => ?_) ?_ ?_
        · obtain ⟨_, _, _, s⟩ := p
          exact ⟨s.seq sEL, s.sqt sTL⟩
        · rintro j y σ H9 H10 hj ⟨v7, v14, rfl, sL9⟩ yy
          obtain ⟨T2, a0, b0, rfl, nT2, rfl, ha0, hb0⟩ := yy
          obtain ⟨t, z, c, rfl, qz, fz, gz, ez⟩ := al j b0 hb0
          have ha0 : (ns'.map V.int)[j]? = some a0 := ha0
          rw [List.getElem?_map, ez] at ha0
          cases ha0
          have sT2 := same1 (u := .tup [V.int (c : Int), V.ref t]) nT2
          have hT2 : (upd H9 T2 (.tup [V.int (c : Int), V.ref t])) T2 = some (.tup [V.int (c : Int), V.ref t]) := upd_same
          have sL10 := sL9.trans sT2
          generalize upd H9 T2 (.tup [V.int (c : Int), V.ref t]) = HB at *
          have q10 := (qz.same (s7L.trans sL10)).mono (show 4 * 140 + 36 ≤ 600 by decide)
          have A1B := (A1L.same sL10).mono (show 140 ≤ 600 by decide)
          have A2B := (A2L.same sL10).mono (show 140 ≤ 600 by decide)
          have zp := qz.pos
          refine ⟨T2, _, rfl, SqT.of hT2, rfl, _, _, rfl, _, _, rfl, rfl, ?_⟩
          refine ⟨_, rfl, meth_l A1B (by decide +kernel) (by decide +kernel) (by decide +kernel) (by decide +kernel) ⟨_, rfl, x1, t, 600, _, _, _, _, _, rfl, A1B, q10, by decide, by decide, fun H11 s11 => ?_⟩⟩
          rw [sizF_eq gd.ok.lq zp, show sizF (zR d.ms) d.r (oR d.lo) (oR d.hi) (toR z) = some i from fz]
          refine ⟨_, rfl, rfl, _, rfl, ?_⟩
          show (if (!decide (V.int (i : Int) = V.int (0 + (i : Int)))) = true then _ else _)
          rw [Int.zero_add, decide_eq_true rfl]
          refine iteF ?_
          have A2C := A2B.same s11
          refine ⟨_, rfl, meth_l A2C (by decide +kernel) (by decide +kernel) (by decide +kernel) (by decide +kernel) ⟨_, rfl, x2, t, 600, _, _, _, _, _, rfl, A2C, q10.same s11, by decide, by decide, fun H12 s12 => ?_⟩⟩
          rw [sizF_eq ge.ok.lq zp, show sizF (zR e.ms) e.r (oR e.lo) (oR e.hi) (toR z) = some c from gz]
          refine ⟨_, rfl, rfl, _, rfl, ?_⟩
          show (if (!decide (V.int (c : Int) = V.int (c : Int))) = true then _ else _)
          rw [decide_eq_true rfl]
          refine iteF ?_
          exact ⟨_, _, rfl, (sL10.trans s11).trans s12⟩
        · rintro σ H9 ⟨v7, v14, rfl, sL9⟩
          have sT9 := sL9.sqt sTL
          have sE9 := sL9.seq sEL
          have hT9 := sL9 _ _ hTL
          have lv9 := lvL.same27 sL9
          have PP9 := PapS.same PPL sL9
          have A19 := A1L.same sL9
          have A29 := A2L.same sL9
          clear sTL sEL hTL hEL
          refine ⟨_, rfl, T, ys, rfl, .inr sT9, _, rfl, E, _, rfl, .inl sE9, rfl, _, rfl, ?_⟩
          rw [decide_eq_true (show V.int ((ys.length : Nat) : Int) = V.int (((ns'.map V.int).length : Nat) : Int) by rw [List.length_map, lyz])]
          refine iteF ?_
          refine ⟨_, rfl, _, rfl, _, rfl, _, rfl, _, rfl, x1, x2, T, v, 140, zR d.ms, zR e.ms, d.r, e.r, _, _, _, _, i, u, ys, bs, by show [V.ref x1, V.int (0 + (i : Int)), V.ref x2, v, V.ref T] = _; rw [Int.zero_add], A19, A29, by omega, by decide, by decide, lv9, ls, hT9, PP9, fun H10 s10 => ?_⟩
          walk_at "f"
          show DI.nx _ _
          rw [eDI]
          exact ⟨_, _, _, _, _, _, _, _, _, _, _, rfl, (s3L.trans sL9).trans s10⟩
      · rintro σ H4 ⟨v5, v6, v7, v8, v9, v10, v11, v12, v13, v14, v15, rfl, s34⟩
        subst eJ3
        exact ⟨v5, v6, v7, v8, v9, v10, v11, v12, v13, v14, v15, rfl, s34⟩
    subst eJ3
    rintro σ H4 ⟨v5, v6, v7, v8, v9, v10, v11, v12, v13, v14, v15, rfl, s34⟩
    have hP4 := s34 _ _ hP
    have s24 := s23.trans s34
    refine ⟨P, _, hP4, trivial, fun od => ?_⟩
    obtain ⟨HF, eF⟩ : ∃ HF, HF = upd H4 P (.frz od (.dT kvs)) := ⟨_, rfl⟩
    have hPf : HF P = some (.frz od (.dT kvs)) := by rw [eF]; exact upd_same
    have s2F : Same H2 HF := eF ▸ new_same nP s24
    rw [← eF]
    clear hP
    refine ⟨_, rfl, P, od, rfl, .inr ⟨kvs, hPf, ?_⟩⟩
    refine for_it walk_keysT (fun j σ H' => ∃ (v8 v9 v15 : Option V), σ = [some (.ref p), some (.ref q), some (.ref x1), some (.ref x2), some (.ref P), v5, v6, v7, v8, v9, v10, v11, v12, v13, v14, v15] ∧ Same HF H') ⟨_, _, _, rfl, Same.refl _⟩ (fun j σ H' _ p => ?_) ?_ ?_
    · obtain ⟨_, _, _, _, s⟩ := p
      exact s _ _ hPf
    · rintro j y σ H5 H6 hj ⟨v8, v9, v15, rfl, sF5⟩ yy
      obtain ⟨rfl, k, vv, q, ek, rfl, hq⟩ := yy
      obtain ⟨k0, l0, rfl⟩ := kz.al k (List.mem_map.mpr ⟨(k, vv), List.mem_of_getElem? ek, rfl⟩)
      obtain ⟨x, f, g⟩ := (kz.iff k0 l0).mp (List.mem_map.mpr ⟨(_, vv), List.mem_of_getElem? ek, rfl⟩)
      change _ = some (HO.tup [V.int (k0 : Int), V.int (l0 : Int)]) at hq
      have s26 := s2F.trans sF5
      have A15 := A1.same s26
      have A25 := A2.same s26
      have z2 : (zR e.ms).length = e.ms.length := zR_len
      have ll := LD.F_lt g
      refine ⟨q, _, rfl, SqT.of hq, rfl, _, _, rfl, _, _, rfl, rfl, ?_⟩
      refine ⟨_, rfl, _, rfl, _, rfl, x2, x1, 140, zR e.ms, zR d.ms, e.r, d.r, _, _, _, _, l0, rfl, A25, A15, by omega, by decide, by decide, fun v u H7 s7 lv ls => ?_⟩
      cases u with
      | none => exact (ls k0 (sizeQ_lt f) x g f).elim
      | some cl =>
        obtain ⟨c, l⟩ := cl
        obtain ⟨T1, rfl, hT1⟩ := lv
        have bd := ls.2.2.2.2.2 k0 x g f
        have sT1 := SqT.of (K := K) hT1
        walk_at "f"
        exact ⟨_, _, _, rfl, sF5.trans s7⟩
    · rintro σ H5 ⟨v8, v9, v15, rfl, sF5⟩
      refine ⟨sF5 _ _ hPf, ?_⟩
      have s45 : Same H4 (upd H5 P (.dT kvs)) := lock_same hP4 (eF ▸ sF5)
      walk_at "f"
      exact kk _ ((s2.trans s24).trans s45)
theorem ok_law {P : Program} {w : World} {K : PySem.W.Frag} {mg : Str → Option Value} {base : Heap} {φ : Fds} (T : Txt K mg φ) : FnOk P w K mg base CX0 12 (He.fAd K ("law", none)) φ.law p_law (sp_law K) := by
  obtain ⟨_, B0v, B0⟩ := b_l_begin_1 T
  obtain ⟨_, B1v, B1⟩ := b_l_ladders_3 T
  obtain ⟨_, B2v, B2⟩ := b_l_right_2 T
  refine T.f_law.ok sc_law (fun vs H Q E h => ?_) (fun cdv A outer s H vs Q E hr h => ?_)
  · obtain ⟨a, ns, rfl, hS, hn, kk⟩ := h; rfl
  · obtain ⟨a, ns, rfl, hS, hn, kk⟩ := h
    refine ⟨_, PSs.nox (pss_cons (ps_set (i := 1) sc_law.nd rfl (Or.inl rfl) (pe_call (ok_l_begin (K := K) T) (hr.mono (by decide)) rfl T.g_l_begin T.f_l_begin.kp B0 B0v pass0 (pa_cons (pv 0) pa_nil)))
      (pss_cons (ps_for PassesOwn.never rfl (pi_range1 rfl T.z_range (pa_cons (pe_op op_add pe_int (pe_callB (id := "min") (call_min2 rfl) (by rfl) T.z_min (by decide +kernel) (pa_cons (pe_callB (id := "len") (lenS (K := K)) (by rfl) T.z_len PySem.boot_len (pa_cons (pv 0) pa_nil)) (pa_cons pe_int pa_nil)))) pa_nil)) (pg_name (i := 2) sc_law.nd rfl (Or.inl rfl))
      (pss_cons (ps_asg (pe_call (ok_l_ladders (K := K) T) (hr.mono (by decide)) rfl T.g_l_ladders T.f_l_ladders.kp B1 B1v pass0 (pa_cons (pv 1) (pa_cons pe_int (pa_cons pe_int pa_nil)))) (pg_lst rfl (pgs_cons (pg_name (i := 3) sc_law.nd rfl (Or.inl rfl)) (pgs_cons (pg_name (i := 4) sc_law.nd rfl (Or.inl rfl)) pgs_nil))))
      (pss_one (ps_if (pt_not (pt_val (pe_call (ok_l_right (K := K) T) (hr.mono (by decide)) rfl T.g_l_right T.f_l_right.kp B2 B2v pass0 (pa_cons (pv 3) (pa_cons (pv 4) pa_nil)))))
      (pss_one (ps_ret pe_bl))
      pss_nil))))
      (pss_one (ps_ret pe_bl)))), ?_⟩
    walk_at "f"
    all_goals (try refine ⟨ns, rfl, hS, hn, fun h g H1 s1 nh ng pt => ?_⟩)
    have hS1 := s1.seq hS
    walk_at "f"
    refine for_range (fun i σ H' => (∃ v2 v3 v4, σ = [some (.ref a), some (.ref h), v2, v3, v4]) ∧ PotAt H' h g (200 * i)) ⟨⟨_, _, _, rfl⟩, pt⟩ ?_ ?_
    · rintro i σ H2 hi ⟨⟨v2, v3, v4, rfl⟩, pt2⟩
      have hi3 : i < 4 := by
        refine Nat.lt_of_lt_of_le hi ?_
        split <;> omega
      clear hi hS hS1 nh ng pt s1
      walk_at "f"
      refine ⟨by decide, by decide, by decide, fun D ys H5 _ k5 pt5 hD ly al => ?_⟩
      obtain ⟨y0, y1, rfl⟩ : ∃ y0 y1, ys = [y0, y1] := by
        match ys, ly with
        | [y0, y1], _ => exact ⟨y0, y1, rfl⟩
      obtain ⟨p, d, rfl, hp, gd⟩ := al y0 (by simp)
      obtain ⟨q, e, rfl, hq, ge⟩ := al y1 (by simp)
      walk_at "f"
      all_goals (try refine ⟨d, e, rfl, hp, hq, gd, ge, fun H6 s6 => ?_⟩)
      walk_at "f"
      exact ⟨⟨_, _, _, rfl⟩, (pt5.same s6).mono (show 200 * i + 1 + 40 * 2 ≤ 200 * (i + 1) by omega)⟩
    · rintro σ H2 ⟨⟨v2, v3, v4, rfl⟩, pt2⟩
      walk_at "f"
      exact kk _
end K29

open PySem PySem.W PySem.Calls PyProof.Rows
set_option maxRecDepth 100000 in
set_option maxHeartbeats 0 in
theorem PySem.Challenge.cw_sizeladders_k29_whole_a_measure_in_commo_holds : PySem.Challenge.rw_sizeladders_k29_whole_a_measure_in_commo.Holds := by
  exact K29.pre fun T => K29.ok_law T
