import PyProof.Rows.All
import Wide.All
import OpenK.AllK
import Wide.FinOn
import KE.KStateDown
import HandS.ForMost
import HandS.More
import HandS.WordsExc
import HandS.Defaults
import HandS.MakeKw
import HandS.MakeKwOnly
import HandS.Wide
import HandS.IsInst
import HandS.Flow
import HandS.Style
import HandS.OwnEq
import HandS.Head0
import HandS.Head1
import HandS.Head2
import HandS.HeadEnd
import HandS.HeadHook1
import HandS.HeadHook2
import HandS.ExcIs
import HandS.ExcOwn
import HandS.TryOnly
import HandS.ExcBuiltin
import HandS.FStr
import HandS.Text
import HandS.Codes
import HandS.StrMore
import HandS.Walk
import HandS.Zip
import HandS.Conv
import HandS.Iter
import KE.GoesEnum
import KE.DataMinMax
import HandS.SortKw
import HandS.TupAny
import HandS.FStrTup
import HandS.Deep
import HandS.SetFor
import HandS.Strs
import PyProof.ReprHeadsTuple
import PyProof.ReprNest
import KE.KFmtOwn
import HandS.RevRange
import HandS.ExcInit
import HandS.Nested
import KE.KExcSuper
import HandS.ExcField
import HandS.ExcValue
import PyProof.RowDictHeap
import HandS.TupLe
import KE.KSortKeyAny
import PySem.Challenge.RW_sizeladders_k73_whole_stock_and_pairs
set_option Elab.async false
set_option linter.all false
set_option maxRecDepth 100000
set_option maxHeartbeats 4000000
namespace My
open PySem PySem.Spec PyProof.Rows L2
/-! ### operators of great numbers -/
section
variable {X : Cx}
theorem op_fd : OpR X (binaryOp .FloorDiv) (rI (fun _ j => j ≠ 0 ∧ j.natAbs.log2 < 9000) fun i j => .int (i.fdiv j)) :=
  opI fun _ _ _ _ _ _ _ hc q => floordiv_int hc.1 q (.inl (PyProof.noPylong_of_log2 hc.2))
theorem op_mulA : OpR X (binaryOp .Mult) (rI (fun i j => CMul i j ∨ CMulW i j) fun i j => .int (i * j)) :=
  opI fun _ _ _ _ _ _ _ hc q => mul_int q (hc.elim (fun h => h.ok) (fun h => h.ok))
/-! ### cuts: what is wanted behind a piece, said by a word of one's own -/
def tCutS (t : TS) : TS := fun D σ H => ∃ J : L2.St → Hp → Prop, t { D with nx := J } σ H ∧ ∀ σ' H', J σ' H' → D.nx σ' H'
theorem ps_cut {st : Stmt} {t : TS} (h : PS X st t) : PS X st (tCutS t) := by
  refine ⟨fun pins s σ H D I hw => ?_⟩
  obtain ⟨J, h1, h2⟩ := hw
  refine thn (h.run pins s σ H _ I h1) fun f s' q => ?_
  cases f with
  | next => obtain ⟨σ', H', I', q'⟩ := q; exact ⟨σ', H', I', h2 _ _ q'⟩
  | brk => exact q
  | cont => exact q
  | ret u => exact q
/-! ### calls by keywords -/
variable {CX : CXT} {k n : Nat} {f C : Addr} {fd : FuncData} {ps ks : List Str} {sp : Sp} {E : XK} {x m : Str} {p pos apos : Pos} {o e : Expr} {es : List Expr} {kws : List Keyword} {ta : TE} {t tk : TA} {g : List Value → List Value → List Value} {gV : List V → List V → List V}
end
/-! ### heaps -/
theorem up1 {H : Hp} {p x : Addr} {o u : HO} (hp : H p = none) (hx : H x = some o) : upd H p u x = some o := by
  rw [upd_ne (ne_of_none hx hp)]; exact hx
theorem same1 {H : Hp} {p : Addr} {u : HO} (hp : H p = none) : Same H (upd H p u) := fun _ _ e => up1 hp e
theorem _root_.L2.Same.sqt {K : PySem.W.Frag} {H H' : Hp} {a : Addr} {xs : List V} (e : Same H H') (h : SqT K H a xs) : SqT K H' a xs := by
  rcases h with (h | ⟨o, h⟩) | h
  · exact .inl (.inl (e _ _ h))
  · exact .inl (.inr ⟨o, e _ _ h⟩)
  · exact .inr h
/-- all stays but what stands at h -/
def Kp (h : Addr) (H H' : Hp) : Prop := ∀ b o, H b = some o → b ≠ h → H' b = some o
theorem Kp.refl (h : Addr) (H : Hp) : Kp h H H := fun _ _ e _ => e
theorem Kp.trans {h : Addr} {H H1 H2 : Hp} (a : Kp h H H1) (b : Kp h H1 H2) : Kp h H H2 := fun c o e n => b c o (a c o e n) n
theorem Kp.same {h : Addr} {H H1 : Hp} (a : Same H H1) : Kp h H H1 := fun c o e _ => a c o e
theorem Kp.up {h p : Addr} {H H1 : Hp} {u : HO} (a : Kp h H H1) (hp : H1 p = none) : Kp h H (upd H1 p u) := fun c o e n => up1 hp (a c o e n)
theorem Kp.set {h : Addr} {H H1 : Hp} {u : HO} (a : Kp h H H1) : Kp h H (upd H1 h u) := fun c o e n => by
  rw [upd_ne n]; exact a c o e n
/-- a list other than that at h, the script among them -/
theorem Kp.seq {K : PySem.W.Frag} {h a : Addr} {H H1 : Hp} {xs : List V} (k : Kp h H H1) (n : a ≠ h) (s : SqL K H a xs) : SqL K H1 a xs := by
  rcases s with (s | ⟨o, s⟩) | s
  · exact .inl (.inl (k _ _ s n))
  · exact .inl (.inr ⟨o, k _ _ s n⟩)
  · exact .inr s
/-! ### the hand: a list of three ints, drawn from -/
def HandAt (H : Hp) (h : Addr) (n : Nat) : Prop := ∃ a b c : Int, H h = some (.lst [.int a, .int b, .int c]) ∧ 0 ≤ a ∧ 0 ≤ b ∧ b < 4611686018427387904 ∧ 0 ≤ c ∧ c ≤ n
theorem HandAt.mono {H : Hp} {h : Addr} {n m : Nat} (a : HandAt H h n) (l : n ≤ m) : HandAt H h m := by
  obtain ⟨x, y, z, h1, h2, h3, h4, h5, h6⟩ := a
  exact ⟨x, y, z, h1, h2, h3, h4, h5, by omega⟩
theorem HandAt.same {H H' : Hp} {h : Addr} {n : Nat} (a : HandAt H h n) (s : Same H H') : HandAt H' h n := by
  obtain ⟨x, y, z, h1, h2⟩ := a
  exact ⟨x, y, z, s _ _ h1, h2⟩
theorem HandAt.up {H : Hp} {h p : Addr} {u : HO} {n : Nat} (a : HandAt H h n) (hp : H p = none) : HandAt (upd H p u) h n := a.same (same1 hp)
theorem HandAt.ne {H : Hp} {h p : Addr} {n : Nat} (a : HandAt H h n) (hp : H p = none) : p ≠ h := by
  obtain ⟨x, y, z, h1, _⟩ := a
  exact (ne_of_none h1 hp).symm
def notHand : HO → Bool
  | .lst _ => false
  | _ => true
theorem HandAt.apart {H : Hp} {h p : Addr} {o : HO} {n : Nat} (a : HandAt H h n) (hp : H p = some o) (ho : notHand o = true) : p ≠ h := by
  obtain ⟨x, y, z, h1, _⟩ := a
  exact ne_of hp h1 (by intro e; rw [e] at ho; cases ho)
def sp_take : Sp := fun vs H Q _ => ∃ (h : Addr) (n : Nat) (m : Int), vs = [.ref h, .int m] ∧ HandAt H h n ∧ n < 1000000 ∧ 0 < m ∧ m.natAbs.log2 < 9000 ∧
  ∀ (d : Int) (H' : Hp), 0 ≤ d → d < m → HandAt H' h (n + 1) → Kp h H H' → Q (.int d) H'
def sp_hand (K : PySem.W.Frag) : Sp := fun vs H Q _ => ∃ (a : Addr) (ns : List Int) (k : Nat), vs = [.ref a, .int k] ∧ SqL K H a (ns.map V.int) ∧ k ≤ 1000 ∧
  ∀ (p : Addr) (H' : Hp), H p = none → Same H H' → HandAt H' p 0 → Q (.ref p) H'
/-! ### numbers -/
abbrev Sz (k : Nat) (z : Int) : Prop := z.natAbs < 2 ^ k
theorem Sz.mono {a b : Nat} {z : Int} (h : Sz a z) (l : a ≤ b) : Sz b z := Nat.lt_of_lt_of_le h (Nat.pow_le_pow_right (by decide) l)
theorem Sz.mul {a b : Nat} {x y : Int} (h : Sz a x) (g : Sz b y) : Sz (a + b) (x * y) := wide_lt h g
theorem Sz.neg {a : Nat} {x : Int} (h : Sz a x) : Sz a (-x) := by
  show (-x).natAbs < 2 ^ a
  rw [Int.natAbs_neg]; exact h
theorem Sz.add {a : Nat} {x y : Int} (h : Sz a x) (g : Sz a y) : Sz (a + 1) (x + y) := by
  show (x + y).natAbs < 2 ^ (a + 1)
  have h1 : x.natAbs < 2 ^ a := h
  have h2 : y.natAbs < 2 ^ a := g
  rw [Nat.pow_succ]; omega
theorem Sz.sub {a : Nat} {x y : Int} (h : Sz a x) (g : Sz a y) : Sz (a + 1) (x - y) := by
  show (x - y).natAbs < 2 ^ (a + 1)
  have h1 : x.natAbs < 2 ^ a := h
  have h2 : y.natAbs < 2 ^ a := g
  rw [Nat.pow_succ]; omega
theorem Sz.le {a : Nat} {x y : Int} (h : Sz a x) (l : y.natAbs ≤ x.natAbs) : Sz a y := Nat.lt_of_le_of_lt l h
theorem Sz.cmul {a b : Nat} {x y : Int} (h : Sz a x) (g : Sz b y) (h0 : 0 < a) (h1 : 0 < b) (l : a + b ≤ 1000000) : CMul x y ∨ CMulW x y := .inr (wide_mul h g h0 h1 l)
theorem Sz.log {a : Nat} {x : Int} (h : Sz a x) (h0 : 0 < a) (l : a ≤ 9000) : x.natAbs.log2 < 9000 := Nat.lt_of_lt_of_le (PySem.Flt.log2_lt_of h0 h) l
theorem dI {i j : Int} : decide (V.int i = V.int j) = decide (i = j) := by
  rw [dec_int, Bool.beq_eq_decide_eq]
/-- t / u is a / b in lowest terms -/
structure Fr (t u a b : Int) : Prop where
  pos : 0 < u
  eq : t * b = a * u
  co : Int.gcd t u = 1
  lt : t.natAbs ≤ a.natAbs
  lu : u.natAbs ≤ b.natAbs
def sgn (b : Int) : Int := if 0 < b then 1 else -1
theorem gcd_step {g s : Int} (hs : 0 < s) (hg : 0 ≤ g) : Int.gcd s (g % s) = Int.gcd g s := by
  obtain ⟨m, rfl⟩ := Int.eq_ofNat_of_zero_le hg
  obtain ⟨n, rfl⟩ := Int.eq_ofNat_of_zero_le (Int.le_of_lt hs)
  show Nat.gcd n (m % n) = Nat.gcd m n
  rw [Nat.gcd_comm m n, Nat.gcd_comm n (m % n), ← Nat.gcd_rec]
theorem fr_mk {a b c : Int} (hb : b ≠ 0) (hc : c = sgn b * (Int.gcd a b : Int)) : c ≠ 0 ∧ c.natAbs ≤ b.natAbs ∧ Fr (a.fdiv c) (b.fdiv c) a b := by
  have g0 : 0 < Int.gcd a b := Int.gcd_pos_of_ne_zero_right a hb
  have gd : (Int.gcd a b : Int) ∣ a := Int.gcd_dvd_left ..
  have gb : (Int.gcd a b : Int) ∣ b := Int.gcd_dvd_right ..
  have hs : sgn b = 1 ∨ sgn b = -1 := by unfold sgn; split <;> simp
  have cd : c ∣ a := by
    rcases hs with e | e <;> rw [hc, e]
    · rw [Int.one_mul]; exact gd
    · rw [Int.neg_one_mul]; exact (Int.neg_dvd).mpr gd
  have cb : c ∣ b := by
    rcases hs with e | e <;> rw [hc, e]
    · rw [Int.one_mul]; exact gb
    · rw [Int.neg_one_mul]; exact (Int.neg_dvd).mpr gb
  have cn : c.natAbs = Int.gcd a b := by
    rcases hs with e | e <;> rw [hc, e]
    · rw [Int.one_mul, Int.natAbs_natCast]
    · rw [Int.neg_one_mul, Int.natAbs_neg, Int.natAbs_natCast]
  have c0 : c ≠ 0 := by
    intro e; rw [e] at cn; simp at cn; omega
  have ta : a.fdiv c * c = a := Int.fdiv_mul_cancel cd
  have tb : b.fdiv c * c = b := Int.fdiv_mul_cancel cb
  have c1 : 1 ≤ c.natAbs := by omega
  have na : a.natAbs = (a.fdiv c).natAbs * c.natAbs := by rw [← Int.natAbs_mul, ta]
  have nb : b.natAbs = (b.fdiv c).natAbs * c.natAbs := by rw [← Int.natAbs_mul, tb]
  refine ⟨c0, ?_, ?_, ?_, ?_, ?_, ?_⟩
  · rw [cn]
    exact Nat.le_of_dvd (by omega) (Int.gcd_dvd_natAbs_right a b)
  · rcases Int.lt_trichotomy b 0 with h | h | h
    · have e : sgn b = -1 := by unfold sgn; rw [if_neg (by omega)]
      have cneg : c < 0 := by rw [hc, e]; omega
      rcases Int.lt_or_le 0 (b.fdiv c) with z | z
      · exact z
      · have : 0 ≤ b.fdiv c * c := Int.mul_nonneg_of_nonpos_of_nonpos z (by omega)
        omega
    · exact absurd h hb
    · have e : sgn b = 1 := by unfold sgn; rw [if_pos h]
      have cpos : 0 < c := by rw [hc, e]; omega
      rcases Int.lt_or_le 0 (b.fdiv c) with z | z
      · exact z
      · have : b.fdiv c * c ≤ 0 := Int.mul_nonpos_of_nonpos_of_nonneg z (by omega)
        omega
  · have : a.fdiv c * (b.fdiv c * c) = a.fdiv c * c * b.fdiv c := by
      rw [Int.mul_assoc, Int.mul_comm c]
    rw [tb, ta] at this
    exact this
  · have e : Int.gcd a b = Int.gcd (a.fdiv c) (b.fdiv c) * c.natAbs := by
      have := Int.gcd_mul_right (a.fdiv c) c (b.fdiv c)
      rw [ta, tb] at this
      exact this
    rw [← cn] at e
    have e2 : 1 * c.natAbs = Int.gcd (a.fdiv c) (b.fdiv c) * c.natAbs := by rw [Nat.one_mul]; exact e
    exact (Nat.eq_of_mul_eq_mul_right (by omega) e2).symm
  · rw [na]; exact Nat.le_mul_of_pos_right _ (by omega)
  · rw [nb]; exact Nat.le_mul_of_pos_right _ (by omega)
/-! ### a Measure -/
def mf (t u : Int) : List (Str × V) := [("top", .int t), ("bottom", .int u)]
theorem ne_tb : ¬ (("top" : Str) = "bottom") := by decide +kernel
theorem mf_put (t u : Int) : putF "bottom" (.int u) (putF "top" (.int t) []) = mf t u := by
  show (if ("top" : Str) = "bottom" then [(("top" : Str), V.int u)] else (("top" : Str), V.int t) :: putF "bottom" (V.int u) []) = mf t u
  rw [if_neg ne_tb] <;> rfl
theorem mf_top (t u : Int) : (mf t u).lookup ("top" : Str) = some (.int t) := by
  rw [← mf_put, lookup_putF, if_neg ne_tb, lookup_putF, if_pos rfl]
theorem mf_bottom (t u : Int) : (mf t u).lookup ("bottom" : Str) = some (.int u) := by
  rw [← mf_put, lookup_putF, if_pos rfl]
theorem mf_no (t u : Int) {m : Str} (h1 : ¬ m = "top") (h2 : ¬ m = "bottom") : (mf t u).lookup m = none := by
  rw [← mf_put, lookup_putF, if_neg h2, lookup_putF, if_neg h1] <;> rfl
def MAt (C : Addr) (H : Hp) (p : Addr) (t u : Int) : Prop := ∃ dx, H p = some (.ins C dx (mf t u))
theorem MAt.same {C p : Addr} {H H' : Hp} {t u : Int} (m : MAt C H p t u) (s : Same H H') : MAt C H' p t u := by
  obtain ⟨dx, h⟩ := m; exact ⟨dx, s _ _ h⟩
theorem MAt.kp {C p h : Addr} {H H' : Hp} {t u : Int} {n : Nat} (m : MAt C H p t u) (hh : HandAt H h n) (s : Kp h H H') : MAt C H' p t u := by
  obtain ⟨dx, e⟩ := m; exact ⟨dx, s _ _ e (hh.apart e rfl)⟩
def sp_minit (C : Addr) : Sp := fun vs H Q _ => ∃ (p dx : Addr) (a b : Int), vs = [.ref p, .int a, .int b] ∧ H p = some (.ins C dx []) ∧ b ≠ 0 ∧ b.natAbs.log2 < 9000 ∧
  ∀ (t u : Int) (H' : Hp), Fr t u a b → H' p = some (.ins C dx (mf t u)) → (∀ c o, H c = some o → c ≠ p → H' c = some o) → Q .non H'
theorem made {C : Addr} {H : Hp} {Q : VK} {E : XK} {a b : Int} (hb : b ≠ 0) (hl : b.natAbs.log2 < 9000) (k : ∀ (p : Addr) (t u : Int) (H' : Hp), H p = none → Same H H' → MAt C H' p t u → Fr t u a b → Q (.ref p) H') :
    ∀ x dx, H x = none → H dx = none → dx ≠ x → sp_minit C [.ref x, .int a, .int b] (upd (upd H dx (.own x)) x (.ins C dx [])) (fun v H2 => v = .non ∧ Q (.ref x) H2) E := by
  intro x dx nx nd ne
  refine ⟨x, dx, a, b, rfl, upd_same, hb, hl, fun t u H' fr hx kp => ⟨rfl, ?_⟩⟩
  refine k x t u H' nx (fun c o e => ?_) ⟨dx, hx⟩ fr
  have n1 : c ≠ x := ne_of_none e nx
  refine kp c o ?_ n1
  rw [upd_ne n1]
  exact up1 nd e
def sp_whole : Sp := fun vs H Q _ => ∃ n : Int, vs = [.int n] ∧ Q (.bl true) H
def sp_common : Sp := fun vs H Q _ => ∃ a b : Int, vs = [.int a, .int b] ∧ Q (.int (Int.gcd a b : Int)) H
def lessA (t u t' u' : Int) (al : Bool) : Bool := decide (t * u' < t' * u) || (al && decide (t * u' = t' * u))
def sp_below (C : Addr) : Sp := fun vs H Q _ => ∃ (p q : Addr) (t u t' u' : Int) (al : Bool), vs = [.ref p, .ref q, .bl al] ∧ MAt C H p t u ∧ MAt C H q t' u' ∧ Sz 9000 t ∧ Sz 9000 u ∧ Sz 9000 t' ∧ Sz 9000 u' ∧ Q (.bl (lessA t u t' u' al)) H
theorem Kp.get {h q : Addr} {H H' : Hp} {o : HO} {n : Nat} (k : Kp h H H') (hh : HandAt H h n) (e : H q = some o) (no : notHand o = true) : H' q = some o := k _ _ e (hh.apart e no)
theorem _root_.L2.Same.get {q : Addr} {H H' : Hp} {o : HO} (k : Same H H') (e : H q = some o) : H' q = some o := k _ _ e
theorem _root_.L2.Same.ofKp {h : Addr} {H H1 H2 : Hp} (s : Same H H1) (nh : H h = none) (k : Kp h H1 H2) : Same H H2 := fun c o e => k c o (s c o e) (ne_of_none e nh)
theorem _root_.L2.Same.up {p : Addr} {H H1 : Hp} {u : HO} (s : Same H H1) (hp : H1 p = none) : Same H (upd H1 p u) := s.trans (same1 hp)
theorem sgn_cases (b : Int) : sgn b = 1 ∨ sgn b = -1 := by unfold sgn; split <;> simp
/-! ### rules with the written part by its name (for the blocks of comprehensions) -/
section
variable {X : Cx} {K : PySem.W.Frag}
theorem ixl (hK : X.K = K := by rfl) : IxR X (rIxL K) := by subst hK; exact ix_list
theorem ixt (hK : X.K = K := by rfl) : IxR X (rIxT K) := by subst hK; exact ix_tup
theorem isi (hK : X.K = K := by rfl) : CallR X (.builtin "isinstance") (rIsi K) := by subst hK; exact call_isi
def rLenS (K : PySem.W.Frag) : List V → Hp → VK → Prop := fun xs H Q => ∃ p ys, xs = [.ref p] ∧ (SqL K H p ys ∨ SqT K H p ys) ∧ Q (.int (ys.length : Int)) H
theorem lenS (hK : X.K = K := by rfl) : CallR X (.builtin "len") (rLenS K) := by subst hK; exact call_len_seq
theorem allK (hK : X.K = K := by rfl) (hc : X.calm = true := by rfl) : CallR X (.builtin "all") (rAll K) := by subst hK; exact cr_all hc
theorem anyK (hK : X.K = K := by rfl) (hc : X.calm = true := by rfl) : CallR X (.builtin "any") (rAny K) := by subst hK; exact cr_any hc
theorem eqDK (hu : X.A.units + 64 < cLine) (hK : X.K = K := by rfl) : OpR X (compareOp .Eq) (rEqD K) := by subst hK; exact op_eqD hu
theorem neDK (hu : X.A.units + 64 < cLine) (hK : X.K = K := by rfl) : OpR X (compareOp .NotEq) (rNeD K) := by subst hK; exact op_neD hu
theorem inK (hK : X.K = K := by rfl) : OpR X (compareOp .In) (rIn K false) := by subst hK; exact op_in_seq
theorem notInK (hK : X.K = K := by rfl) : OpR X (compareOp .NotIn) (rIn K true) := by subst hK; exact op_notIn_seq
theorem slL (hK : X.K = K := by rfl) : SlR X (rSlL K) := by subst hK; exact sl_list
theorem fldK {e : Expr} {f : Str} {pos : Pos} {ta : TE} (he : PE X e ta) (hb : attributeBase e f X.env (eval e X.env) = eval e X.env) (hK : X.K = K := by rfl) : PE X (.Attribute e f pos) (tFld K ta f) := by subst hK; exact pe_fld he hb
end
theorem yesT {te : TE} {σ : L2.St} {H : Hp} {N : VK} {M : Hp → Prop} (h : te σ H N) : tYes σ H (fun b H3 => if b = true then te σ H3 N else M H3) := by
  show (if true = true then te σ H N else M H)
  rw [if_pos rfl]; exact h
theorem made_same {H H' : Hp} {x dx C : Addr} (nx : H x = none) (nd : H dx = none) (kp : ∀ c o, (upd (upd H dx (.own x)) x (.ins C dx [])) c = some o → c ≠ x → H' c = some o) : Same H H' := fun c o e => by
  have n1 : c ≠ x := ne_of_none e nx
  refine kp c o ?_ n1
  rw [upd_ne n1]
  exact up1 nd e
/-! ### the head's facts, and more of them -/
def obsM (n : Nat) (fa : List He.Fa) (fn : List He.DefD) (ex : List (PySem.W.Frag → Bool)) (g : Addr → Option Obj) : He.AlD × Bool := (He.obsDG n fa fn g, ex.all fun f => f (He.frG g (He.asD g n)))
def hookM (n : Nat) (fa : List He.Fa) (fn : List He.DefD) (ex : List (PySem.W.Frag → Bool)) : PySem.W.Hook where
  α := He.AlD × Bool
  obs := fun s => obsM n fa fn ex s.heap.get?
  val := fun _ => (He.valD fn, true)
  says := fun _ h => ∃ K : PySem.W.Frag, K.In h ∧ He.SaysD fa fn K ∧ (ex.all fun f => f K) = true
  of := fun _ _ e => ⟨_, He.frG_in, congrArg (fun z : He.AlD × Bool => z.1) e, congrArg (fun z : He.AlD × Bool => z.2) e⟩
  keeps := fun _ _ _ ⟨K, hK, c⟩ k => ⟨K, PySem.W.Frag.In.keeps hK k, c⟩
theorem obsM_eq {n : Nat} {fa : List He.Fa} {fn : List He.DefD} {ex : List (PySem.W.Frag → Bool)} {g : Addr → Option Obj} {s : Shared} (h : ∀ a, g a = s.heap.get? a) : obsM n fa fn ex g = (hookM n fa fn ex).obs s := by
  have e : g = s.heap.get? := funext h
  rw [e] <;> rfl
theorem ex_at {ex : List (PySem.W.Frag → Bool)} {K : PySem.W.Frag} (c : (ex.all fun f => f K) = true) (i : Nat) {f : PySem.W.Frag → Bool} (h : ex[i]? = some f) : f K = true := List.all_eq_true.mp c f (List.mem_of_getElem? h)
/-- what isinstance asks of an own class -/
structure IsC (K : PySem.W.Frag) (C : Addr) : Prop where
  ha : PySem.W.findIn K (.ref C) "__class__" = some (some (.builtin "object.__class__"))
  hn : PySem.W.specialIn K (.builtin "object.__class__") "__get__" = some (some (.builtin "getset_descriptor.__get__"))
  htk : PySem.W.takesIn K (.builtin "object.__class__") = some true
  hm : PySem.W.mroIn K C (.type "object") = some true
def isCB (x : Str) : PySem.W.Frag → Bool := fun K => He.eqO (PySem.W.findIn K (.ref (He.ga K x)) "__class__") (some (some (.builtin "object.__class__"))) && (He.eqO (PySem.W.specialIn K (.builtin "object.__class__") "__get__") (some (some (.builtin "getset_descriptor.__get__"))) &&
  (decide (PySem.W.takesIn K (.builtin "object.__class__") = some true) && decide (PySem.W.mroIn K (He.ga K x) (.type "object") = some true)))
theorem isC_ok {x : Str} {K : PySem.W.Frag} (c : isCB x K = true) : IsC K (He.ga K x) := by
  obtain ⟨c1, c⟩ := He.ba c
  obtain ⟨c2, c⟩ := He.ba c
  obtain ⟨c3, c4⟩ := He.ba c
  exact ⟨He.eqO_ok c1, He.eqO_ok c2, of_decide_eq_true c3, of_decide_eq_true c4⟩
/-- a class by name: an own one, a built-in one -/
def cv (K : PySem.W.Frag) : Str ⊕ String → Value
  | .inl x => .ref (He.ga K x)
  | .inr n => .type n
def kitF (a b : Str ⊕ String) (r : Bool) : PySem.W.Frag → Bool := fun K => decide (PySem.W.kitOne K (cv K a) (cv K b) = some r)
theorem kitF_ok {a b : Str ⊕ String} {r : Bool} {K : PySem.W.Frag} (c : kitF a b r K = true) : PySem.W.kitOne K (cv K a) (cv K b) = some r := of_decide_eq_true c
theorem tyM {K : PySem.W.Frag} {H : Hp} {a C dx : Addr} {fs : List (Str × V)} (e : H a = some (.ins C dx fs)) (cl : Cls K C) (i : IsC K C) : TyX K H (.ref a) (.ref C) := .base (.ins e cl i.ha i.hn i.htk i.hm)
/-! ### sums and parts of Measures -/
/-- the same fraction once more -/
theorem Fr.of {t u a b c d : Int} (f : Fr t u a b) (hb : b ≠ 0) (e : a * d = c * b) : t * d = c * u := by
  have h1 := f.eq
  have h2 : (t * d) * b = (c * u) * b := by
    calc (t * d) * b = (t * b) * d := by simp only [Int.mul_assoc, Int.mul_comm, Int.mul_left_comm]
      _ = (a * u) * d := by rw [h1]
      _ = (a * d) * u := by simp only [Int.mul_assoc, Int.mul_comm, Int.mul_left_comm]
      _ = (c * b) * u := by rw [e]
      _ = (c * u) * b := by simp only [Int.mul_assoc, Int.mul_comm, Int.mul_left_comm]
  exact Int.eq_of_mul_eq_mul_right hb h2
/-- what stood at the start stands (by another name than the steps') -/
structure Old (H H' : Hp) : Prop where
  s : Same H H'
theorem Old.refl (H : Hp) : Old H H := ⟨Same.refl _⟩
theorem Old.up {p : Addr} {H H1 : Hp} {u : HO} (a : Old H H1) (hp : H1 p = none) : Old H (upd H1 p u) := ⟨a.s.up hp⟩
theorem Old.then {H H1 H2 : Hp} (a : Old H H1) (b : Same H1 H2) : Old H H2 := ⟨a.s.trans b⟩
theorem Old.kp {h : Addr} {H H1 H2 : Hp} (a : Old H H1) (nh : H h = none) (k : Kp h H1 H2) : Old H H2 := ⟨a.s.ofKp nh k⟩
theorem Old.put {h : Addr} {H H1 : Hp} {u : HO} (a : Old H H1) (nh : H h = none) : Old H (upd H1 h u) := ⟨fun c o e => by rw [upd_ne (ne_of_none e nh)]; exact a.s _ _ e⟩
/-- a list is changed, what is no list stays -/
theorem up2 {H : Hp} {l x : Addr} {xs : List V} {o u : HO} (hl : H l = some (.lst xs)) (hx : H x = some o) (no : notHand o = true) : upd H l u x = some o := by
  rw [upd_ne (ne_of hx hl (by intro e; rw [e] at no; cases no))]; exact hx
end My
namespace My
open PySem PySem.Spec PyProof.Rows L2
/-! ### fractions as pairs, stretches as ends -/
abbrev Q2 := Int × Int
def ltq (a b : Q2) : Bool := decide (a.1 * b.2 < b.1 * a.2)
def eqq (a b : Q2) : Bool := decide (a.1 * b.2 = b.1 * a.2)
def someB : Option Q2 → Option Q2 → Bool → Bool → Bool
  | some a, some b, ia, ib => ltq a b || (eqq a b && ia && ib)
  | _, _, _, _ => true
def Re (a b : Q2) : Prop := 0 < a.2 ∧ 0 < b.2 ∧ a.1 * b.2 = b.1 * a.2
def ReO : Option Q2 → Option Q2 → Prop
  | none, none => True
  | some a, some b => Re a b
  | _, _ => False
theorem Re.symm {a b : Q2} (h : Re a b) : Re b a := ⟨h.2.1, h.1, h.2.2.symm⟩
theorem Re.refl {a : Q2} (h : 0 < a.2) : Re a a := ⟨h, h, rfl⟩
theorem ReO.symm : ∀ {a b : Option Q2}, ReO a b → ReO b a
  | none, none, _ => trivial
  | some _, some _, h => Re.symm h
  | none, some _, h => h.elim
  | some _, none, h => h.elim
theorem pos_key {a b c d : Q2} (h : Re a c) (g : Re b d) : (a.1 * b.2) * (c.2 * d.2) = (c.1 * d.2) * (a.2 * b.2) := by
  have := h.2.2
  grind
theorem pos_key' {a b c d : Q2} (h : Re a c) (g : Re b d) : (b.1 * a.2) * (c.2 * d.2) = (d.1 * c.2) * (a.2 * b.2) := by
  have := g.2.2
  grind
theorem ltq_congr {a b c d : Q2} (h : Re a c) (g : Re b d) : ltq a b = ltq c d := by
  unfold ltq
  have k1 := pos_key h g
  have k2 := pos_key' h g
  have p1 : 0 < c.2 * d.2 := Int.mul_pos h.2.1 g.2.1
  have p2 : 0 < a.2 * b.2 := Int.mul_pos h.1 g.1
  refine decide_eq_decide.mpr ⟨fun x => ?_, fun x => ?_⟩
  · have := Int.mul_lt_mul_of_pos_right x p1
    rw [k1, k2] at this
    exact Int.lt_of_mul_lt_mul_right this (Int.le_of_lt p2)
  · have := Int.mul_lt_mul_of_pos_right x p2
    rw [← k1, ← k2] at this
    exact Int.lt_of_mul_lt_mul_right this (Int.le_of_lt p1)
theorem eqq_congr {a b c d : Q2} (h : Re a c) (g : Re b d) : eqq a b = eqq c d := by
  unfold eqq
  have k1 := pos_key h g
  have k2 := pos_key' h g
  have p1 : 0 < c.2 * d.2 := Int.mul_pos h.2.1 g.2.1
  have p2 : 0 < a.2 * b.2 := Int.mul_pos h.1 g.1
  refine decide_eq_decide.mpr ⟨fun x => ?_, fun x => ?_⟩
  · rw [x] at k1
    rw [k1] at k2
    exact Int.eq_of_mul_eq_mul_right (by omega) k2
  · rw [x] at k1
    rw [← k2] at k1
    exact Int.eq_of_mul_eq_mul_right (by omega) k1
theorem someB_congr : ∀ {a b c d : Option Q2} {i j : Bool}, ReO a c → ReO b d → someB a b i j = someB c d i j
  | some a, some b, some c, some d, i, j, h, g => by
    show (ltq a b || (eqq a b && i && j)) = (ltq c d || (eqq c d && i && j))
    rw [ltq_congr h g, eqq_congr h g]
  | none, some _, none, some _, _, _, _, _ => rfl
  | none, none, none, none, _, _, _, _ => rfl
  | some _, none, some _, none, _, _, _, _ => rfl
  | some _, _, none, _, _, _, h, _ => h.elim
  | none, _, some _, _, _, _, h, _ => h.elim
  | some _, some _, some _, none, _, _, _, g => g.elim
  | some _, none, some _, some _, _, _, _, g => g.elim
  | none, some _, none, none, _, _, _, g => g.elim
  | none, none, none, some _, _, _, _, g => g.elim
/-- in lowest terms, its numbers of less than four thousand bits -/
structure Low (a : Q2) : Prop where
  pos : 0 < a.2
  co : Int.gcd a.1 a.2 = 1
  s1 : Sz 4000 a.1
  s2 : Sz 4000 a.2
def LowO : Option Q2 → Prop
  | none => True
  | some a => Low a
theorem dvd_co {a b c : Int} (h : a ∣ b * c) (g : Int.gcd a b = 1) : a ∣ c := by
  have h1 : a.natAbs ∣ b.natAbs * c.natAbs := by rw [← Int.natAbs_mul]; exact Int.natAbs_dvd_natAbs.mpr h
  exact Int.natAbs_dvd_natAbs.mp (Nat.Coprime.dvd_of_dvd_mul_left g h1)
/-! ### their values -/
/-- None, or the tuple of an end's two numbers -/
def EndV (k : Nat) (H : Hp) (v : V) : Option Q2 → Prop
  | none => v = .non
  | some a => ∃ p, v = .ref p ∧ H p = some (.tup [.int a.1, .int a.2]) ∧ 0 < a.2 ∧ Sz k a.1 ∧ Sz k a.2
theorem EndV.mono {k j : Nat} (l : k ≤ j) {H : Hp} {v : V} : ∀ {e : Option Q2}, EndV k H v e → EndV j H v e
  | none, h => h
  | some _, ⟨p, h1, h2, h3, h4, h5⟩ => ⟨p, h1, h2, h3, h4.mono l, h5.mono l⟩
def MsV (C : Addr) (H : Hp) (v : V) : Option Q2 → Prop
  | none => v = .non
  | some a => ∃ p, v = .ref p ∧ MAt C H p a.1 a.2
theorem EndV.same {k : Nat} {H H' : Hp} {v : V} : ∀ {e : Option Q2}, EndV k H v e → Same H H' → EndV k H' v e
  | none, h, _ => h
  | some _, ⟨p, h1, h2, h3⟩, s => ⟨p, h1, s _ _ h2, h3⟩
theorem EndV.kp {j : Nat} {H H' : Hp} {h : Addr} {n : Nat} {v : V} : ∀ {e : Option Q2}, EndV j H v e → HandAt H h n → Kp h H H' → EndV j H' v e
  | none, h, _, _ => h
  | some _, ⟨p, h1, h2, h3⟩, hh, k => ⟨p, h1, k.get hh h2 rfl, h3⟩
theorem MsV.same {C : Addr} {H H' : Hp} {v : V} : ∀ {e : Option Q2}, MsV C H v e → Same H H' → MsV C H' v e
  | none, h, _ => h
  | some _, ⟨p, h1, h2⟩, s => ⟨p, h1, h2.same s⟩
theorem MsV.kp {C : Addr} {H H' : Hp} {h : Addr} {n : Nat} {v : V} : ∀ {e : Option Q2}, MsV C H v e → HandAt H h n → Kp h H H' → MsV C H' v e
  | none, h, _, _ => h
  | some _, ⟨p, h1, h2⟩, hh, k => ⟨p, h1, h2.kp hh k⟩
/-! ### a Stretch -/
def sf (l h : V) (li hi : Bool) : List (Str × V) := [("low", l), ("high", h), ("low_in", .bl li), ("high_in", .bl hi)]
theorem sf_put (l h : V) (li hi : Bool) : putF "high_in" (.bl hi) (putF "low_in" (.bl li) (putF "high" h (putF "low" l []))) = sf l h li hi := by
  have e1 : putF ("high" : Str) h (putF ("low" : Str) l []) = ([("low", l), ("high", h)] : List (Str × V)) := by
    show (if ("low" : Str) = "high" then [(("low" : Str), h)] else (("low" : Str), l) :: putF "high" h []) = _
    rw [if_neg (by decide +kernel)] <;> rfl
  have e2 : putF ("low_in" : Str) (.bl li) [("low", l), ("high", h)] = ([("low", l), ("high", h), ("low_in", .bl li)] : List (Str × V)) := by
    show (if ("low" : Str) = "low_in" then _ else (("low" : Str), l) :: (if ("high" : Str) = "low_in" then _ else (("high" : Str), h) :: putF "low_in" (V.bl li) [])) = _
    rw [if_neg (by decide +kernel), if_neg (by decide +kernel)] <;> rfl
  have e3 : putF ("high_in" : Str) (.bl hi) [("low", l), ("high", h), ("low_in", .bl li)] = sf l h li hi := by
    show (if ("low" : Str) = "high_in" then _ else (("low" : Str), l) :: (if ("high" : Str) = "high_in" then _ else (("high" : Str), h) :: (if ("low_in" : Str) = "high_in" then _ else (("low_in" : Str), V.bl li) :: putF "high_in" (V.bl hi) []))) = _
    rw [if_neg (by decide +kernel), if_neg (by decide +kernel), if_neg (by decide +kernel)] <;> rfl
  rw [e1, e2, e3]
theorem sf_low (l h : V) (li hi : Bool) : (sf l h li hi).lookup ("low" : Str) = some l := by
  rw [← sf_put, lookup_putF, if_neg (by decide +kernel), lookup_putF, if_neg (by decide +kernel), lookup_putF, if_neg (by decide +kernel), lookup_putF, if_pos rfl]
theorem sf_high (l h : V) (li hi : Bool) : (sf l h li hi).lookup ("high" : Str) = some h := by
  rw [← sf_put, lookup_putF, if_neg (by decide +kernel), lookup_putF, if_neg (by decide +kernel), lookup_putF, if_pos rfl]
theorem sf_low_in (l h : V) (li hi : Bool) : (sf l h li hi).lookup ("low_in" : Str) = some (.bl li) := by
  rw [← sf_put, lookup_putF, if_neg (by decide +kernel), lookup_putF, if_pos rfl]
theorem sf_high_in (l h : V) (li hi : Bool) : (sf l h li hi).lookup ("high_in" : Str) = some (.bl hi) := by
  rw [← sf_put, lookup_putF, if_pos rfl]
theorem sf_no (l h : V) (li hi : Bool) {m : Str} (h1 : ¬ m = "low") (h2 : ¬ m = "high") (h3 : ¬ m = "low_in") (h4 : ¬ m = "high_in") : (sf l h li hi).lookup m = none := by
  rw [← sf_put, lookup_putF, if_neg h4, lookup_putF, if_neg h3, lookup_putF, if_neg h2, lookup_putF, if_neg h1] <;> rfl
/-- a Stretch at p: its ends, whether they are in -/
structure StAt (CM CS : Addr) (H : Hp) (p : Addr) (lo hi : Option Q2) (li hj : Bool) : Prop where
  ob : ∃ dx l h, H p = some (.ins CS dx (sf l h li hj)) ∧ MsV CM H l lo ∧ MsV CM H h hi
  l1 : LowO lo
  l2 : LowO hi
  n1 : lo = none → li = false
  n2 : hi = none → hj = false
theorem StAt.same {CM CS p : Addr} {H H' : Hp} {lo hi : Option Q2} {li hj : Bool} (a : StAt CM CS H p lo hi li hj) (s : Same H H') : StAt CM CS H' p lo hi li hj := by
  obtain ⟨⟨dx, l, h, h1, h2, h3⟩, a1, a2, a3, a4⟩ := a
  exact ⟨⟨dx, l, h, s _ _ h1, h2.same s, h3.same s⟩, a1, a2, a3, a4⟩
theorem StAt.kp {CM CS p h : Addr} {H H' : Hp} {n : Nat} {lo hi : Option Q2} {li hj : Bool} (a : StAt CM CS H p lo hi li hj) (hh : HandAt H h n) (s : Kp h H H') : StAt CM CS H' p lo hi li hj := by
  obtain ⟨⟨dx, l, h, h1, h2, h3⟩, a1, a2, a3, a4⟩ := a
  exact ⟨⟨dx, l, h, s.get hh h1 rfl, h2.kp hh s, h3.kp hh s⟩, a1, a2, a3, a4⟩
/-! ### promises -/
/-- the tuple of two ends and two truths, between which something is -/
structure EndsAt (H : Hp) (p : Addr) (ea eb : Option Q2) (ia ib : Bool) : Prop where
  ob : ∃ va vb, H p = some (.tup [va, vb, .bl ia, .bl ib]) ∧ EndV 140 H va ea ∧ EndV 140 H vb eb
  so : someB ea eb ia ib = true
theorem EndsAt.same {H H' : Hp} {p : Addr} {ea eb : Option Q2} {ia ib : Bool} (a : EndsAt H p ea eb ia ib) (s : Same H H') : EndsAt H' p ea eb ia ib := by
  obtain ⟨⟨va, vb, h1, h2, h3⟩, h4⟩ := a
  exact ⟨⟨va, vb, s _ _ h1, h2.same s, h3.same s⟩, h4⟩
theorem EndsAt.kp {H H' : Hp} {p h : Addr} {n : Nat} {ea eb : Option Q2} {ia ib : Bool} (a : EndsAt H p ea eb ia ib) (hh : HandAt H h n) (s : Kp h H H') : EndsAt H' p ea eb ia ib := by
  obtain ⟨⟨va, vb, h1, h2, h3⟩, h4⟩ := a
  exact ⟨⟨va, vb, s.get hh h1 rfl, h2.kp hh s, h3.kp hh s⟩, h4⟩
theorem MsV.put {CM p C dx : Addr} {H : Hp} {v : V} {o : HO} (hp : H p = some (.ins C dx [])) : ∀ {m : Option Q2}, MsV CM H v m → MsV CM (upd H p o) v m
  | none, h => h
  | some _, ⟨q, h1, ⟨dy, h2⟩⟩ => ⟨q, h1, ⟨dy, by
      rw [upd_ne (ne_of h2 hp (by intro e; injection e with _ _ e; cases e))]; exact h2⟩⟩
theorem StAt.mk' {CM CS p dx : Addr} {H H' : Hp} {l h : V} {lo hi : Option Q2} {li hj : Bool} (h1 : H' p = some (.ins CS dx (sf l h (li && lo.isSome) (hj && hi.isSome)))) (s : Same H H') (ml : MsV CM H l lo) (mh : MsV CM H h hi) (l1 : LowO lo) (l2 : LowO hi) :
    StAt CM CS H' p lo hi (li && lo.isSome) (hj && hi.isSome) :=
  ⟨⟨dx, l, h, h1, ml.same s, mh.same s⟩, l1, l2, fun e => by rw [e]; simp, fun e => by rw [e]; simp⟩
theorem ReO.isS : ∀ {a b : Option Q2}, ReO a b → a.isSome = b.isSome
  | none, none, _ => rfl
  | some _, some _, _ => rfl
  | none, some _, h => h.elim
  | some _, none, h => h.elim
/-! ### what two stretches have in common -/
def cutLo : Option Q2 → Bool → Option Q2 → Bool → Option Q2 × Bool
  | none, _, n, j => (n, j)
  | some a, i, none, _ => (some a, i)
  | some a, i, some b, j => if ltq a b then (some b, j) else if eqq a b then (some a, i && j) else (some a, i)
def cutHi : Option Q2 → Bool → Option Q2 → Bool → Option Q2 × Bool
  | none, _, n, j => (n, j)
  | some a, i, none, _ => (some a, i)
  | some a, i, some b, j => if ltq b a then (some b, j) else if eqq a b then (some a, i && j) else (some a, i)
/-- the same end, and in or not alike where there is one -/
def Alike (x y : Option Q2 × Bool) : Prop := ReO x.1 y.1 ∧ (x.1.isSome = true → x.2 = y.2)
theorem Alike.someB {x y z w : Option Q2 × Bool} (h : Alike x y) (g : Alike z w) : My.someB x.1 z.1 x.2 z.2 = My.someB y.1 w.1 y.2 w.2 := by
  obtain ⟨x, i⟩ := x
  obtain ⟨y, j⟩ := y
  obtain ⟨z, k⟩ := z
  obtain ⟨w, l⟩ := w
  obtain ⟨h1, h2⟩ := h
  obtain ⟨g1, g2⟩ := g
  rw [someB_congr h1 g1]
  cases x with
  | none => cases y with
    | none => rfl
    | some _ => exact h1.elim
  | some a => cases z with
    | none => cases w with
      | none => cases y <;> rfl
      | some _ => exact g1.elim
    | some b =>
      have e1 : i = j := h2 rfl
      have e2 : k = l := g2 rfl
      rw [e1, e2]
/-- a Stretch, or None where nothing is between -/
def CutV (CM CS : Addr) (H : Hp) (v : V) (lo hi : Option Q2 × Bool) : Prop :=
  (someB lo.1 hi.1 lo.2 hi.2 = true ∧ ∃ r, v = .ref r ∧ StAt CM CS H r lo.1 hi.1 (lo.2 && lo.1.isSome) (hi.2 && hi.1.isSome)) ∨ (someB lo.1 hi.1 lo.2 hi.2 = false ∧ v = .non)
/-- the law's own: a tuple of four, or None -/
def DueV (H : Hp) (v : V) (lo hi : Option Q2 × Bool) : Prop :=
  (someB lo.1 hi.1 lo.2 hi.2 = true ∧ ∃ r, v = .ref r ∧ EndsAt H r lo.1 hi.1 lo.2 hi.2) ∨ (someB lo.1 hi.1 lo.2 hi.2 = false ∧ v = .non)
theorem DueV.same {H H' : Hp} {v : V} {lo hi : Option Q2 × Bool} (h : DueV H v lo hi) (s : Same H H') : DueV H' v lo hi := by
  rcases h with ⟨h1, r, h2, h3⟩ | h
  · exact .inl ⟨h1, r, h2, h3.same s⟩
  · exact .inr h
theorem CutV.same {CM CS : Addr} {H H' : Hp} {v : V} {lo hi : Option Q2 × Bool} (h : CutV CM CS H v lo hi) (s : Same H H') : CutV CM CS H' v lo hi := by
  rcases h with ⟨h1, r, h2, h3⟩ | h
  · exact .inl ⟨h1, r, h2, h3.same s⟩
  · exact .inr h
/-- what is told is what is due -/
def Match (CM CS : Addr) (H : Hp) (found due : V) : Prop :=
  (found = .non ∧ due = .non) ∨ ∃ (r d : Addr) (lo hi ea eb : Option Q2) (ia ib : Bool), found = .ref r ∧ due = .ref d ∧ EndsAt H d ea eb ia ib ∧ StAt CM CS H r lo hi (ia && ea.isSome) (ib && eb.isSome) ∧ ReO lo ea ∧ ReO hi eb
theorem Match.same {CM CS : Addr} {H H' : Hp} {f d : V} (h : Match CM CS H f d) (s : Same H H') : Match CM CS H' f d := by
  rcases h with h | ⟨r, d, lo, hi, ea, eb, ia, ib, h1, h2, h3, h4, h5, h6⟩
  · exact .inl h
  · exact .inr ⟨r, d, lo, hi, ea, eb, ia, ib, h1, h2, h3.same s, h4.same s, h5, h6⟩
theorem Re.trans {a b c : Q2} (h : Re a b) (g : Re b c) : Re a c := by
  obtain ⟨h1, h2, h3⟩ := h
  obtain ⟨g1, g2, g3⟩ := g
  refine ⟨h1, g2, Int.eq_of_mul_eq_mul_right (show b.2 ≠ 0 by omega) ?_⟩
  grind
theorem ReO.trans : ∀ {a b c : Option Q2}, ReO a b → ReO b c → ReO a c
  | none, none, none, _, _ => trivial
  | some _, some _, some _, h, g => Re.trans h g
  | none, some _, _, h, _ => h.elim
  | some _, none, _, h, _ => h.elim
  | none, none, some _, _, g => g.elim
  | some _, some _, none, _, g => g.elim
def PosO : Option Q2 → Prop
  | none => True
  | some a => 0 < a.2
theorem ReO.refl : ∀ {a : Option Q2}, PosO a → ReO a a
  | none, _ => trivial
  | some _, h => Re.refl h
theorem Alike.trans {x y z : Option Q2 × Bool} (h : Alike x y) (g : Alike y z) : Alike x z := ⟨h.1.trans g.1, fun e => (h.2 e).trans (g.2 (by rw [← h.1.isS]; exact e))⟩
theorem StAt.raw {CM CS p : Addr} {H : Hp} {lo hi : Option Q2} {li hj : Bool} (a : StAt CM CS H p lo hi li hj) {m : Str} (h1 : ¬ m = "low") (h2 : ¬ m = "high") (h3 : ¬ m = "low_in") (h4 : ¬ m = "high_in") : ∃ dx fs, H p = some (.ins CS dx fs) ∧ fs.lookup m = none := by
  obtain ⟨⟨dx, l, h, e, _⟩, _⟩ := a
  exact ⟨dx, _, e, sf_no _ _ _ _ h1 h2 h3 h4⟩
theorem EndsAt.due {H : Hp} {p : Addr} {ea eb : Option Q2} {ia ib : Bool} (a : EndsAt H p ea eb ia ib) : DueV H (.ref p) (ea, ia) (eb, ib) := .inl ⟨a.so, p, rfl, a⟩
/-! ### what a stretch holds -/
def loIn : Option Q2 → Bool → Q2 → Bool
  | none, _, _ => true
  | some a, i, x => ltq a x || (i && eqq a x)
def hiIn : Option Q2 → Bool → Q2 → Bool
  | none, _, _ => true
  | some b, j, x => ltq x b || (j && eqq x b)
theorem ltq_trans {a b c : Q2} (hb : 0 < b.2) (ha : 0 < a.2) (hc : 0 < c.2) (h : ltq a b = true) (g : ltq b c = true) : ltq a c = true := by
  unfold ltq at *
  have h := of_decide_eq_true h
  have g := of_decide_eq_true g
  refine decide_eq_true ?_
  have h2 := Int.mul_lt_mul_of_pos_right h hc
  have g2 := Int.mul_lt_mul_of_pos_right g ha
  have e1 : b.1 * a.2 * c.2 = b.1 * c.2 * a.2 := by simp only [Int.mul_assoc, Int.mul_comm, Int.mul_left_comm]
  rw [e1] at h2
  have k := Int.lt_trans h2 g2
  have e2 : a.1 * b.2 * c.2 = a.1 * c.2 * b.2 := by simp only [Int.mul_assoc, Int.mul_comm, Int.mul_left_comm]
  have e3 : c.1 * b.2 * a.2 = c.1 * a.2 * b.2 := by simp only [Int.mul_assoc, Int.mul_comm, Int.mul_left_comm]
  rw [e2, e3] at k
  exact Int.lt_of_mul_lt_mul_right k (Int.le_of_lt hb)
/-! ### sums, once more, by the size of the new bottom -/
def sp_bin2 (C : Addr) (f g : Int → Int → Int → Int → Int) : Sp := fun vs H Q _ => ∃ (p q : Addr) (t u t' u' : Int), vs = [.ref p, .ref q] ∧ MAt C H p t u ∧ MAt C H q t' u' ∧ 0 < u ∧ 0 < u' ∧ Sz 100000 t ∧ Sz 100000 u ∧ Sz 100000 t' ∧ Sz 100000 u' ∧ Sz 9000 (u * u') ∧
  ∀ (r : Addr) (t2 u2 : Int) (H' : Hp), H r = none → Same H H' → MAt C H' r t2 u2 → Fr t2 u2 (f t u t' u') (g t u t' u') → Q (.ref r) H'
/-- a Measure that the stretch holds -/
structure Held (CM : Addr) (H : Hp) (r : Addr) (x : Q2) (lo hi : Option Q2) (li hj : Bool) : Prop where
  at_ : MAt CM H r x.1 x.2
  pos : 0 < x.2
  s1 : Sz 15000 x.1
  s2 : Sz 15000 x.2
  low : loIn lo li x = true
  high : hiIn hi hj x = true
/-- a Measure in both, or None -/
def ShV (CM : Addr) (H : Hp) (v : V) (m1 m2 n1 n2 : Option Q2) (i1 i2 j1 j2 : Bool) : Prop :=
  (someB (cutLo m1 i1 n1 j1).1 (cutHi m2 i2 n2 j2).1 (cutLo m1 i1 n1 j1).2 (cutHi m2 i2 n2 j2).2 = true ∧ ∃ r x, v = .ref r ∧ Held CM H r x m1 m2 i1 i2 ∧ Held CM H r x n1 n2 j1 j2) ∨
  (someB (cutLo m1 i1 n1 j1).1 (cutHi m2 i2 n2 j2).1 (cutLo m1 i1 n1 j1).2 (cutHi m2 i2 n2 j2).2 = false ∧ v = .non)
theorem Held.same {CM r : Addr} {H H' : Hp} {x : Q2} {lo hi : Option Q2} {li hj : Bool} (a : Held CM H r x lo hi li hj) (s : Same H H') : Held CM H' r x lo hi li hj := ⟨a.at_.same s, a.pos, a.s1, a.s2, a.low, a.high⟩
theorem ShV.same {CM : Addr} {H H' : Hp} {v : V} {m1 m2 n1 n2 : Option Q2} {i1 i2 j1 j2 : Bool} (a : ShV CM H v m1 m2 n1 n2 i1 i2 j1 j2) (s : Same H H') : ShV CM H' v m1 m2 n1 n2 i1 i2 j1 j2 := by
  rcases a with ⟨e, r, x, h1, h2, h3⟩ | h
  · exact .inl ⟨e, r, x, h1, h2.same s, h3.same s⟩
  · exact .inr h
theorem eqq_self (a : Q2) : eqq a a = true := decide_eq_true rfl
/-! ### lists of points, made in comprehensions -/
/-- all but lists stays -/
def Nl (H H' : Hp) : Prop := ∀ c o, H c = some o → notHand o = true → H' c = some o
theorem Nl.of {H H' : Hp} (s : Same H H') : Nl H H' := fun c o e _ => s c o e
theorem Nl.put {H : Hp} {l : Addr} {xs : List V} {u : HO} (h : H l = some (.lst xs)) : Nl H (upd H l u) := fun c o e no => up2 h e no
theorem EndV.nl {k : Nat} {H H' : Hp} {v : V} : ∀ {e : Option Q2}, EndV k H v e → Nl H H' → EndV k H' v e
  | none, h, _ => h
  | some _, ⟨p, h1, h2, h3⟩, s => ⟨p, h1, s _ _ h2 rfl, h3⟩
def PtV (k : Nat) (H : Hp) (v : V) : Prop := ∃ a : Q2, EndV k H v (some a)
theorem PtV.nl {k : Nat} {H H' : Hp} {v : V} (h : PtV k H v) (s : Nl H H') : PtV k H' v := by
  obtain ⟨a, h⟩ := h
  exact ⟨a, h.nl s⟩
end My
namespace My
open PySem PySem.Spec PyProof.Rows L2
/-! ### errors -/
section
variable {P : Program} {w : World} {K : PySem.W.Frag} {mg : Str → Option Value} {base : Heap} {k : Nat} {f : Addr} {fd : FuncData} {ps : List Str}
/-- a def that lets nothing out keeps its promise where more may be let out -/
theorem lift {CX : CXT} {sp : Sp} (F : FnOk P w K mg base CX0 k f fd ps sp) : FnOk P w K mg base CX k f fd ps sp :=
  ⟨F.len, fun A outer s H args us vs Q E hr he hb hv hs => codeAny_mono (F.run A outer s H args us vs Q E hr he hb hv hs) fun r s' hq => by
    cases r with
    | error e => exact False.elim hq
    | ok fl => cases fl <;> exact hq⟩
end
section
variable {X : Cx} {CX : CXT} {k : Nat} {f C : Addr} {fd : FuncData} {ps : List Str} {sp : Sp} {dvs : List V} {ds : List Value} {x : Str} {p pos : Pos} {e : Expr} {es : List Expr} {t : TA} {E : L2.St → XK}
end
/-! ### several clauses, each with the error by the same name; nothing leaves -/
/-! ### facts of error classes -/
/-! ### things of any kind -/
/-- a thing that is no Measure and no Stretch; h: not the hand -/
def Thing (h : Addr) (H : Hp) (v : V) : Prop := v = .non ∨ (∃ b, v = .bl b) ∨ (∃ i, v = .int i) ∨ (∃ z, v = .str z) ∨ (∃ a xs, v = .ref a ∧ a ≠ h ∧ H a = some (.lst xs)) ∨ (∃ a xs, v = .ref a ∧ H a = some (.tup xs)) ∨ (∃ a kvs, v = .ref a ∧ H a = some (.dK kvs))
theorem Thing.same {h : Addr} {H H' : Hp} {v : V} (t : Thing h H v) (s : Same H H') : Thing h H' v := by
  rcases t with t | t | t | t | ⟨a, xs, e, n, t⟩ | ⟨a, xs, e, t⟩ | ⟨a, xs, e, t⟩
  · exact .inl t
  · exact .inr (.inl t)
  · exact .inr (.inr (.inl t))
  · exact .inr (.inr (.inr (.inl t)))
  · exact .inr (.inr (.inr (.inr (.inl ⟨a, xs, e, n, s _ _ t⟩))))
  · exact .inr (.inr (.inr (.inr (.inr (.inl ⟨a, xs, e, s _ _ t⟩)))))
  · exact .inr (.inr (.inr (.inr (.inr (.inr ⟨a, xs, e, s _ _ t⟩)))))
theorem Thing.kp {h : Addr} {n : Nat} {H H' : Hp} {v : V} (t : Thing h H v) (hh : HandAt H h n) (s : Kp h H H') : Thing h H' v := by
  rcases t with t | t | t | t | ⟨a, xs, e, n, t⟩ | ⟨a, xs, e, t⟩ | ⟨a, xs, e, t⟩
  · exact .inl t
  · exact .inr (.inl t)
  · exact .inr (.inr (.inl t))
  · exact .inr (.inr (.inr (.inl t)))
  · exact .inr (.inr (.inr (.inr (.inl ⟨a, xs, e, n, s _ _ t n⟩))))
  · exact .inr (.inr (.inr (.inr (.inr (.inl ⟨a, xs, e, s.get hh t rfl⟩)))))
  · exact .inr (.inr (.inr (.inr (.inr (.inr ⟨a, xs, e, s.get hh t rfl⟩)))))
/-- its class, as isinstance asks it -/
theorem Thing.ty {K : PySem.W.Frag} {h : Addr} {H : Hp} {v : V} (t : Thing h H v) : ∃ n : String, TyX K H v (.type n) ∧ (n = "NoneType" ∨ n = "bool" ∨ n = "int" ∨ n = "str" ∨ n = "list" ∨ n = "tuple" ∨ n = "dict") := by
  rcases t with rfl | ⟨b, rfl⟩ | ⟨i, rfl⟩ | ⟨z, rfl⟩ | ⟨a, xs, rfl, n, t⟩ | ⟨a, xs, rfl, t⟩ | ⟨a, xs, rfl, t⟩
  · exact ⟨_, .base .non, .inl rfl⟩
  · exact ⟨_, .base (.bl b), .inr (.inl rfl)⟩
  · exact ⟨_, .base (.int i), .inr (.inr (.inl rfl))⟩
  · exact ⟨_, .base (.str z), .inr (.inr (.inr (.inl rfl)))⟩
  · exact ⟨_, .base (.lst t), .inr (.inr (.inr (.inr (.inl rfl))))⟩
  · exact ⟨_, .base (.tup t), .inr (.inr (.inr (.inr (.inr (.inl rfl)))))⟩
  · exact ⟨_, .base (.dK t), .inr (.inr (.inr (.inr (.inr (.inr rfl)))))⟩
end My
namespace My
open PySem PySem.Spec PyProof.Rows L2
/-! ### == and != by an own __eq__, beside things of any kind -/
section
open AutoSeq1 (wpAny_loadPart')
variable {prog : Program} {w : World} {A : Around} {E : Value → Shared → Prop} {s : Shared}
end
/-- a value of a built-in kind -/
inductive Bk (H : Hp) : V → String → Prop where
  | non : Bk H .non "NoneType"
  | bl (b : Bool) : Bk H (.bl b) "bool"
  | int (i : Int) : Bk H (.int i) "int"
  | str (z : Str) : Bk H (.str z) "str"
  | lst {a : Addr} {xs : List V} (e : H a = some (.lst xs)) : Bk H (.ref a) "list"
  | tup {a : Addr} {xs : List V} (e : H a = some (.tup xs)) : Bk H (.ref a) "tuple"
theorem Bk.ty {K : PySem.W.Frag} {H : Hp} {x : V} {T : String} (b : Bk H x T) : TyX K H x (.type T) := by
  cases b with
  | non => exact .base .non
  | bl b => exact .base (.bl b)
  | int i => exact .base (.int i)
  | str z => exact .base (.str z)
  | lst e => exact .base (.lst e)
  | tup e => exact .base (.tup e)
theorem Bk.same {H H' : Hp} {x : V} {T : String} (b : Bk H x T) (s : Same H H') : Bk H' x T := by
  cases b with
  | non => exact .non
  | bl b => exact .bl b
  | int i => exact .int i
  | str z => exact .str z
  | lst e => exact .lst (s _ _ e)
  | tup e => exact .tup (s _ _ e)
/-- the kinds that no own class stands under -/
def kinds : List String := ["NoneType", "bool", "int", "str", "list", "tuple"]
theorem Bk.mem {H : Hp} {x : V} {T : String} (b : Bk H x T) : T ∈ kinds := by
  cases b <;> simp [kinds]
/-- what == and != ask of a class with an own __eq__ and no own __ne__ -/
structure EqC (K : PySem.W.Frag) (C : Addr) : Prop where
  ne : PySem.W.findIn K (.ref C) "__ne__" = some (some (.builtin "object.__ne__"))
  ob : PySem.W.mroIn K C (.type "object") = some true
  sub : ∀ T, T ∈ kinds → PySem.W.subIn K (.ref C) (.type T) = some false
  nf : ∀ T, T ∈ kinds → PySem.W.notFirst K C (.type T) = true
  kit : ∀ T, T ∈ kinds → PySem.W.kitOne K (.type T) (.ref C) = some false
section
variable {X : Cx} {pins : List (Addr × Obj)} {σ : L2.St} {H : Hp} {s : Shared} {A : Around} {E : Value → Shared → Prop}
end
/-- how == answers: x == y tells b, and nothing changes -/
abbrev Eqb := V → V → Hp → Bool → Prop
def RcB (X : Cx) (n : Nat) (D : Eqb) : Prop := ∀ (A : Around) (pins : List (Addr × Obj)) (s : Shared) (σ : L2.St) (H : Hp) (x y : V) (u v : Value) (b : Bool), Sub X n A → Inv X pins σ H s → RelV x u → RelV y v → D x y H b →
  wpAny (model X.prog X.w) A (richCompare .Eq u v) (fun r s' => r = .bool b ∧ Inv X pins σ H s') X.xe s
def EqB (X : Cx) (n : Nat) (D : Eqb) : Prop := ∀ (A : Around) (pins : List (Addr × Obj)) (s : Shared) (σ : L2.St) (H : Hp) (x y : V) (u v : Value) (b : Bool), Sub X n A → Inv X pins σ H s → RelV x u → RelV y v → D x y H b →
  wpAny (model X.prog X.w) A (eqBool u v) (fun r s' => r = b ∧ Inv X pins σ H s') X.xe s
/-- the own object first -/
def DOwn (K : PySem.W.Frag) (C : Addr) (R : Eqb) : Eqb := fun x y H b => ∃ a dx fs tb, x = .ref a ∧ H a = some (.ins C dx fs) ∧ TyX K H y tb ∧ PySem.W.notFirst K C tb = true ∧ (x = y → b = true) ∧ R x y H b
/-- the own object behind a thing of a built-in kind -/
def DRef (C : Addr) (R : Eqb) : Eqb := fun x y H b => ∃ a dx fs T, y = .ref a ∧ H a = some (.ins C dx fs) ∧ Bk H x T ∧ (x = y → b = true) ∧ R y x H b
def DOr (D D' : Eqb) : Eqb := fun x y H b => D x y H b ∨ D' x y H b
section
variable {X : Cx} {n : Nat} {CX : CXT} {C f : Addr} {fd : FuncData} {ps : List Str} {R D D' : Eqb} {E : XK}
theorem RcB.mono {m : Nat} (h : RcB X n D) (l : n ≤ m) : RcB X m D := fun A pins s σ H x y u v b sb I rx ry d => h A pins s σ H x y u v b (sb.mono l) I rx ry d
theorem EqB.mono {m : Nat} (h : EqB X n D) (l : n ≤ m) : EqB X m D := fun A pins s σ H x y u v b sb I rx ry d => h A pins s σ H x y u v b (sb.mono l) I rx ry d
theorem RcB.or (h : RcB X n D) (h' : RcB X n D') : RcB X n (DOr D D') := fun A pins s σ H x y u v b sb I rx ry d => d.elim (h A pins s σ H x y u v b sb I rx ry) (h' A pins s σ H x y u v b sb I rx ry)
theorem EqB.or (h : EqB X n D) (h' : EqB X n D') : EqB X n (DOr D D') := fun A pins s σ H x y u v b sb I rx ry d => d.elim (h A pins s σ H x y u v b sb I rx ry) (h' A pins s σ H x y u v b sb I rx ry)
/-! ### in, by an own == -/
def InB (D : Eqb) (x : V) (H : Hp) : List V → Bool → Prop
  | [], b => b = false
  | y :: r, b => (D y x H true ∧ b = true) ∨ (D y x H false ∧ InB D x H r b)
open AutoSeq1 (wpAny_loadPart') in
open AutoSeq1 (wpAny_loadPart') in
/-- a text beside a thing of a built-in kind -/
def DTxt : Eqb := fun x y H b => ∃ (z : Str) (T : String), x = .str z ∧ Bk H y T ∧ b = decide (y = .str z)
end
/-! ### Measures alike, beside Measures and things of built-in kinds -/
def REq (K : PySem.W.Frag) (C : Addr) : Eqb := fun x y H b => ∃ p t u, x = .ref p ∧ MAt C H p t u ∧ ((∃ q t' u', y = .ref q ∧ MAt C H q t' u' ∧ b = (decide (t = t') && decide (u = u'))) ∨ ∃ tv, TyX K H y tv ∧ PySem.W.kitOne K tv (.ref C) = some false ∧ b = false)
inductive Like (C : Addr) (H : Hp) (p : Addr) : V → Bool → Prop where
  | ms {q : Addr} {t u t' u' : Int} (a : MAt C H p t u) (b : MAt C H q t' u') : Like C H p (.ref q) (decide (t = t') && decide (u = u'))
  | kd {y : V} {T : String} {t u : Int} (a : MAt C H p t u) (b : Bk H y T) : Like C H p y false
theorem Like.same {C p : Addr} {H H' : Hp} {y : V} {b : Bool} (h : Like C H p y b) (s : Same H H') : Like C H' p y b := by
  cases h with
  | ms a b => exact .ms (a.same s) (b.same s)
  | kd a k => exact .kd (a.same s) (k.same s)
theorem mf_inj {t u t' u' : Int} (h : mf t u = mf t' u') : t = t' ∧ u = u' := by
  unfold mf at h
  injection h with h1 h2
  injection h2 with h3 _
  exact ⟨V.int.inj (congrArg Prod.snd h1), V.int.inj (congrArg Prod.snd h3)⟩
theorem MAt.uniq {C p : Addr} {H : Hp} {t u t' u' : Int} (a : MAt C H p t u) (b : MAt C H p t' u') : t = t' ∧ u = u' := by
  obtain ⟨d, a⟩ := a
  obtain ⟨d', b⟩ := b
  rw [a] at b
  have e := HO.ins.inj (Option.some.inj b)
  exact mf_inj e.2.2
theorem Bk.notIns {C p dx : Addr} {H : Hp} {T : String} {fs : List (Str × V)} (b : Bk H (.ref p) T) (e : H p = some (.ins C dx fs)) : False := by
  cases b with
  | lst z => rw [z] at e; cases e
  | tup z => rw [z] at e; cases e
section
variable {K : PySem.W.Frag} {C p : Addr} {H : Hp} {y : V} {b : Bool}
theorem nf_self : PySem.W.notFirst K C (.ref C) = true := by simp [PySem.W.notFirst]
theorem Like.fwd (cl : Cls K C) (ii : IsC K C) (ec : EqC K C) (h : Like C H p y b) : DOwn K C (REq K C) (.ref p) y H b := by
  cases h with
  | @ms q t u t' u' a b =>
    obtain ⟨da, ha⟩ := _root_.id a
    obtain ⟨db, hb⟩ := _root_.id b
    refine ⟨p, da, _, _, rfl, ha, tyM hb cl ii, nf_self, fun e => ?_, p, t, u, rfl, a, .inl ⟨q, t', u', rfl, b, rfl⟩⟩
    cases e
    obtain ⟨rfl, rfl⟩ := a.uniq b
    simp
  | @kd _ T t u a k =>
    obtain ⟨da, ha⟩ := _root_.id a
    refine ⟨p, da, _, _, rfl, ha, k.ty, ec.nf T k.mem, fun e => ?_, p, t, u, rfl, a, .inr ⟨_, k.ty, ec.kit T k.mem, rfl⟩⟩
    subst e
    exact (k.notIns ha).elim
theorem Like.bwd (cl : Cls K C) (ii : IsC K C) (ec : EqC K C) (h : Like C H p y b) : DOr (DOwn K C (REq K C)) (DRef C (REq K C)) y (.ref p) H b := by
  cases h with
  | @ms q t u t' u' a b =>
    obtain ⟨da, ha⟩ := _root_.id a
    obtain ⟨db, hb⟩ := _root_.id b
    have e2 : (decide (t = t') && decide (u = u')) = (decide (t' = t) && decide (u' = u)) := by
      rw [decide_eq_decide.mpr (eq_comm (a := t)), decide_eq_decide.mpr (eq_comm (a := u))]
    rw [e2]
    refine .inl ⟨q, db, _, _, rfl, hb, tyM ha cl ii, nf_self, fun e => ?_, q, t', u', rfl, b, .inl ⟨p, t, u, rfl, a, rfl⟩⟩
    cases e
    obtain ⟨rfl, rfl⟩ := a.uniq b
    simp
  | @kd _ T t u a k =>
    obtain ⟨da, ha⟩ := _root_.id a
    refine .inr ⟨p, da, _, T, rfl, ha, k, fun e => ?_, p, t, u, rfl, a, .inr ⟨_, k.ty, ec.kit T k.mem, rfl⟩⟩
    subst e
    exact (k.notIns ha).elim
theorem Like.non (ec : EqC K C) (h : Like C H p y b) : DOr (DOwn K C (REq K C)) (DRef C (REq K C)) .non (.ref p) H false := by
  have go : ∀ {t u : Int}, MAt C H p t u → DOr (DOwn K C (REq K C)) (DRef C (REq K C)) .non (.ref p) H false := fun {t u} a => by
    obtain ⟨da, ha⟩ := _root_.id a
    exact .inr ⟨p, da, _, _, rfl, ha, .non, (fun e => nomatch e), p, t, u, rfl, a, .inr ⟨_, (Bk.non (H := H)).ty, ec.kit _ (Bk.non (H := H)).mem, rfl⟩⟩
  cases h with
  | ms a _ => exact go a
  | kd a _ => exact go a
/-- one in [None, y] -/
theorem Like.inl (cl : Cls K C) (ii : IsC K C) (ec : EqC K C) (h : Like C H p y b) : InB (DOr (DOwn K C (REq K C)) (DRef C (REq K C))) (.ref p) H [.non, y] b := by
  refine .inr ⟨h.non ec, ?_⟩
  cases b with
  | true => exact .inl ⟨h.bwd cl ii ec, rfl⟩
  | false => exact .inr ⟨h.bwd cl ii ec, rfl⟩
/-- y in (one, z) -/
theorem Like.inr {z : Str} (cl : Cls K C) (ii : IsC K C) (ec : EqC K C) (h : Like C H p y b) (hz : y ≠ .str z) : InB (DOr (DOr (DOwn K C (REq K C)) (DRef C (REq K C))) DTxt) y H [.ref p, .str z] b := by
  have key : ∀ {c : Bool}, Like C H p y c → DOr (DOr (DOwn K C (REq K C)) (DRef C (REq K C))) DTxt (.str z) y H false := fun {c} h => by
    cases h with
    | @ms q t u t' u' a b =>
      obtain ⟨dq, hq⟩ := _root_.id b
      exact .inl (.inr ⟨q, dq, _, _, rfl, hq, .str z, (fun e => nomatch e), q, t', u', rfl, b, .inr ⟨_, (Bk.str (H := H) z).ty, ec.kit _ (Bk.str (H := H) z).mem, rfl⟩⟩)
    | @kd _ T t u a k => exact .inr ⟨z, T, rfl, k, (decide_eq_false hz).symm⟩
  cases b with
  | true => exact .inl ⟨.inl (.inl (h.fwd cl ii ec)), rfl⟩
  | false => exact .inr ⟨.inl (.inl (h.fwd cl ii ec)), .inr ⟨key h, rfl⟩⟩
end
end My
namespace My
open PySem PySem.Spec PyProof.Rows L2
/-! ### texts: str and repr of own objects, pieces of f-strings, divmod -/
section
variable {X : Cx} {n : Nat} {CX : CXT} {C f : Addr} {fd : FuncData} {ps : List Str} {sp : Sp} {E : XK}
/-- an own def is called from within a built-in one -/
theorem fn_at (F : FnOk X.prog X.w X.K X.mg X.base CX n f fd ps sp) (hb : Binds X.K fd ps []) (hx : Passes CX X E) {A : Around} {pins : List (Addr × Obj)} {s : Shared} {σ : L2.St} {H : Hp} {vs : List V} {us : List Value} {Q : VK}
    (sb : Sub X n A) (I : Inv X pins σ H s) (r : Vals vs us) (h : sp vs H Q E) : wpAny (model X.prog X.w) A (call (.ref f) us) (fun u s' => ∃ v H', Inv X pins σ H' s' ∧ RelV v u ∧ Q v H') X.xe s := by
  have e := I.env0
  have e0 : Env0 X.prog X.w X.K X.mg X.base A X.stack s H := ⟨by rw [sb.fr]; exact e.frames, e.mod, e.bs, e.bsz, e.funs, e.frf, e.hok, e.bare⟩
  have hl := F.len _ _ _ _ h
  have hbs := hb s us I.kIn (by rw [List.append_nil, ← r.length]; exact hl)
  rw [List.append_nil] at hbs
  refine wpAny_call (codeAny_mono (F.run A X.stack s H ⟨us, []⟩ us vs _ E sb.room e0 hbs r h) fun r s' hq => ?_)
  cases r with
  | error e => exact hx pins σ H s e s' I hq
  | ok fl =>
    cases fl with
    | ret w =>
      obtain ⟨z, H', I', rz, q⟩ := I.after hq
      exact ⟨z, H', I', rz, q⟩
    | next => exact False.elim hq
    | brk => exact False.elim hq
    | cont => exact False.elim hq
/-- what a text of an own object asks: the def tells a text -/
def tOwn (C : Addr) (sp : Sp) (E : XK) : V → Hp → VK → Prop := fun x H Q => ∃ a dx fs, x = .ref a ∧ H a = some (.ins C dx fs) ∧ sp [.ref a] H (fun v H' => ∃ z : Str, v = .str z ∧ Q (.str z) H') E
theorem bnil {K : PySem.W.Frag} {fd : FuncData} {ps : List Str} {ds : List Value} (v : Vals [] ds) (b : Binds K fd ps ds) : Binds K fd ps [] := by
  cases v
  exact b
end
/-! ### the text of a number, of a Measure -/
def iT (i : Int) : Str := Str.ofString (toString i)
def wTxt (a u : Int) : Str := if a % u = 0 then iT (a / u) else if a / u = 0 then Str.empty ++ iT (a % u) ++ "/" ++ iT u else Str.empty ++ iT (a / u) ++ " " ++ iT (a % u) ++ "/" ++ iT u
def mTxt (t u : Int) : Str := if t < 0 then Str.empty ++ "-" ++ wTxt (-t) u else wTxt t u
end My
namespace My
open PySem PySem.Spec PyProof.Rows L2
/-! ### Stretches alike -/
def optEq : Option Q2 → Option Q2 → Bool
  | none, none => true
  | some a, some b => eqq a b
  | _, _ => false
theorem optEq_self (a : Option Q2) : optEq a a = true := by
  cases a with
  | none => rfl
  | some a => exact eqq_self a
theorem eqq_comm' (a b : Q2) : eqq a b = eqq b a := by
  unfold eqq
  exact decide_eq_decide.mpr eq_comm
theorem optEq_comm (a b : Option Q2) : optEq a b = optEq b a := by
  cases a with
  | none => cases b <;> rfl
  | some a =>
    cases b with
    | none => rfl
    | some b => exact eqq_comm' a b
def eqS (lo hi : Option Q2) (li hj : Bool) (lo' hi' : Option Q2) (li' hj' : Bool) : Bool := optEq lo lo' && (optEq hi hi' && (decide (V.bl li = V.bl li') && decide (V.bl hj = V.bl hj')))
theorem eqS_self (lo hi : Option Q2) (li hj : Bool) : eqS lo hi li hj lo hi li hj = true := by
  unfold eqS
  rw [optEq_self, optEq_self, decide_eq_true rfl, decide_eq_true rfl]
  rfl
theorem eqS_comm (lo hi : Option Q2) (li hj : Bool) (lo' hi' : Option Q2) (li' hj' : Bool) : eqS lo hi li hj lo' hi' li' hj' = eqS lo' hi' li' hj' lo hi li hj := by
  unfold eqS
  rw [optEq_comm lo, optEq_comm hi, decide_eq_decide.mpr (eq_comm (a := V.bl li)), decide_eq_decide.mpr (eq_comm (a := V.bl hj))]
section
variable {K : PySem.W.Frag} {CM CS p : Addr} {H : Hp}
def REqS (K : PySem.W.Frag) (CM CS : Addr) : Eqb := fun x y H b => ∃ p lo hi li hj, x = .ref p ∧ StAt CM CS H p lo hi li hj ∧ ((∃ q lo' hi' li' hj', y = .ref q ∧ StAt CM CS H q lo' hi' li' hj' ∧ b = eqS lo hi li hj lo' hi' li' hj') ∨
  ∃ tv, TyX K H y tv ∧ PySem.W.kitOne K tv (.ref CS) = some false ∧ b = false)
inductive LikeS (CM CS : Addr) (H : Hp) (p : Addr) : V → Bool → Prop where
  | st {q : Addr} {lo hi lo' hi' : Option Q2} {li hj li' hj' : Bool} (a : StAt CM CS H p lo hi li hj) (b : StAt CM CS H q lo' hi' li' hj') : LikeS CM CS H p (.ref q) (eqS lo hi li hj lo' hi' li' hj')
  | kd {y : V} {T : String} {lo hi : Option Q2} {li hj : Bool} (a : StAt CM CS H p lo hi li hj) (b : Bk H y T) : LikeS CM CS H p y false
  | ms {q : Addr} {t u : Int} {lo hi : Option Q2} {li hj : Bool} (a : StAt CM CS H p lo hi li hj) (b : MAt CM H q t u) : LikeS CM CS H p (.ref q) false
theorem LikeS.same {H' : Hp} {y : V} {b : Bool} (h : LikeS CM CS H p y b) (s : Same H H') : LikeS CM CS H' p y b := by
  cases h with
  | st a b => exact .st (a.same s) (b.same s)
  | kd a k => exact .kd (a.same s) (k.same s)
  | ms a m => exact .ms (a.same s) (m.same s)
theorem MsV.uniq {v : V} {e f : Option Q2} (a : MsV CM H v e) (b : MsV CM H v f) : e = f := by
  cases e with
  | none =>
    cases a
    cases f with
    | none => rfl
    | some y => obtain ⟨q, z, _⟩ := b; exact nomatch z
  | some x =>
    obtain ⟨p, rfl, hp⟩ := a
    cases f with
    | none => exact nomatch (show V.ref p = V.non from b)
    | some y =>
      obtain ⟨q, z, hq⟩ := b
      cases z
      obtain ⟨h1, h2⟩ := hp.uniq hq
      rw [show x = (x.1, x.2) from rfl, show y = (y.1, y.2) from rfl, h1, h2]
theorem sf_inj {l h l' h' : V} {i j i' j' : Bool} (e : sf l h i j = sf l' h' i' j') : l = l' ∧ h = h' ∧ i = i' ∧ j = j' := by
  have g : ∀ m : Str, (sf l h i j).lookup m = (sf l' h' i' j').lookup m := fun m => by rw [e]
  have g1 := g "low"
  have g2 := g "high"
  have g3 := g "low_in"
  have g4 := g "high_in"
  rw [sf_low, sf_low] at g1
  rw [sf_high, sf_high] at g2
  rw [sf_low_in, sf_low_in] at g3
  rw [sf_high_in, sf_high_in] at g4
  exact ⟨Option.some.inj g1, Option.some.inj g2, V.bl.inj (Option.some.inj g3), V.bl.inj (Option.some.inj g4)⟩
theorem StAt.uniq {lo hi lo' hi' : Option Q2} {li hj li' hj' : Bool} (a : StAt CM CS H p lo hi li hj) (b : StAt CM CS H p lo' hi' li' hj') : lo = lo' ∧ hi = hi' ∧ li = li' ∧ hj = hj' := by
  obtain ⟨⟨d, l, h, h1, h2, h3⟩, _⟩ := a
  obtain ⟨⟨d', l', h', k1, k2, k3⟩, _⟩ := b
  rw [h1] at k1
  have e := HO.ins.inj (Option.some.inj k1)
  obtain ⟨rfl, rfl, rfl, rfl⟩ := sf_inj e.2.2
  exact ⟨h2.uniq k2, h3.uniq k3, rfl, rfl⟩
theorem st_notM {q : Addr} {lo hi : Option Q2} {li hj : Bool} {t u : Int} (a : StAt CM CS H p lo hi li hj) (m : MAt CM H p t u) : False := by
  obtain ⟨⟨d, l, hh, h1, _⟩, _⟩ := a
  obtain ⟨dm, hm⟩ := m
  rw [h1] at hm
  have e := (HO.ins.inj (Option.some.inj hm)).2.2
  have e2 := congrArg (fun fs : List (Str × V) => fs.lookup ("top" : Str)) e
  have e3 : (sf l hh li hj).lookup ("top" : Str) = none := sf_no _ _ _ _ (by decide +kernel) (by decide +kernel) (by decide +kernel) (by decide +kernel)
  have e4 := mf_top t u
  rw [show (sf l hh li hj).lookup ("top" : Str) = (mf t u).lookup ("top" : Str) from e2, e4] at e3
  cases e3
/-- what is asked of the two classes -/
structure Two (K : PySem.W.Frag) (CM CS : Addr) : Prop where
  clM : Cls K CM
  iiM : IsC K CM
  ecM : EqC K CM
  clS : Cls K CS
  iiS : IsC K CS
  ecS : EqC K CS
  nMS : PySem.W.notFirst K CM (.ref CS) = true
  nSM : PySem.W.notFirst K CS (.ref CM) = true
  kMS : PySem.W.kitOne K (.ref CM) (.ref CS) = some false
  kSM : PySem.W.kitOne K (.ref CS) (.ref CM) = some false
def DAllS (K : PySem.W.Frag) (CM CS : Addr) : Eqb := DOr (DOr (DOwn K CS (REqS K CM CS)) (DRef CS (REqS K CM CS))) (DOwn K CM (REq K CM))
theorem LikeS.fwd {y : V} {b : Bool} (T : Two K CM CS) (h : LikeS CM CS H p y b) : DOwn K CS (REqS K CM CS) (.ref p) y H b := by
  cases h with
  | @st q lo hi lo' hi' li hj li' hj' a b =>
    obtain ⟨⟨d, l, hh, h1, _⟩, _⟩ := _root_.id a
    obtain ⟨⟨d', l', hh', k1, _⟩, _⟩ := _root_.id b
    refine ⟨p, d, _, _, rfl, h1, tyM k1 T.clS T.iiS, nf_self, fun e => ?_, p, lo, hi, li, hj, rfl, a, .inl ⟨q, lo', hi', li', hj', rfl, b, rfl⟩⟩
    cases e
    obtain ⟨rfl, rfl, rfl, rfl⟩ := a.uniq b
    exact eqS_self _ _ _ _
  | @kd _ Ty lo hi li hj a k =>
    obtain ⟨⟨d, l, hh, h1, _⟩, _⟩ := _root_.id a
    refine ⟨p, d, _, _, rfl, h1, k.ty, T.ecS.nf Ty k.mem, fun e => ?_, p, lo, hi, li, hj, rfl, a, .inr ⟨_, k.ty, T.ecS.kit Ty k.mem, rfl⟩⟩
    subst e
    exact (k.notIns h1).elim
  | @ms q t u lo hi li hj a m =>
    obtain ⟨⟨d, l, hh, h1, _⟩, _⟩ := _root_.id a
    obtain ⟨dm, hm⟩ := _root_.id m
    have ty := tyM hm T.clM T.iiM
    refine ⟨p, d, _, _, rfl, h1, ty, T.nSM, fun e => ?_, p, lo, hi, li, hj, rfl, a, .inr ⟨_, ty, T.kMS, rfl⟩⟩
    cases e
    exact (st_notM (q := p) a m).elim
theorem LikeS.bwd {y : V} {b : Bool} (T : Two K CM CS) (h : LikeS CM CS H p y b) : DAllS K CM CS y (.ref p) H b := by
  cases h with
  | @st q lo hi lo' hi' li hj li' hj' a b =>
    rw [eqS_comm]
    exact .inl (.inl (LikeS.fwd T (.st b a)))
  | @kd _ Ty lo hi li hj a k =>
    obtain ⟨⟨d, l, hh, h1, _⟩, _⟩ := _root_.id a
    refine .inl (.inr ⟨p, d, _, Ty, rfl, h1, k, fun e => ?_, p, lo, hi, li, hj, rfl, a, .inr ⟨_, k.ty, T.ecS.kit Ty k.mem, rfl⟩⟩)
    subst e
    exact (k.notIns h1).elim
  | @ms q t u lo hi li hj a m =>
    obtain ⟨⟨d, l, hh, h1, _⟩, _⟩ := _root_.id a
    obtain ⟨dm, hm⟩ := _root_.id m
    have ty := tyM h1 T.clS T.iiS
    refine .inr ⟨q, dm, _, _, rfl, hm, ty, T.nMS, fun e => ?_, q, t, u, rfl, m, .inr ⟨_, ty, T.kSM, rfl⟩⟩
    cases e
    exact (st_notM (q := p) a m).elim
theorem LikeS.inl {y : V} {b : Bool} (T : Two K CM CS) (h : LikeS CM CS H p y b) : InB (DAllS K CM CS) (.ref p) H [.non, y] b := by
  have go : ∀ {lo hi li hj}, StAt CM CS H p lo hi li hj → DAllS K CM CS .non (.ref p) H false := fun {lo hi li hj} a => LikeS.bwd T (.kd a .non)
  have nn : DAllS K CM CS .non (.ref p) H false := by
    cases h with
    | st a _ => exact go a
    | kd a _ => exact go a
    | ms a _ => exact go a
  refine .inr ⟨nn, ?_⟩
  cases b with
  | true => exact .inl ⟨h.bwd T, rfl⟩
  | false => exact .inr ⟨h.bwd T, rfl⟩
end
/-! ### texts of Stretches -/
def eT : Option Q2 → Str
  | none => ".."
  | some a => mTxt a.1 a.2
/-- the tuple of two ends and two truths -/
def EndsK (k : Nat) (H : Hp) (v : V) (ea eb : Option Q2) (ia ib : Bool) : Prop := ∃ p va vb, v = .ref p ∧ H p = some (.tup [va, vb, .bl ia, .bl ib]) ∧ EndV k H va ea ∧ EndV k H vb eb
theorem EndsK.nl {k : Nat} {H H' : Hp} {v : V} {ea eb : Option Q2} {ia ib : Bool} (a : EndsK k H v ea eb ia ib) (s : Nl H H') : EndsK k H' v ea eb ia ib := by
  obtain ⟨p, va, vb, h0, h1, h2, h3⟩ := a
  exact ⟨p, va, vb, h0, s _ _ h1 rfl, h2.nl s, h3.nl s⟩
theorem EndsK.same {k : Nat} {H H' : Hp} {v : V} {ea eb : Option Q2} {ia ib : Bool} (a : EndsK k H v ea eb ia ib) (s : Same H H') : EndsK k H' v ea eb ia ib := a.nl (Nl.of s)
theorem EndsAt.k {H : Hp} {p : Addr} {ea eb : Option Q2} {ia ib : Bool} (a : EndsAt H p ea eb ia ib) : EndsK 150 H (.ref p) ea eb ia ib := by
  obtain ⟨⟨va, vb, h1, h2, h3⟩, _⟩ := a
  exact ⟨p, va, vb, rfl, h1, h2.mono (by decide), h3.mono (by decide)⟩
end My
namespace My
open PySem PySem.Spec PyProof.Rows L2
/-! ### texts by their signs: partings at the last and the first sign -/
/-! ### x.rpartition(sep) -/
/-! ### a leading sign -/
/-! ### the words of a measure's text -/
/-! ### the text of a Measure by its signs -/
end My
namespace My
open PySem PySem.Spec PyProof.Rows L2
/-! ### list.count(True) of truths -/
/-! ### Measures as fractions -/
theorem fr_of {t u A B : Int} (hu : 0 < u) (co : Int.gcd t u = 1) (hB : 0 < B) (e : t * B = A * u) : Fr t u A B := by
  have co' : Int.gcd u t = 1 := by rw [Int.gcd_comm]; exact co
  have d2 : u ∣ B := dvd_co (b := t) ⟨A, by rw [e, Int.mul_comm]⟩ co'
  obtain ⟨k, hk⟩ := d2
  have k0 : 0 < k := by
    rcases Int.lt_or_le 0 k with z | z
    · exact z
    · have := Int.mul_nonneg_of_nonpos_of_nonpos (show -u ≤ 0 by omega) z
      have e2 : -u * k = -(u * k) := Int.neg_mul ..
      omega
  have e1 : A = t * k := by
    have : A * u = (t * k) * u := by
      rw [← e, hk]
      simp only [Int.mul_assoc, Int.mul_comm, Int.mul_left_comm]
    exact Int.eq_of_mul_eq_mul_right (by omega) this
  refine ⟨hu, e, co, ?_, ?_⟩
  · rw [e1, Int.natAbs_mul]
    exact Nat.le_mul_of_pos_right _ (by omega)
  · rw [hk, Int.natAbs_mul]
    exact Nat.le_mul_of_pos_right _ (by omega)
def qadd (x y : Q2) : Q2 := (x.1 * y.2 + y.1 * x.2, x.2 * y.2)
def qsub (x y : Q2) : Q2 := (x.1 * y.2 - y.1 * x.2, x.2 * y.2)
def qmul (x y : Q2) : Q2 := (x.1 * y.1, x.2 * y.2)
def qprt (x : Q2) (m : Int) : Q2 := (x.1 * sgn m, x.2 * (m * sgn m))
def qmk (a b : Int) : Q2 := (a * sgn b, b * sgn b)
theorem sgn_pos {m : Int} (h : m ≠ 0) : 0 < m * sgn m := by
  unfold sgn; split
  · omega
  · rw [Int.mul_neg_one]; omega
structure QAt (C : Addr) (H : Hp) (p : Addr) (k : Nat) (x : Q2) : Prop where
  ob : ∃ t u, MAt C H p t u ∧ Fr t u x.1 x.2
  pos : 0 < x.2
  s1 : Sz k x.1
  s2 : Sz k x.2
theorem QAt.same {C p : Addr} {H H' : Hp} {k : Nat} {x : Q2} (h : QAt C H p k x) (s : Same H H') : QAt C H' p k x := by
  obtain ⟨⟨t, u, m, f⟩, h1, h2, h3⟩ := h
  exact ⟨⟨t, u, m.same s, f⟩, h1, h2, h3⟩
theorem QAt.mono {C p : Addr} {H : Hp} {k j : Nat} {x : Q2} (h : QAt C H p k x) (l : k ≤ j) : QAt C H p j x := ⟨h.ob, h.pos, h.s1.mono l, h.s2.mono l⟩
theorem QAt.kp {C p hd : Addr} {H H' : Hp} {n k : Nat} {x : Q2} (h : QAt C H p k x) (hh : HandAt H hd n) (s : Kp hd H H') : QAt C H' p k x := by
  obtain ⟨⟨t, u, m, f⟩, h1, h2, h3⟩ := h
  exact ⟨⟨t, u, m.kp hh s, f⟩, h1, h2, h3⟩
theorem QAt.nl {C p : Addr} {H H' : Hp} {k : Nat} {x : Q2} (h : QAt C H p k x) (s : Nl H H') : QAt C H' p k x := by
  obtain ⟨⟨t, u, ⟨d, m⟩, f⟩, h1, h2, h3⟩ := h
  exact ⟨⟨t, u, ⟨d, s _ _ m rfl⟩, f⟩, h1, h2, h3⟩
section
variable {C p q : Addr} {H : Hp} {Q : VK} {E : XK} {k j : Nat} {x y : Q2}
theorem QAt.raw (h : QAt C H p k x) {m : Str} (h1 : ¬ m = "top") (h2 : ¬ m = "bottom") : ∃ dx fs, H p = some (.ins C dx fs) ∧ fs.lookup m = none := by
  obtain ⟨⟨t, u, ⟨d, m⟩, f⟩, _⟩ := h
  exact ⟨d, _, m, mf_no _ _ h1 h2⟩
theorem q_add (hx : QAt C H p k x) (hy : QAt C H q j y) (l : k + j ≤ 8900) (l0 : 0 < k) (l1 : 0 < j) (f : ∀ (r : Addr) (H' : Hp), Same H H' → QAt C H' r (k + j + 1) (qadd x y) → Q (.ref r) H') :
    sp_bin2 C (fun t u t' u' => t * u' + t' * u) (fun t u t' u' => u * u') [.ref p, .ref q] H Q E := by
  obtain ⟨⟨t, u, m1, f1⟩, px, a1, a2⟩ := hx
  obtain ⟨⟨t', u', m2, f2⟩, py, b1, b2⟩ := hy
  refine ⟨p, q, t, u, t', u', rfl, m1, m2, f1.pos, f2.pos, (a1.le f1.lt).mono (by omega), (a2.le f1.lu).mono (by omega), (b1.le f2.lt).mono (by omega), (b2.le f2.lu).mono (by omega), ((a2.le f1.lu).mul (b2.le f2.lu)).mono (by omega), fun r t2 u2 H' _ s m f3 => ?_⟩
  refine f r H' s ⟨⟨t2, u2, m, fr_of f3.pos f3.co (Int.mul_pos px py) ?_⟩, Int.mul_pos px py, (a1.mul b2).add ((b1.mul a2).mono (by omega)), (a2.mul b2).mono (by omega)⟩
  have e1 := f1.eq
  have e2 := f2.eq
  have e3 := f3.eq
  have z : (t2 * (x.2 * y.2)) * (u * u') = ((x.1 * y.2 + y.1 * x.2) * u2) * (u * u') := by
    have : (t2 * (x.2 * y.2)) * (u * u') = (t2 * (u * u')) * (x.2 * y.2) := by grind
    rw [this, e3]
    have w1 : (t * u' + t' * u) * u2 * (x.2 * y.2) = ((t * x.2) * u' * y.2 + (t' * y.2) * u * x.2) * u2 := by grind
    rw [w1, e1, e2]
    grind
  have pu := Int.mul_pos f1.pos f2.pos
  exact Int.eq_of_mul_eq_mul_right (by omega) z
theorem q_sub (hx : QAt C H p k x) (hy : QAt C H q j y) (l : k + j ≤ 8900) (l0 : 0 < k) (l1 : 0 < j) (f : ∀ (r : Addr) (H' : Hp), Same H H' → QAt C H' r (k + j + 1) (qsub x y) → Q (.ref r) H') :
    sp_bin2 C (fun t u t' u' => t * u' - t' * u) (fun t u t' u' => u * u') [.ref p, .ref q] H Q E := by
  obtain ⟨⟨t, u, m1, f1⟩, px, a1, a2⟩ := hx
  obtain ⟨⟨t', u', m2, f2⟩, py, b1, b2⟩ := hy
  refine ⟨p, q, t, u, t', u', rfl, m1, m2, f1.pos, f2.pos, (a1.le f1.lt).mono (by omega), (a2.le f1.lu).mono (by omega), (b1.le f2.lt).mono (by omega), (b2.le f2.lu).mono (by omega), ((a2.le f1.lu).mul (b2.le f2.lu)).mono (by omega), fun r t2 u2 H' _ s m f3 => ?_⟩
  refine f r H' s ⟨⟨t2, u2, m, fr_of f3.pos f3.co (Int.mul_pos px py) ?_⟩, Int.mul_pos px py, (a1.mul b2).sub ((b1.mul a2).mono (by omega)), (a2.mul b2).mono (by omega)⟩
  have e1 := f1.eq
  have e2 := f2.eq
  have e3 := f3.eq
  have z : (t2 * (x.2 * y.2)) * (u * u') = ((x.1 * y.2 - y.1 * x.2) * u2) * (u * u') := by
    have : (t2 * (x.2 * y.2)) * (u * u') = (t2 * (u * u')) * (x.2 * y.2) := by grind
    rw [this, e3]
    have w1 : (t * u' - t' * u) * u2 * (x.2 * y.2) = ((t * x.2) * u' * y.2 - (t' * y.2) * u * x.2) * u2 := by grind
    rw [w1, e1, e2]
    grind
  have pu := Int.mul_pos f1.pos f2.pos
  exact Int.eq_of_mul_eq_mul_right (by omega) z
theorem q_mul (hx : QAt C H p k x) (hy : QAt C H q j y) (l : k + j ≤ 8900) (l0 : 0 < k) (l1 : 0 < j) (f : ∀ (r : Addr) (H' : Hp), Same H H' → QAt C H' r (k + j + 1) (qmul x y) → Q (.ref r) H') :
    sp_bin2 C (fun t u t' u' => t * t') (fun t u t' u' => u * u') [.ref p, .ref q] H Q E := by
  obtain ⟨⟨t, u, m1, f1⟩, px, a1, a2⟩ := hx
  obtain ⟨⟨t', u', m2, f2⟩, py, b1, b2⟩ := hy
  refine ⟨p, q, t, u, t', u', rfl, m1, m2, f1.pos, f2.pos, (a1.le f1.lt).mono (by omega), (a2.le f1.lu).mono (by omega), (b1.le f2.lt).mono (by omega), (b2.le f2.lu).mono (by omega), ((a2.le f1.lu).mul (b2.le f2.lu)).mono (by omega), fun r t2 u2 H' _ s m f3 => ?_⟩
  refine f r H' s ⟨⟨t2, u2, m, fr_of f3.pos f3.co (Int.mul_pos px py) ?_⟩, Int.mul_pos px py, (a1.mul b1).mono (by omega), (a2.mul b2).mono (by omega)⟩
  have e1 := f1.eq
  have e2 := f2.eq
  have e3 := f3.eq
  have z : (t2 * (x.2 * y.2)) * (u * u') = ((x.1 * y.1) * u2) * (u * u') := by
    have : (t2 * (x.2 * y.2)) * (u * u') = (t2 * (u * u')) * (x.2 * y.2) := by grind
    rw [this, e3]
    have w1 : (t * t') * u2 * (x.2 * y.2) = (t * x.2) * (t' * y.2) * u2 := by grind
    rw [w1, e1, e2]
    grind
  have pu := Int.mul_pos f1.pos f2.pos
  exact Int.eq_of_mul_eq_mul_right (by omega) z
theorem q_mk {a b t u : Int} {H' : Hp} (m : MAt C H' p t u) (f : Fr t u a b) (hb : b ≠ 0) (sa : Sz k a) (sb : Sz k b) : QAt C H' p k (qmk a b) := by
  have pm := sgn_pos hb
  have sgnN : (sgn b).natAbs = 1 := by rcases sgn_cases b with e | e <;> rw [e] <;> rfl
  refine ⟨⟨t, u, m, fr_of f.pos f.co pm ?_⟩, pm, sa.le (by show (a * sgn b).natAbs ≤ _; rw [Int.natAbs_mul, sgnN, Nat.mul_one]; exact Nat.le_refl _), sb.le (by show (b * sgn b).natAbs ≤ _; rw [Int.natAbs_mul, sgnN, Nat.mul_one]; exact Nat.le_refl _)⟩
  show t * (b * sgn b) = a * sgn b * u
  have e := f.eq
  have : t * (b * sgn b) = (t * b) * sgn b := by grind
  rw [this, e]
  grind
theorem q_below {al : Bool} (hx : QAt C H p k x) (hy : QAt C H q j y) (l : k ≤ 9000) (l1 : j ≤ 9000) (f : Q (.bl (ltq x y || (al && eqq x y))) H) : sp_below C [.ref p, .ref q, .bl al] H Q E := by
  obtain ⟨⟨t, u, m1, f1⟩, px, a1, a2⟩ := hx
  obtain ⟨⟨t', u', m2, f2⟩, py, b1, b2⟩ := hy
  refine ⟨p, q, t, u, t', u', al, rfl, m1, m2, (a1.le f1.lt).mono l, (a2.le f1.lu).mono l, (b1.le f2.lt).mono l1, (b2.le f2.lu).mono l1, ?_⟩
  have r1 : Re (t, u) x := ⟨f1.pos, px, f1.eq⟩
  have r2 : Re (t', u') y := ⟨f2.pos, py, f2.eq⟩
  have e : lessA t u t' u' al = (ltq x y || (al && eqq x y)) := by
    rw [← ltq_congr r1 r2, ← eqq_congr r1 r2]
    rfl
  rw [e]
  exact f
end
/-! the same, behind the arguments -/
section
variable {C p q : Addr} {H : Hp} {Q : VK} {E : XK} {k j : Nat} {x y : Q2} {σ : L2.St}
theorem q_addT (hx : QAt C H p k x) (hy : QAt C H q j y) (l : k + j ≤ 8900) (l0 : 0 < k) (l1 : 0 < j) (f : ∀ (r : Addr) (H' : Hp), Same H H' → QAt C H' r (k + j + 1) (qadd x y) → Q (.ref r) H') :
    tNil σ H (fun xs H2 => sp_bin2 C (fun t u t' u' => t * u' + t' * u) (fun t u t' u' => u * u') (.ref p :: ((.ref q :: xs) ++ [])) H2 Q E) := q_add (E := E) hx hy l l0 l1 f
theorem q_subT (hx : QAt C H p k x) (hy : QAt C H q j y) (l : k + j ≤ 8900) (l0 : 0 < k) (l1 : 0 < j) (f : ∀ (r : Addr) (H' : Hp), Same H H' → QAt C H' r (k + j + 1) (qsub x y) → Q (.ref r) H') :
    tNil σ H (fun xs H2 => sp_bin2 C (fun t u t' u' => t * u' - t' * u) (fun t u t' u' => u * u') (.ref p :: ((.ref q :: xs) ++ [])) H2 Q E) := q_sub (E := E) hx hy l l0 l1 f
theorem q_mulT (hx : QAt C H p k x) (hy : QAt C H q j y) (l : k + j ≤ 8900) (l0 : 0 < k) (l1 : 0 < j) (f : ∀ (r : Addr) (H' : Hp), Same H H' → QAt C H' r (k + j + 1) (qmul x y) → Q (.ref r) H') :
    tNil σ H (fun xs H2 => sp_bin2 C (fun t u t' u' => t * t') (fun t u t' u' => u * u') (.ref p :: ((.ref q :: xs) ++ [])) H2 Q E) := q_mul (E := E) hx hy l l0 l1 f
theorem q_belowT (hx : QAt C H p k x) (hy : QAt C H q j y) (l : k ≤ 9000) (l1 : j ≤ 9000) (f : Q (.bl (ltq x y)) H) :
    tNil σ H (fun xs H2 => sp_below C (.ref p :: ((.ref q :: xs) ++ [.bl false])) H2 Q E) := q_below (E := E) (al := false) hx hy l l1 (by rw [Bool.false_and, Bool.or_false]; exact f)
theorem q_belowA (hx : QAt C H p k x) (hy : QAt C H q j y) (l : k ≤ 9000) (l1 : j ≤ 9000) (f : Q (.bl (ltq x y || eqq x y)) H) :
    tCons (tC (.bl true)) tNil σ H (fun xs H2 => sp_below C (.ref p :: ((.ref q :: xs) ++ [])) H2 Q E) := q_below (E := E) (al := true) hx hy l l1 (by rw [Bool.true_and]; exact f)
end
/-! ### sums keep the order; the midst lies between -/
def qhalf (x y : Q2) : Q2 := qprt (qadd x y) 2
/-! ### numbers of at most twelve figures -/
/-! ### constants by their signs -/
/-! ### a comprehension over a text -/
end My
namespace My
open PySem PySem.Spec PyProof.Rows L2
/-! ### comprehensions over anything that is walked -/
section
variable {J : It} {n : Nat} {G : Hp → Prop} {Y : Nat → Hp → V → Hp → Prop} {g : TG} {tt : TT} {te : TE} {vs : List Nat} {σ : L2.St} {H1 : Hp} {D : Addr} {Qd : Hp → Prop}
/-- the elements are known: z some y is told, z none is left out -/
theorem lcz (w : Walk J n G Y) (hGs : ∀ H H', G H → Same H H' → G H') (zs : List (Option V)) (hlen : zs.length = n) (hz : n < sizeLine) (hG : G H1) (hD : H1 D = none)
    (hs : ∀ (i : Nat) (x : V) (H H' : Hp) (z : Option V) (N : VK) (M : Hp → Prop), i < n → zs[i]? = some z → Same H1 H → Y i H x H' → (∀ y H4, z = some y → Same H H4 → N y H4) → (∀ H4, z = none → Same H H4 → M H4) →
      g x (wipe σ vs) H' fun σ2 H2 => wipe σ2 vs = wipe σ vs ∧ tt σ2 H2 fun b H3 => if b = true then te σ2 H3 N else M H3)
    (hd : ∀ H, Same H1 H → H D = some (.lst (zs.filterMap _root_.id)) → Qd H) :
    ∃ W : Nat → Nat → Hp → Prop, (∃ m, W 0 m (upd H1 D (.lst []))) ∧ ∀ i m H, W i m H →
      (J.stop i H ∧ Qd H) ∨ (J.go i H ∧ ∃ Nx : Hp → Prop, (∀ H', Nx H' → ∃ m', m' < m ∧ W (i + 1) m' H') ∧ ∀ x H', J.yld i H x H' → g x (wipe σ vs) H' fun σ2 H2 => wipe σ2 vs = wipe σ vs ∧ tt σ2 H2 fun b H3 =>
        if b = true then te σ2 H3 fun y H4 => ∃ acc, H4 D = some (.lst acc) ∧ acc.length < sizeLine ∧ Nx (upd H4 D (.lst (acc ++ [y]))) else Nx H3) := by
  refine lc_it w (fun i H => Same H1 H ∧ H D = some (.lst ((zs.take i).filterMap _root_.id))) ⟨same1 hD, upd_same⟩ (fun i H _ p => hGs _ _ hG p.1) (fun i x H H' hi p y => ?_) (fun H p => hd H p.1 ?_)
  · have hi2 : i < zs.length := by omega
    have tk : ∀ z, zs[i]? = some z → (zs.take (i + 1)).filterMap _root_.id = (zs.take i).filterMap _root_.id ++ z.toList := fun z e => by
      rw [List.take_add_one, e, List.filterMap_append]
      cases z <;> rfl
    have ez : zs[i]? = some zs[i] := List.getElem?_eq_getElem hi2
    refine hs i x H H' zs[i] _ _ hi ez p.1 y (fun v H4 e s4 => ⟨_, s4 _ _ p.2, ?_, ?_, ?_⟩) (fun H4 e s4 => ⟨p.1.trans s4, ?_⟩)
    · refine Nat.lt_of_le_of_lt (List.length_filterMap_le _ _) ?_
      rw [List.length_take]; omega
    · intro c o ec
      rw [upd_ne (ne_of_none ec hD)]
      exact s4 _ _ (p.1 _ _ ec)
    · rw [upd_same, tk _ ez, e]
      rfl
    · rw [tk _ ez, e, Option.toList_none, List.append_nil]
      exact s4 _ _ p.2
  · have e := p.2
    rw [← hlen, List.take_length] at e
    exact e
/-- the elements are told by what holds of them -/
theorem lcr (w : Walk J n G Y) (hGs : ∀ H H', G H → Same H H' → G H') (R : Nat → Hp → V → Prop) (hR : ∀ i H H' y, R i H y → Nl H H' → R i H' y) (hz : n < sizeLine) (hG : G H1) (hD : H1 D = none)
    (hs : ∀ (i : Nat) (x : V) (H H' : Hp) (N : VK) (M : Hp → Prop), i < n → Same H1 H → Y i H x H' → (∀ y H4, Same H H4 → R i H4 y → N y H4) →
      g x (wipe σ vs) H' fun σ2 H2 => wipe σ2 vs = wipe σ vs ∧ tt σ2 H2 fun b H3 => if b = true then te σ2 H3 N else M H3)
    (hd : ∀ H ys, Same H1 H → H D = some (.lst ys) → ys.length = n → (∀ i y, ys[i]? = some y → R i H y) → Qd H) :
    ∃ W : Nat → Nat → Hp → Prop, (∃ m, W 0 m (upd H1 D (.lst []))) ∧ ∀ i m H, W i m H →
      (J.stop i H ∧ Qd H) ∨ (J.go i H ∧ ∃ Nx : Hp → Prop, (∀ H', Nx H' → ∃ m', m' < m ∧ W (i + 1) m' H') ∧ ∀ x H', J.yld i H x H' → g x (wipe σ vs) H' fun σ2 H2 => wipe σ2 vs = wipe σ vs ∧ tt σ2 H2 fun b H3 =>
        if b = true then te σ2 H3 fun y H4 => ∃ acc, H4 D = some (.lst acc) ∧ acc.length < sizeLine ∧ Nx (upd H4 D (.lst (acc ++ [y]))) else Nx H3) := by
  refine lc_it w (fun i H => Same H1 H ∧ ∃ ys, H D = some (.lst ys) ∧ ys.length = i ∧ ∀ j y, ys[j]? = some y → R j H y) ⟨same1 hD, [], upd_same, rfl, fun j y hy => by simp at hy⟩ (fun i H _ p => hGs _ _ hG p.1) (fun i x H H' hi p y => ?_) (fun H p => ?_)
  · obtain ⟨s1, ys, h1, h2, h3⟩ := p
    refine hs i x H H' _ _ hi s1 y (fun v H4 s4 r4 => ⟨ys, s4 _ _ h1, by omega, ?_, ys ++ [v], upd_same, by rw [List.length_append, h2]; rfl, ?_⟩)
    · intro c o ec
      rw [upd_ne (ne_of_none ec hD)]
      exact s4 _ _ (s1 _ _ ec)
    · intro j z hj
      have n4 : Nl H4 (upd H4 D (.lst (ys ++ [v]))) := Nl.put (s4 _ _ h1)
      by_cases hlt : j < ys.length
      · rw [List.getElem?_append_left hlt] at hj
        exact hR _ _ _ _ (hR _ _ _ _ (h3 j z hj) (Nl.of s4)) n4
      · have hj2 : j = ys.length := by
          have := (List.getElem?_eq_some_iff.mp hj).1
          rw [List.length_append, List.length_singleton] at this
          omega
        subst hj2
        rw [List.getElem?_append_right (Nat.le_refl _), Nat.sub_self] at hj
        cases hj
        rw [h2]
        exact hR _ _ _ _ r4 n4
  · obtain ⟨s1, ys, h1, h2, h3⟩ := p
    exact hd H ys s1 h1 h2 h3
end
/-! ### several Measures -/
/-- the values ps are Measures of the fractions zs -/
structure Mks (C : Addr) (H : Hp) (k : Nat) (ps : List V) (zs : List Q2) : Prop where
  len : ps.length = zs.length
  all : ∀ (i : Nat) (v : V) (z : Q2), ps[i]? = some v → zs[i]? = some z → ∃ p, v = V.ref p ∧ QAt C H p k z
section
variable {C : Addr} {H H' : Hp} {k : Nat} {ps : List V} {zs : List Q2} {v : V}
theorem Mks.same (m : Mks C H k ps zs) (s : Same H H') : Mks C H' k ps zs := ⟨m.len, fun i v z h1 h2 => by
  obtain ⟨p, e, q⟩ := m.all i v z h1 h2
  exact ⟨p, e, q.same s⟩⟩
theorem Mks.kp {hd : Addr} {n : Nat} (m : Mks C H k ps zs) (hh : HandAt H hd n) (s : Kp hd H H') : Mks C H' k ps zs := ⟨m.len, fun i v z h1 h2 => by
  obtain ⟨p, e, q⟩ := m.all i v z h1 h2
  exact ⟨p, e, q.kp hh s⟩⟩
theorem Mks.at (m : Mks C H k ps zs) {i : Nat} {z : Q2} (h : zs[i]? = some z) : ∃ p, ps[i]? = some (.ref p) ∧ QAt C H p k z := by
  have hi : i < ps.length := by rw [m.len]; exact (List.getElem?_eq_some_iff.mp h).1
  obtain ⟨p, e, q⟩ := m.all i _ z (List.getElem?_eq_getElem hi) h
  exact ⟨p, by rw [List.getElem?_eq_getElem hi, e], q⟩
theorem Mks.of (m : Mks C H k ps zs) {i : Nat} {v : V} (h : ps[i]? = some v) : ∃ p z, v = .ref p ∧ zs[i]? = some z ∧ QAt C H p k z := by
  have hi : i < zs.length := by rw [← m.len]; exact (List.getElem?_eq_some_iff.mp h).1
  obtain ⟨p, e, q⟩ := m.all i v _ h (List.getElem?_eq_getElem hi)
  exact ⟨p, _, e, List.getElem?_eq_getElem hi, q⟩
/-- None, or a Measure -/
def QO (C : Addr) (H : Hp) (k : Nat) (v : V) : Option Q2 → Prop
  | none => v = .non
  | some z => ∃ p, v = .ref p ∧ QAt C H p k z
theorem QO.same : ∀ {e : Option Q2}, QO C H k v e → Same H H' → QO C H' k v e
  | none, h, _ => h
  | some _, ⟨p, h1, h2⟩, s => ⟨p, h1, h2.same s⟩
theorem QO.kp {hd : Addr} {n : Nat} : ∀ {e : Option Q2}, QO C H k v e → HandAt H hd n → Kp hd H H' → QO C H' k v e
  | none, h, _, _ => h
  | some _, ⟨p, h1, h2⟩, hh, s => ⟨p, h1, h2.kp hh s⟩
/-- the exact numbers of such a Measure -/
theorem QAt.low {p : Addr} {z : Q2} (q : QAt C H p k z) (l : k ≤ 4000) : ∃ a : Q2, MAt C H p a.1 a.2 ∧ Low a ∧ Re a z := by
  obtain ⟨⟨t, u, m, f⟩, h1, h2, h3⟩ := q
  exact ⟨(t, u), m, ⟨f.pos, f.co, (h2.le f.lt).mono l, (h3.le f.lu).mono l⟩, f.pos, h1, f.eq⟩
theorem QO.low (l : k ≤ 4000) : ∀ {e : Option Q2}, QO C H k v e → ∃ m, MsV C H v m ∧ LowO m ∧ ReO m e
  | none, h => ⟨none, h, trivial, trivial⟩
  | some _, ⟨p, h1, h2⟩ => by
    obtain ⟨a, ma, la, ra⟩ := h2.low l
    exact ⟨some a, ⟨p, h1, ma⟩, la, ra⟩
theorem QAt.of {p : Addr} {a z : Q2} (m : MAt C H p a.1 a.2) (l : Low a) (r : Re a z) (s1 : Sz k z.1) (s2 : Sz k z.2) : QAt C H p k z :=
  ⟨⟨a.1, a.2, m, fr_of l.pos l.co r.2.1 r.2.2⟩, r.2.1, s1, s2⟩
end
/-! ### a Ladder -/
def lf (T : V) (r : Str) (l h : V) : List (Str × V) := [("marks", T), ("rule", .str r), ("least", l), ("most", h)]
theorem lf_put (T : V) (r : Str) (l h : V) : putF "most" h (putF "least" l (putF "rule" (.str r) (putF "marks" T []))) = lf T r l h := by
  have e1 : putF ("rule" : Str) (.str r) (putF ("marks" : Str) T []) = ([("marks", T), ("rule", .str r)] : List (Str × V)) := by
    show (if ("marks" : Str) = "rule" then [(("marks" : Str), V.str r)] else (("marks" : Str), T) :: putF "rule" (.str r) []) = _
    rw [if_neg (by decide +kernel)] <;> rfl
  have e2 : putF ("least" : Str) l [("marks", T), ("rule", .str r)] = ([("marks", T), ("rule", .str r), ("least", l)] : List (Str × V)) := by
    show (if ("marks" : Str) = "least" then _ else (("marks" : Str), T) :: (if ("rule" : Str) = "least" then _ else (("rule" : Str), V.str r) :: putF "least" l [])) = _
    rw [if_neg (by decide +kernel), if_neg (by decide +kernel)] <;> rfl
  have e3 : putF ("most" : Str) h [("marks", T), ("rule", .str r), ("least", l)] = lf T r l h := by
    show (if ("marks" : Str) = "most" then _ else (("marks" : Str), T) :: (if ("rule" : Str) = "most" then _ else (("rule" : Str), V.str r) :: (if ("least" : Str) = "most" then _ else (("least" : Str), l) :: putF "most" h []))) = _
    rw [if_neg (by decide +kernel), if_neg (by decide +kernel), if_neg (by decide +kernel)] <;> rfl
  rw [e1, e2, e3]
section
variable (T : V) (r : Str) (l h : V)
theorem lf_marks : (lf T r l h).lookup ("marks" : Str) = some T := by
  rw [← lf_put, lookup_putF, if_neg (by decide +kernel), lookup_putF, if_neg (by decide +kernel), lookup_putF, if_neg (by decide +kernel), lookup_putF, if_pos rfl]
theorem lf_rule : (lf T r l h).lookup ("rule" : Str) = some (.str r) := by
  rw [← lf_put, lookup_putF, if_neg (by decide +kernel), lookup_putF, if_neg (by decide +kernel), lookup_putF, if_pos rfl]
theorem lf_least : (lf T r l h).lookup ("least" : Str) = some l := by
  rw [← lf_put, lookup_putF, if_neg (by decide +kernel), lookup_putF, if_pos rfl]
theorem lf_most : (lf T r l h).lookup ("most" : Str) = some h := by
  rw [← lf_put, lookup_putF, if_pos rfl]
theorem lf_no {m : Str} (h1 : ¬ m = "marks") (h2 : ¬ m = "rule") (h3 : ¬ m = "least") (h4 : ¬ m = "most") : (lf T r l h).lookup m = none := by
  rw [← lf_put, lookup_putF, if_neg h4, lookup_putF, if_neg h3, lookup_putF, if_neg h2, lookup_putF, if_neg h1] <;> rfl
end
/-- rows that rise -/
def RiseQ (zs : List Q2) : Prop := ∀ i a b, zs[i]? = some a → zs[i + 1]? = some b → ltq a b = true
/-- the first row that isn't above the one ahead -/
def SlipQ (zs : List Q2) : Option Nat → Prop
  | none => RiseQ zs
  | some n => 1 ≤ n ∧ n < zs.length ∧ (∀ a b, zs[n - 1]? = some a → zs[n]? = some b → ltq a b = false) ∧ ∀ i a b, i + 1 < n → zs[i]? = some a → zs[i + 1]? = some b → ltq a b = true
def optI : Option Nat → V
  | none => .non
  | some n => .int (n : Int)
def leq (a b : Q2) : Bool := ltq a b || eqq a b
/-- least isn't above most -/
def spanB : Option Q2 → Option Q2 → Bool
  | some a, some b => !ltq b a
  | _, _ => true
def IsRule (r : Str) : Prop := r = "up" ∨ r = "down" ∨ r = "near"
structure LadAt (K : PySem.W.Frag) (CM CL : Addr) (H : Hp) (p : Addr) (k : Nat) (zs : List Q2) (r : Str) (lo hi : Option Q2) : Prop where
  ob : ∃ dx T ps l h, H p = some (.ins CL dx (lf (.ref T) r l h)) ∧ SqT K H T ps ∧ Mks CM H k ps zs ∧ QO CM H k l lo ∧ QO CM H k h hi
  len0 : 0 < zs.length
  len1 : zs.length ≤ 24
  rise : RiseQ zs
  rule : IsRule r
  span : spanB lo hi = true
theorem LadAt.same {K : PySem.W.Frag} {CM CL p : Addr} {H H' : Hp} {k : Nat} {zs : List Q2} {r : Str} {lo hi : Option Q2} (a : LadAt K CM CL H p k zs r lo hi) (s : Same H H') : LadAt K CM CL H' p k zs r lo hi := by
  obtain ⟨⟨dx, T, ps, l, h, h1, h2, h3, h4, h5⟩, a1, a2, a3, a4, a5⟩ := a
  exact ⟨⟨dx, T, ps, l, h, s _ _ h1, s.sqt h2, h3.same s, h4.same s, h5.same s⟩, a1, a2, a3, a4, a5⟩
theorem LadAt.raw {K : PySem.W.Frag} {CM CL p : Addr} {H : Hp} {k : Nat} {zs : List Q2} {r : Str} {lo hi : Option Q2} (a : LadAt K CM CL H p k zs r lo hi) {m : Str} (h1 : ¬ m = "marks") (h2 : ¬ m = "rule") (h3 : ¬ m = "least") (h4 : ¬ m = "most") : ∃ dx fs, H p = some (.ins CL dx fs) ∧ fs.lookup m = none := by
  obtain ⟨⟨dx, T, ps, l, h, e1, _⟩, _⟩ := a
  exact ⟨dx, _, e1, lf_no _ _ _ _ h1 h2 h3 h4⟩
/-- the midsts of neighbours -/
def midq : List Q2 → List Q2
  | a :: b :: r => qhalf a b :: midq (b :: r)
  | _ => []
theorem atI_of {xs : List V} {z : Int} {n : Nat} {v : V} (e : z = (n : Int)) (h : xs[n]? = some v) : atI xs z = some v := by
  rw [e]; exact atI_nat h
theorem ge2 {n : Nat} {zs : List Q2} (h : n < zs.length) : ∃ a, zs[n]? = some a := ⟨_, List.getElem?_eq_getElem h⟩
/-- a constant of the module: a tuple of texts -/
def strsOf : List Value → Option (List Str)
  | [] => some []
  | .str x _ :: r => (strsOf r).map (x :: ·)
  | _ => none
theorem strsOf_ok : ∀ {l : List Value} {ss : List Str}, strsOf l = some ss → Vals (ss.map V.str) l
  | [], ss, h => by cases h; exact .nil
  | .str x t :: r, ss, h => by
    cases e : strsOf r with
    | none => simp [strsOf, e] at h
    | some l =>
      simp [strsOf, e] at h
      subst h
      exact .cons ⟨t, rfl⟩ (strsOf_ok e)
def tupB (x : Str) (ss : List Str) : PySem.W.Frag → Bool := fun K => match K.lookup (He.ga K x) with
  | some ⟨.type "tuple", _, .seq its _, _⟩ => decide (its.size ≤ sizeLine) && decide (strsOf its.toList = some ss)
  | _ => false
theorem tup_ok {x : Str} {ss : List Str} {K : PySem.W.Frag} (c : tupB x ss K = true) : ∀ H, SqT K H (He.ga K x) (ss.map V.str) := by
  intro H
  unfold tupB at c
  split at c
  · rename_i d its n sl e
    obtain ⟨c1, c2⟩ := He.ba c
    exact .inr ⟨_, its, n, e, rfl, rfl, of_decide_eq_true c1, strsOf_ok (of_decide_eq_true c2)⟩
  · cases c
theorem tyTup {K : PySem.W.Frag} {H : Hp} {T : Addr} {ps : List V} (h : SqT K H T ps) : TyX K H (.ref T) (.type "tuple") := by
  rcases h with (h | ⟨o, h⟩) | ⟨o, its, n, h, c, _⟩
  · exact .base (.tup h)
  · exact .fTuple h
  · exact .kTuple h c
/-! ### what the defs of ladders promise -/
def sp_slip (K : PySem.W.Frag) (CM : Addr) : Sp := fun vs H Q _ => ∃ (T : Addr) (k : Nat) (ps : List V) (zs : List Q2), vs = [.ref T] ∧ SqT K H T ps ∧ Mks CM H k ps zs ∧ k ≤ 9000 ∧ zs.length ≤ 1000 ∧ ∀ o, SlipQ zs o → Q (optI o) H
def sp_isendQ (CM : Addr) : Sp := fun vs H Q _ => ∃ (v : V) (k : Nat) (e : Option Q2), vs = [v] ∧ QO CM H k v e ∧ Q (.bl true) H
def sp_arem (K : PySem.W.Frag) (CM : Addr) : Sp := fun vs H Q _ => ∃ (T : Addr) (k : Nat) (ps : List V) (zs : List Q2), vs = [.ref T] ∧ SqT K H T ps ∧ Mks CM H k ps zs ∧ 0 < zs.length ∧ zs.length ≤ 24 ∧ ∀ H', Same H H' → Q (.bl true) H'
def sp_isrule : Sp := fun vs H Q _ => ∃ r : Str, vs = [.str r] ∧ IsRule r ∧ Q (.bl true) H
def sp_linit (K : PySem.W.Frag) (CM CL : Addr) : Sp := fun vs H Q _ => ∃ (p dx T : Addr) (k : Nat) (ps : List V) (zs : List Q2) (r : Str) (l h : V) (lo hi : Option Q2), vs = [.ref p, .ref T, .str r, l, h] ∧ H p = some (.ins CL dx []) ∧ SqT K H T ps ∧ Mks CM H k ps zs ∧ k ≤ 4000 ∧ 0 < zs.length ∧ zs.length ≤ 24 ∧ RiseQ zs ∧ IsRule r ∧
  QO CM H k l lo ∧ QO CM H k h hi ∧ spanB lo hi = true ∧ ∀ H', H' p = some (.ins CL dx (lf (.ref T) r l h)) → (∀ q o, H q = some o → q ≠ p → H' q = some o) → Q .non H'
/-- a Ladder is made -/
theorem lad_made {K : PySem.W.Frag} {CM CL T : Addr} {H : Hp} {Qa : Addr → Hp → Prop} {E : XK} {k : Nat} {ps : List V} {zs : List Q2} {r : Str} {l h : V} {lo hi : Option Q2} (hT : SqT K H T ps) (hm : Mks CM H k ps zs) (hk : k ≤ 4000) (l0 : 0 < zs.length) (l1 : zs.length ≤ 24) (ri : RiseQ zs) (ru : IsRule r)
    (q1 : QO CM H k l lo) (q2 : QO CM H k h hi) (sp : spanB lo hi = true) (f : ∀ (p : Addr) (H' : Hp), H p = none → Same H H' → LadAt K CM CL H' p k zs r lo hi → (∃ dx, H' p = some (.ins CL dx (lf (.ref T) r l h))) → Qa p H') :
    ∀ x dx, H x = none → H dx = none → dx ≠ x → sp_linit K CM CL [.ref x, .ref T, .str r, l, h] (upd (upd H dx (.own x)) x (.ins CL dx [])) (fun v H2 => v = .non ∧ Qa x H2) E := by
  intro x dx nx nd ne
  have s0 : Same H (upd (upd H dx (.own x)) x (.ins CL dx [])) := fun c o e => by
    rw [upd_ne (ne_of_none e nx)]
    exact up1 nd e
  refine ⟨x, dx, T, k, ps, zs, r, l, h, lo, hi, rfl, upd_same, s0.sqt hT, hm.same s0, hk, l0, l1, ri, ru, q1.same s0, q2.same s0, sp, fun H' hx kp => ⟨rfl, ?_⟩⟩
  have s1 : Same H H' := made_same nx nd kp
  exact f x H' nx s1 ⟨⟨dx, T, ps, l, h, hx, s1.sqt hT, hm.same s1, q1.same s1, q2.same s1⟩, l0, l1, ri, ru, sp⟩ ⟨dx, hx⟩
theorem iteDT {c A B : Prop} [Decidable c] (hc : c) (h : A) : if decide c = true then A else B := by
  rw [if_pos (decide_eq_true hc)]; exact h
theorem iteDF {c A B : Prop} [Decidable c] (hc : ¬ c) (h : B) : if decide c = true then A else B := by
  rw [if_neg (by simpa using hc)]; exact h
theorem iteNT {c A B : Prop} [Decidable c] (hc : ¬ c) (h : A) : if (!decide c) = true then A else B := by
  rw [if_pos (by simpa using hc)]; exact h
section
variable {C H p k} {m : Str} {R : Prop}
theorem meth_q {x : Q2} (q : QAt C H p k x) (h1 : ¬ m = "top") (h2 : ¬ m = "bottom") (h : R) : ∃ a dx fs, V.ref p = .ref a ∧ H a = some (.ins C dx fs) ∧ fs.lookup m = none ∧ R := by
  obtain ⟨dx, fs, e1, e2⟩ := q.raw h1 h2
  exact ⟨p, dx, fs, rfl, e1, e2, h⟩
theorem meth_l {K : PySem.W.Frag} {CM : Addr} {zs : List Q2} {r : Str} {lo hi : Option Q2} (q : LadAt K CM C H p k zs r lo hi) (h1 : ¬ m = "marks") (h2 : ¬ m = "rule") (h3 : ¬ m = "least") (h4 : ¬ m = "most") (h : R) : ∃ a dx fs, V.ref p = .ref a ∧ H a = some (.ins C dx fs) ∧ fs.lookup m = none ∧ R := by
  obtain ⟨dx, fs, e1, e2⟩ := q.raw h1 h2 h3 h4
  exact ⟨p, dx, fs, rfl, e1, e2, h⟩
theorem meth_s {CM : Addr} {lo hi : Option Q2} {li hj : Bool} (q : StAt CM C H p lo hi li hj) (h1 : ¬ m = "low") (h2 : ¬ m = "high") (h3 : ¬ m = "low_in") (h4 : ¬ m = "high_in") (h : R) : ∃ a dx fs, V.ref p = .ref a ∧ H a = some (.ins C dx fs) ∧ fs.lookup m = none ∧ R := by
  obtain ⟨dx, fs, e1, e2⟩ := q.raw h1 h2 h3 h4
  exact ⟨p, dx, fs, rfl, e1, e2, h⟩
end
end My
namespace K73
open PySem PySem.Spec PyProof.Rows L2 My
/-! ### the text by places -/
def topS (i : Nat) : Stmt := PySem.Challenge.pw_sizeladders_k73_whole_stock_and_pairs.main.body.getD i (.Pass ⟨0, 0, 0, 0⟩)
abbrev s_is_whole : Stmt := (topS 8)
abbrev s_is_number : Stmt := (topS 9)
abbrev s_is_tuple_of : Stmt := (topS 10)
abbrev s_are_wholes : Stmt := (topS 11)
abbrev s_all_below : Stmt := (topS 12)
abbrev s_are_rising : Stmt := (topS 13)
abbrev s_is_word : Stmt := (topS 14)
abbrev s_common_part : Stmt := (topS 16)
abbrev s_Measure_init : Stmt := (inClass (topS 18) 0)
abbrev s_Measure_plus : Stmt := (inClass (topS 18) 4)
abbrev s_Measure_minus : Stmt := (inClass (topS 18) 5)
abbrev s_Measure_times : Stmt := (inClass (topS 18) 6)
abbrev s_Measure_is_below : Stmt := (inClass (topS 18) 8)
abbrev s_is_measure_or_none : Stmt := (topS 19)
abbrev s_measure_or : Stmt := (topS 20)
abbrev s_fits : Stmt := (topS 22)
abbrev s_fitting_of : Stmt := (topS 23)
abbrev s_first_bare : Stmt := (topS 24)
abbrev s_fewest_of : Stmt := (topS 25)
abbrev s_stock_for : Stmt := (topS 26)
abbrev s_slip_of : Stmt := (topS 28)
abbrev s_are_marks : Stmt := (topS 32)
abbrev s_is_rule : Stmt := (topS 33)
abbrev s_is_span : Stmt := (topS 34)
abbrev s_Ladder_init : Stmt := (inClass (topS 38) 0)
abbrev s_Ladder_len : Stmt := (inClass (topS 38) 4)
abbrev s_Grid_init : Stmt := (inClass (topS 40) 0)
abbrev s_Grid_long_mark : Stmt := (inClass (topS 40) 1)
abbrev s_Grid_broad_mark : Stmt := (inClass (topS 40) 2)
abbrev s_Grid_graded : Stmt := (inClass (topS 40) 3)
abbrev s_broken : Stmt := (topS 42)
abbrev s_pairs_of : Stmt := (topS 43)
abbrev s_first_broken : Stmt := (topS 44)
abbrev s_pair_for : Stmt := (topS 45)
abbrev s_is_paper : Stmt := (topS 46)
abbrev s_are_papers : Stmt := (topS 47)
abbrev s_shows_pair : Stmt := (topS 48)
abbrev s_shares : Stmt := (topS 50)
abbrev s_are_sizes : Stmt := (topS 51)
abbrev s_are_apart : Stmt := (topS 52)
abbrev s_shows_stock : Stmt := (topS 53)
abbrev s_l_hand : Stmt := (topS 55)
abbrev s_l_take : Stmt := (topS 56)
abbrev s_l_pick : Stmt := (topS 57)
abbrev s_l_plain : Stmt := (topS 58)
abbrev s_l_sum : Stmt := (topS 59)
abbrev s_l_measures : Stmt := (topS 60)
abbrev s_l_part : Stmt := (topS 61)
abbrev s_l_marks_of : Stmt := (topS 62)
abbrev s_l_grades : Stmt := (topS 63)
abbrev s_l_broad : Stmt := (topS 64)
abbrev s_l_any_ladder : Stmt := (topS 65)
abbrev s_l_foot_of : Stmt := (topS 66)
abbrev s_l_loose : Stmt := (topS 67)
abbrev s_l_feet_of : Stmt := (topS 68)
abbrev s_l_lots : Stmt := (topS 69)
abbrev s_l_stock_right : Stmt := (topS 70)
abbrev s_l_pairs_right : Stmt := (topS 71)
abbrev s_law : Stmt := (topS 72)
abbrev N_is_whole : List Str := ["thing"]
abbrev p_is_whole : List Str := ["thing"]
theorem sc_is_whole : FnScope N_is_whole p_is_whole (defScope s_is_whole) := ⟨rfl, rfl, rfl, by decide +kernel, rfl, by decide +kernel, by decide +kernel⟩
abbrev N_is_number : List Str := ["thing", "number"]
abbrev p_is_number : List Str := ["thing", "number"]
theorem sc_is_number : FnScope N_is_number p_is_number (defScope s_is_number) := ⟨rfl, rfl, rfl, by decide +kernel, rfl, by decide +kernel, by decide +kernel⟩
abbrev N_is_tuple_of : List Str := ["thing", "many"]
abbrev p_is_tuple_of : List Str := ["thing", "many"]
theorem sc_is_tuple_of : FnScope N_is_tuple_of p_is_tuple_of (defScope s_is_tuple_of) := ⟨rfl, rfl, rfl, by decide +kernel, rfl, by decide +kernel, by decide +kernel⟩
abbrev N_are_wholes : List Str := ["thing", "part"]
abbrev p_are_wholes : List Str := ["thing"]
theorem sc_are_wholes : FnScope N_are_wholes p_are_wholes (defScope s_are_wholes) := ⟨rfl, rfl, rfl, by decide +kernel, rfl, by decide +kernel, by decide +kernel⟩
abbrev N_all_below : List Str := ["numbers", "many", "number"]
abbrev p_all_below : List Str := ["numbers", "many"]
theorem sc_all_below : FnScope N_all_below p_all_below (defScope s_all_below) := ⟨rfl, rfl, rfl, by decide +kernel, rfl, by decide +kernel, by decide +kernel⟩
abbrev N_are_rising : List Str := ["thing", "many", "at"]
abbrev p_are_rising : List Str := ["thing", "many"]
theorem sc_are_rising : FnScope N_are_rising p_are_rising (defScope s_are_rising) := ⟨rfl, rfl, rfl, by decide +kernel, rfl, by decide +kernel, by decide +kernel⟩
abbrev N_is_word : List Str := ["thing", "word"]
abbrev p_is_word : List Str := ["thing", "word"]
theorem sc_is_word : FnScope N_is_word p_is_word (defScope s_is_word) := ⟨rfl, rfl, rfl, by decide +kernel, rfl, by decide +kernel, by decide +kernel⟩
abbrev N_common_part : List Str := ["one", "other", "great", "small"]
abbrev p_common_part : List Str := ["one", "other"]
theorem sc_common_part : FnScope N_common_part p_common_part (defScope s_common_part) := ⟨rfl, rfl, rfl, by decide +kernel, rfl, by decide +kernel, by decide +kernel⟩
abbrev N_Measure_init : List Str := ["self", "top", "bottom", "common"]
abbrev p_Measure_init : List Str := ["self", "top", "bottom"]
theorem sc_Measure_init : FnScope N_Measure_init p_Measure_init (defScope s_Measure_init) := ⟨rfl, rfl, rfl, by decide +kernel, rfl, by decide +kernel, by decide +kernel⟩
abbrev N_Measure_plus : List Str := ["self", "other"]
abbrev p_Measure_plus : List Str := ["self", "other"]
theorem sc_Measure_plus : FnScope N_Measure_plus p_Measure_plus (defScope s_Measure_plus) := ⟨rfl, rfl, rfl, by decide +kernel, rfl, by decide +kernel, by decide +kernel⟩
abbrev N_Measure_minus : List Str := ["self", "other"]
abbrev p_Measure_minus : List Str := ["self", "other"]
theorem sc_Measure_minus : FnScope N_Measure_minus p_Measure_minus (defScope s_Measure_minus) := ⟨rfl, rfl, rfl, by decide +kernel, rfl, by decide +kernel, by decide +kernel⟩
abbrev N_Measure_times : List Str := ["self", "other"]
abbrev p_Measure_times : List Str := ["self", "other"]
theorem sc_Measure_times : FnScope N_Measure_times p_Measure_times (defScope s_Measure_times) := ⟨rfl, rfl, rfl, by decide +kernel, rfl, by decide +kernel, by decide +kernel⟩
abbrev N_Measure_is_below : List Str := ["self", "other", "alike", "here", "there"]
abbrev p_Measure_is_below : List Str := ["self", "other", "alike"]
theorem sc_Measure_is_below : FnScope N_Measure_is_below p_Measure_is_below (defScope s_Measure_is_below) := ⟨rfl, rfl, rfl, by decide +kernel, rfl, by decide +kernel, by decide +kernel⟩
abbrev N_is_measure_or_none : List Str := ["thing"]
abbrev p_is_measure_or_none : List Str := ["thing"]
theorem sc_is_measure_or_none : FnScope N_is_measure_or_none p_is_measure_or_none (defScope s_is_measure_or_none) := ⟨rfl, rfl, rfl, by decide +kernel, rfl, by decide +kernel, by decide +kernel⟩
abbrev N_measure_or : List Str := ["thing", "number"]
abbrev p_measure_or : List Str := ["thing", "number"]
theorem sc_measure_or : FnScope N_measure_or p_measure_or (defScope s_measure_or) := ⟨rfl, rfl, rfl, by decide +kernel, rfl, by decide +kernel, by decide +kernel⟩
abbrev N_fits : List Str := ["ladder", "foot", "slack", "tight", "least", "most", "number", "mark"]
abbrev p_fits : List Str := ["ladder", "foot", "slack", "tight"]
theorem sc_fits : FnScope N_fits p_fits (defScope s_fits) := ⟨rfl, rfl, rfl, by decide +kernel, rfl, by decide +kernel, by decide +kernel⟩
abbrev N_fitting_of : List Str := ["ladder", "feet", "slack", "tight", "foot"]
abbrev p_fitting_of : List Str := ["ladder", "feet", "slack", "tight"]
theorem sc_fitting_of : FnScope N_fitting_of p_fitting_of (defScope s_fitting_of) := ⟨rfl, rfl, rfl, by decide +kernel, rfl, by decide +kernel, by decide +kernel⟩
abbrev N_first_bare : List Str := ["fitting", "number", "sizes"]
abbrev p_first_bare : List Str := ["fitting"]
theorem sc_first_bare : FnScope N_first_bare p_first_bare (defScope s_first_bare) := ⟨rfl, rfl, rfl, by decide +kernel, rfl, by decide +kernel, by decide +kernel⟩
abbrev N_fewest_of : List Str := ["fitting", "sizes", "apart", "last", "number", "run"]
abbrev p_fewest_of : List Str := ["fitting"]
theorem sc_fewest_of : FnScope N_fewest_of p_fewest_of (defScope s_fewest_of) := ⟨rfl, rfl, rfl, by decide +kernel, rfl, by decide +kernel, by decide +kernel⟩
abbrev N_stock_for : List Str := ["ladder", "feet", "slack", "tight", "fitting", "bare", "sizes", "apart"]
abbrev p_stock_for : List Str := ["ladder", "feet", "slack", "tight"]
theorem sc_stock_for : FnScope N_stock_for p_stock_for (defScope s_stock_for) := ⟨rfl, rfl, rfl, by decide +kernel, rfl, by decide +kernel, by decide +kernel⟩
abbrev N_slip_of : List Str := ["rows", "number"]
abbrev p_slip_of : List Str := ["rows"]
theorem sc_slip_of : FnScope N_slip_of p_slip_of (defScope s_slip_of) := ⟨rfl, rfl, rfl, by decide +kernel, rfl, by decide +kernel, by decide +kernel⟩
abbrev N_are_marks : List Str := ["thing", "mark"]
abbrev p_are_marks : List Str := ["thing"]
theorem sc_are_marks : FnScope N_are_marks p_are_marks (defScope s_are_marks) := ⟨rfl, rfl, rfl, by decide +kernel, rfl, by decide +kernel, by decide +kernel⟩
abbrev N_is_rule : List Str := ["thing"]
abbrev p_is_rule : List Str := ["thing"]
theorem sc_is_rule : FnScope N_is_rule p_is_rule (defScope s_is_rule) := ⟨rfl, rfl, rfl, by decide +kernel, rfl, by decide +kernel, by decide +kernel⟩
abbrev N_is_span : List Str := ["least", "most"]
abbrev p_is_span : List Str := ["least", "most"]
theorem sc_is_span : FnScope N_is_span p_is_span (defScope s_is_span) := ⟨rfl, rfl, rfl, by decide +kernel, rfl, by decide +kernel, by decide +kernel⟩
abbrev N_Ladder_init : List Str := ["self", "marks", "rule", "least", "most", "slip"]
abbrev p_Ladder_init : List Str := ["self", "marks", "rule", "least", "most"]
theorem sc_Ladder_init : FnScope N_Ladder_init p_Ladder_init (defScope s_Ladder_init) := ⟨rfl, rfl, rfl, by decide +kernel, rfl, by decide +kernel, by decide +kernel⟩
abbrev N_Ladder_len : List Str := ["self"]
abbrev p_Ladder_len : List Str := ["self"]
theorem sc_Ladder_len : FnScope N_Ladder_len p_Ladder_len (defScope s_Ladder_len) := ⟨rfl, rfl, rfl, by decide +kernel, rfl, by decide +kernel, by decide +kernel⟩
abbrev N_Grid_init : List Str := ["self", "lengths", "breadths", "grade"]
abbrev p_Grid_init : List Str := ["self", "lengths", "breadths", "grade"]
theorem sc_Grid_init : FnScope N_Grid_init p_Grid_init (defScope s_Grid_init) := ⟨rfl, rfl, rfl, by decide +kernel, rfl, by decide +kernel, by decide +kernel⟩
abbrev N_Grid_long_mark : List Str := ["self", "pair"]
abbrev p_Grid_long_mark : List Str := ["self", "pair"]
theorem sc_Grid_long_mark : FnScope N_Grid_long_mark p_Grid_long_mark (defScope s_Grid_long_mark) := ⟨rfl, rfl, rfl, by decide +kernel, rfl, by decide +kernel, by decide +kernel⟩
abbrev N_Grid_broad_mark : List Str := ["self", "pair"]
abbrev p_Grid_broad_mark : List Str := ["self", "pair"]
theorem sc_Grid_broad_mark : FnScope N_Grid_broad_mark p_Grid_broad_mark (defScope s_Grid_broad_mark) := ⟨rfl, rfl, rfl, by decide +kernel, rfl, by decide +kernel, by decide +kernel⟩
abbrev N_Grid_graded : List Str := ["self", "number"]
abbrev p_Grid_graded : List Str := ["self", "number"]
theorem sc_Grid_graded : FnScope N_Grid_graded p_Grid_graded (defScope s_Grid_graded) := ⟨rfl, rfl, rfl, by decide +kernel, rfl, by decide +kernel, by decide +kernel⟩
abbrev N_broken : List Str := ["grid", "pair", "foot", "slack", "length", "breadth", "long", "broad", "rules", "rule", "breaks"]
abbrev p_broken : List Str := ["grid", "pair", "foot", "slack"]
theorem sc_broken : FnScope N_broken p_broken (defScope s_broken) := ⟨rfl, rfl, rfl, by decide +kernel, rfl, by decide +kernel, by decide +kernel⟩
abbrev N_pairs_of : List Str := ["grid", "long", "broad"]
abbrev p_pairs_of : List Str := ["grid"]
theorem sc_pairs_of : FnScope N_pairs_of p_pairs_of (defScope s_pairs_of) := ⟨rfl, rfl, rfl, by decide +kernel, rfl, by decide +kernel, by decide +kernel⟩
abbrev N_first_broken : List Str := ["grid", "pair", "feet", "slack", "number", "foot", "rules"]
abbrev p_first_broken : List Str := ["grid", "pair", "feet", "slack"]
theorem sc_first_broken : FnScope N_first_broken p_first_broken (defScope s_first_broken) := ⟨rfl, rfl, rfl, by decide +kernel, rfl, by decide +kernel, by decide +kernel⟩
abbrev N_pair_for : List Str := ["grid", "feet", "slack", "papers", "pair", "found"]
abbrev p_pair_for : List Str := ["grid", "feet", "slack"]
theorem sc_pair_for : FnScope N_pair_for p_pair_for (defScope s_pair_for) := ⟨rfl, rfl, rfl, by decide +kernel, rfl, by decide +kernel, by decide +kernel⟩
abbrev N_is_paper : List Str := ["grid", "feet", "slack", "pair", "thing", "long", "broad", "number", "rule"]
abbrev p_is_paper : List Str := ["grid", "feet", "slack", "pair", "thing"]
theorem sc_is_paper : FnScope N_is_paper p_is_paper (defScope s_is_paper) := ⟨rfl, rfl, rfl, by decide +kernel, rfl, by decide +kernel, by decide +kernel⟩
abbrev N_are_papers : List Str := ["grid", "feet", "slack", "thing", "pairs", "pair", "paper"]
abbrev p_are_papers : List Str := ["grid", "feet", "slack", "thing"]
theorem sc_are_papers : FnScope N_are_papers p_are_papers (defScope s_are_papers) := ⟨rfl, rfl, rfl, by decide +kernel, rfl, by decide +kernel, by decide +kernel⟩
abbrev N_shows_pair : List Str := ["grid", "feet", "slack", "thing", "word", "meant"]
abbrev p_shows_pair : List Str := ["grid", "feet", "slack", "thing"]
theorem sc_shows_pair : FnScope N_shows_pair p_shows_pair (defScope s_shows_pair) := ⟨rfl, rfl, rfl, by decide +kernel, rfl, by decide +kernel, by decide +kernel⟩
abbrev N_shares : List Str := ["one", "other", "size"]
abbrev p_shares : List Str := ["one", "other"]
theorem sc_shares : FnScope N_shares p_shares (defScope s_shares) := ⟨rfl, rfl, rfl, by decide +kernel, rfl, by decide +kernel, by decide +kernel⟩
abbrev N_are_sizes : List Str := ["thing", "ladder", "fitting", "run"]
abbrev p_are_sizes : List Str := ["thing", "ladder", "fitting"]
theorem sc_are_sizes : FnScope N_are_sizes p_are_sizes (defScope s_are_sizes) := ⟨rfl, rfl, rfl, by decide +kernel, rfl, by decide +kernel, by decide +kernel⟩
abbrev N_are_apart : List Str := ["thing", "fitting", "one", "other"]
abbrev p_are_apart : List Str := ["thing", "fitting"]
theorem sc_are_apart : FnScope N_are_apart p_are_apart (defScope s_are_apart) := ⟨rfl, rfl, rfl, by decide +kernel, rfl, by decide +kernel, by decide +kernel⟩
abbrev N_shows_stock : List Str := ["ladder", "feet", "slack", "tight", "thing", "fitting", "bare", "word", "sizes", "apart"]
abbrev p_shows_stock : List Str := ["ladder", "feet", "slack", "tight", "thing"]
theorem sc_shows_stock : FnScope N_shows_stock p_shows_stock (defScope s_shows_stock) := ⟨rfl, rfl, rfl, by decide +kernel, rfl, by decide +kernel, by decide +kernel⟩
abbrev N_l_hand : List Str := ["_law_script", "_law_k", "_law_cell", "_law_own"]
abbrev p_l_hand : List Str := ["_law_script", "_law_k"]
theorem sc_l_hand : FnScope N_l_hand p_l_hand (defScope s_l_hand) := ⟨rfl, rfl, rfl, by decide +kernel, rfl, by decide +kernel, by decide +kernel⟩
abbrev N_l_take : List Str := ["_law_hand_here", "_law_many", "_law_digit", "_law_mixed"]
abbrev p_l_take : List Str := ["_law_hand_here", "_law_many"]
theorem sc_l_take : FnScope N_l_take p_l_take (defScope s_l_take) := ⟨rfl, rfl, rfl, by decide +kernel, rfl, by decide +kernel, by decide +kernel⟩
abbrev N_l_pick : List Str := ["_law_hand_here", "_law_some"]
abbrev p_l_pick : List Str := ["_law_hand_here", "_law_some"]
theorem sc_l_pick : FnScope N_l_pick p_l_pick (defScope s_l_pick) := ⟨rfl, rfl, rfl, by decide +kernel, rfl, by decide +kernel, by decide +kernel⟩
abbrev N_l_plain : List Str := ["_law_top", "_law_bottom", "_law_one", "_law_other"]
abbrev p_l_plain : List Str := ["_law_top", "_law_bottom"]
theorem sc_l_plain : FnScope N_l_plain p_l_plain (defScope s_l_plain) := ⟨rfl, rfl, rfl, by decide +kernel, rfl, by decide +kernel, by decide +kernel⟩
abbrev N_l_sum : List Str := ["_law_a", "_law_b"]
abbrev p_l_sum : List Str := ["_law_a", "_law_b"]
theorem sc_l_sum : FnScope N_l_sum p_l_sum (defScope s_l_sum) := ⟨rfl, rfl, rfl, by decide +kernel, rfl, by decide +kernel, by decide +kernel⟩
abbrev N_l_measures : List Str := ["_law_some", "_law_top", "_law_bottom"]
abbrev p_l_measures : List Str := ["_law_some"]
theorem sc_l_measures : FnScope N_l_measures p_l_measures (defScope s_l_measures) := ⟨rfl, rfl, rfl, by decide +kernel, rfl, by decide +kernel, by decide +kernel⟩
abbrev N_l_part : List Str := ["_law_hand_here"]
abbrev p_l_part : List Str := ["_law_hand_here"]
theorem sc_l_part : FnScope N_l_part p_l_part (defScope s_l_part) := ⟨rfl, rfl, rfl, by decide +kernel, rfl, by decide +kernel, by decide +kernel⟩
abbrev N_l_marks_of : List Str := ["_law_hand_here", "_law_most", "_law_alike", "_law_many", "_law_step", "_law_found", "_law_k"]
abbrev p_l_marks_of : List Str := ["_law_hand_here", "_law_most"]
theorem sc_l_marks_of : FnScope N_l_marks_of p_l_marks_of (defScope s_l_marks_of) := ⟨rfl, rfl, rfl, by decide +kernel, rfl, by decide +kernel, by decide +kernel⟩
abbrev N_l_grades : List Str := ["_law_hand_here"]
abbrev p_l_grades : List Str := ["_law_hand_here"]
theorem sc_l_grades : FnScope N_l_grades p_l_grades (defScope s_l_grades) := ⟨rfl, rfl, rfl, by decide +kernel, rfl, by decide +kernel, by decide +kernel⟩
abbrev N_l_broad : List Str := ["_law_sides", "_law_k", "_law_w"]
abbrev p_l_broad : List Str := ["_law_sides", "_law_k", "_law_w"]
theorem sc_l_broad : FnScope N_l_broad p_l_broad (defScope s_l_broad) := ⟨rfl, rfl, rfl, by decide +kernel, rfl, by decide +kernel, by decide +kernel⟩
abbrev N_l_any_ladder : List Str := ["_law_hand_here", "_law_marks", "_law_word", "_law_low", "_law_high", "_law_ends", "_law_one"]
abbrev p_l_any_ladder : List Str := ["_law_hand_here", "_law_marks"]
theorem sc_l_any_ladder : FnScope N_l_any_ladder p_l_any_ladder (defScope s_l_any_ladder) := ⟨rfl, rfl, rfl, by decide +kernel, rfl, by decide +kernel, by decide +kernel⟩
abbrev N_l_foot_of : List Str := ["_law_hand_here", "_law_sides", "_law_pair_here", "_law_loose_here", "_law_found", "_law_mark", "_law_far", "_law_side"]
abbrev p_l_foot_of : List Str := ["_law_hand_here", "_law_sides", "_law_pair_here", "_law_loose_here"]
theorem sc_l_foot_of : FnScope N_l_foot_of p_l_foot_of (defScope s_l_foot_of) := ⟨rfl, rfl, rfl, by decide +kernel, rfl, by decide +kernel, by decide +kernel⟩
abbrev N_l_loose : List Str := ["_law_hand_here"]
abbrev p_l_loose : List Str := ["_law_hand_here"]
theorem sc_l_loose : FnScope N_l_loose p_l_loose (defScope s_l_loose) := ⟨rfl, rfl, rfl, by decide +kernel, rfl, by decide +kernel, by decide +kernel⟩
abbrev N_l_feet_of : List Str := ["_law_hand_here", "_law_sides", "_law_loose_here", "_law_one", "_law_found", "_law_turn", "_law_other"]
abbrev p_l_feet_of : List Str := ["_law_hand_here", "_law_sides", "_law_loose_here"]
theorem sc_l_feet_of : FnScope N_l_feet_of p_l_feet_of (defScope s_l_feet_of) := ⟨rfl, rfl, rfl, by decide +kernel, rfl, by decide +kernel, by decide +kernel⟩
abbrev N_l_lots : List Str := ["_law_many", "_law_found", "_law_size", "_law_lot"]
abbrev p_l_lots : List Str := ["_law_many"]
theorem sc_l_lots : FnScope N_l_lots p_l_lots (defScope s_l_lots) := ⟨rfl, rfl, rfl, by decide +kernel, rfl, by decide +kernel, by decide +kernel⟩
abbrev N_l_stock_right : List Str := ["_law_chart", "_law_at", "_law_by", "_law_told", "_law_runs", "_law_lot", "_law_one", "_law_more", "_law_run", "_law_size", "_law_other"]
abbrev p_l_stock_right : List Str := ["_law_chart", "_law_at", "_law_by", "_law_told"]
theorem sc_l_stock_right : FnScope N_l_stock_right p_l_stock_right (defScope s_l_stock_right) := ⟨rfl, rfl, rfl, by decide +kernel, rfl, by decide +kernel, by decide +kernel⟩
abbrev N_l_pairs_right : List Str := ["_law_made", "_law_at", "_law_by", "_law_told", "_law_alone", "_law_k", "_law_w", "_law_number", "_law_word", "_law_rules", "_law_one", "_law_some"]
abbrev p_l_pairs_right : List Str := ["_law_made", "_law_at", "_law_by", "_law_told", "_law_alone"]
theorem sc_l_pairs_right : FnScope N_l_pairs_right p_l_pairs_right (defScope s_l_pairs_right) := ⟨rfl, rfl, rfl, by decide +kernel, rfl, by decide +kernel, by decide +kernel⟩
abbrev N_law : List Str := ["_law_script", "_law_k", "_law_hand_here", "_law_sides", "_law_made", "_law_loose_here", "_law_by", "_law_at", "_law_long", "_law_stock_told", "_law_told", "_law_some", "_law_alone", "_law_one", "_law_size", "_law_run"]
abbrev p_law : List Str := ["_law_script"]
theorem sc_law : FnScope N_law p_law (defScope s_law) := ⟨rfl, rfl, rfl, by decide +kernel, rfl, by decide +kernel, by decide +kernel⟩
/-! ### what the top has written -/
structure Fds where
  is_whole : FuncData
  is_number : FuncData
  is_tuple_of : FuncData
  are_wholes : FuncData
  all_below : FuncData
  are_rising : FuncData
  is_word : FuncData
  common_part : FuncData
  Measure_init : FuncData
  Measure_plus : FuncData
  Measure_minus : FuncData
  Measure_times : FuncData
  Measure_is_below : FuncData
  is_measure_or_none : FuncData
  measure_or : FuncData
  fits : FuncData
  fitting_of : FuncData
  first_bare : FuncData
  fewest_of : FuncData
  stock_for : FuncData
  slip_of : FuncData
  are_marks : FuncData
  is_rule : FuncData
  is_span : FuncData
  Ladder_init : FuncData
  Ladder_len : FuncData
  Grid_init : FuncData
  Grid_long_mark : FuncData
  Grid_broad_mark : FuncData
  Grid_graded : FuncData
  broken : FuncData
  pairs_of : FuncData
  first_broken : FuncData
  pair_for : FuncData
  is_paper : FuncData
  are_papers : FuncData
  shows_pair : FuncData
  shares : FuncData
  are_sizes : FuncData
  are_apart : FuncData
  shows_stock : FuncData
  l_hand : FuncData
  l_take : FuncData
  l_pick : FuncData
  l_plain : FuncData
  l_sum : FuncData
  l_measures : FuncData
  l_part : FuncData
  l_marks_of : FuncData
  l_grades : FuncData
  l_broad : FuncData
  l_any_ladder : FuncData
  l_foot_of : FuncData
  l_loose : FuncData
  l_feet_of : FuncData
  l_lots : FuncData
  l_stock_right : FuncData
  l_pairs_right : FuncData
  law : FuncData
structure Txt (K : PySem.W.Frag) (mg : Str → Option Value) (φ : Fds) : Prop where
  g_is_whole : mg "is_whole" = some (.ref (He.ga K "is_whole"))
  g_is_number : mg "is_number" = some (.ref (He.ga K "is_number"))
  g_is_tuple_of : mg "is_tuple_of" = some (.ref (He.ga K "is_tuple_of"))
  g_are_wholes : mg "are_wholes" = some (.ref (He.ga K "are_wholes"))
  g_all_below : mg "all_below" = some (.ref (He.ga K "all_below"))
  g_are_rising : mg "are_rising" = some (.ref (He.ga K "are_rising"))
  g_is_word : mg "is_word" = some (.ref (He.ga K "is_word"))
  g_common_part : mg "common_part" = some (.ref (He.ga K "common_part"))
  g_is_measure_or_none : mg "is_measure_or_none" = some (.ref (He.ga K "is_measure_or_none"))
  g_measure_or : mg "measure_or" = some (.ref (He.ga K "measure_or"))
  g_fits : mg "fits" = some (.ref (He.ga K "fits"))
  g_fitting_of : mg "fitting_of" = some (.ref (He.ga K "fitting_of"))
  g_first_bare : mg "first_bare" = some (.ref (He.ga K "first_bare"))
  g_fewest_of : mg "fewest_of" = some (.ref (He.ga K "fewest_of"))
  g_stock_for : mg "stock_for" = some (.ref (He.ga K "stock_for"))
  g_slip_of : mg "slip_of" = some (.ref (He.ga K "slip_of"))
  g_are_marks : mg "are_marks" = some (.ref (He.ga K "are_marks"))
  g_is_rule : mg "is_rule" = some (.ref (He.ga K "is_rule"))
  g_is_span : mg "is_span" = some (.ref (He.ga K "is_span"))
  g_broken : mg "broken" = some (.ref (He.ga K "broken"))
  g_pairs_of : mg "pairs_of" = some (.ref (He.ga K "pairs_of"))
  g_first_broken : mg "first_broken" = some (.ref (He.ga K "first_broken"))
  g_pair_for : mg "pair_for" = some (.ref (He.ga K "pair_for"))
  g_is_paper : mg "is_paper" = some (.ref (He.ga K "is_paper"))
  g_are_papers : mg "are_papers" = some (.ref (He.ga K "are_papers"))
  g_shows_pair : mg "shows_pair" = some (.ref (He.ga K "shows_pair"))
  g_shares : mg "shares" = some (.ref (He.ga K "shares"))
  g_are_sizes : mg "are_sizes" = some (.ref (He.ga K "are_sizes"))
  g_are_apart : mg "are_apart" = some (.ref (He.ga K "are_apart"))
  g_shows_stock : mg "shows_stock" = some (.ref (He.ga K "shows_stock"))
  g_l_hand : mg "_law_hand" = some (.ref (He.ga K "_law_hand"))
  g_l_take : mg "_law_take" = some (.ref (He.ga K "_law_take"))
  g_l_pick : mg "_law_pick" = some (.ref (He.ga K "_law_pick"))
  g_l_plain : mg "_law_plain" = some (.ref (He.ga K "_law_plain"))
  g_l_sum : mg "_law_sum" = some (.ref (He.ga K "_law_sum"))
  g_l_measures : mg "_law_measures" = some (.ref (He.ga K "_law_measures"))
  g_l_part : mg "_law_part" = some (.ref (He.ga K "_law_part"))
  g_l_marks_of : mg "_law_marks_of" = some (.ref (He.ga K "_law_marks_of"))
  g_l_grades : mg "_law_grades" = some (.ref (He.ga K "_law_grades"))
  g_l_broad : mg "_law_broad" = some (.ref (He.ga K "_law_broad"))
  g_l_any_ladder : mg "_law_any_ladder" = some (.ref (He.ga K "_law_any_ladder"))
  g_l_foot_of : mg "_law_foot_of" = some (.ref (He.ga K "_law_foot_of"))
  g_l_loose : mg "_law_loose" = some (.ref (He.ga K "_law_loose"))
  g_l_feet_of : mg "_law_feet_of" = some (.ref (He.ga K "_law_feet_of"))
  g_l_lots : mg "_law_lots" = some (.ref (He.ga K "_law_lots"))
  g_l_stock_right : mg "_law_stock_right" = some (.ref (He.ga K "_law_stock_right"))
  g_l_pairs_right : mg "_law_pairs_right" = some (.ref (He.ga K "_law_pairs_right"))
  g_law : mg "law" = some (.ref (He.ga K "law"))
  g_Measure : mg "Measure" = some (.ref (He.ga K "Measure"))
  g_Ladder : mg "Ladder" = some (.ref (He.ga K "Ladder"))
  g_Grid : mg "Grid" = some (.ref (He.ga K "Grid"))
  g_RULES : mg "RULES" = some (.ref (He.ga K "RULES"))
  v_MOST_MARKS : ∃ t, mg "MOST_MARKS" = some (.int 24 t)
  z_abs : mg "abs" = none
  z_all : mg "all" = none
  z_any : mg "any" = none
  z_bool : mg "bool" = none
  z_enumerate : mg "enumerate" = none
  z_int : mg "int" = none
  z_isinstance : mg "isinstance" = none
  z_len : mg "len" = none
  z_max : mg "max" = none
  z_min : mg "min" = none
  z_range : mg "range" = none
  z_sorted : mg "sorted" = none
  z_str : mg "str" = none
  z_tuple : mg "tuple" = none
  z_zip : mg "zip" = none
  cl_Measure : Cls K (He.ga K "Measure")
  na_Measure_top : NoAttr K (He.ga K "Measure") "top"
  na_Measure_bottom : NoAttr K (He.ga K "Measure") "bottom"
  me_Measure_plus : Meth K (He.ga K "Measure") "plus" (He.ma K (He.ga K "Measure") "plus")
  me_Measure_minus : Meth K (He.ga K "Measure") "minus" (He.ma K (He.ga K "Measure") "minus")
  me_Measure_times : Meth K (He.ga K "Measure") "times" (He.ma K (He.ga K "Measure") "times")
  me_Measure_is_below : Meth K (He.ga K "Measure") "is_below" (He.ma K (He.ga K "Measure") "is_below")
  mk_Measure : Mk K (He.ga K "Measure") (He.ma K (He.ga K "Measure") "__init__")
  cl_Ladder : Cls K (He.ga K "Ladder")
  na_Ladder_marks : NoAttr K (He.ga K "Ladder") "marks"
  na_Ladder_rule : NoAttr K (He.ga K "Ladder") "rule"
  na_Ladder_least : NoAttr K (He.ga K "Ladder") "least"
  na_Ladder_most : NoAttr K (He.ga K "Ladder") "most"
  me_Ladder_len : Meth K (He.ga K "Ladder") "__len__" (He.ma K (He.ga K "Ladder") "__len__")
  mk_Ladder : Mk K (He.ga K "Ladder") (He.ma K (He.ga K "Ladder") "__init__")
  cl_Grid : Cls K (He.ga K "Grid")
  na_Grid_lengths : NoAttr K (He.ga K "Grid") "lengths"
  na_Grid_breadths : NoAttr K (He.ga K "Grid") "breadths"
  na_Grid_grade : NoAttr K (He.ga K "Grid") "grade"
  me_Grid_long_mark : Meth K (He.ga K "Grid") "long_mark" (He.ma K (He.ga K "Grid") "long_mark")
  me_Grid_broad_mark : Meth K (He.ga K "Grid") "broad_mark" (He.ma K (He.ga K "Grid") "broad_mark")
  me_Grid_graded : Meth K (He.ga K "Grid") "graded" (He.ma K (He.ga K "Grid") "graded")
  mk_Grid : Mk K (He.ga K "Grid") (He.ma K (He.ga K "Grid") "__init__")
  ii_Measure : IsC K (He.ga K "Measure")
  ii_Ladder : IsC K (He.ga K "Ladder")
  tp_RULES : ∀ H, SqT K H (He.ga K "RULES") ((["up", "down", "near"] : List Str).map V.str)
  k_Measure_Measure : PySem.W.kitOne K (.ref (He.ga K "Measure")) (.ref (He.ga K "Measure")) = some true
  k_Ladder_Ladder : PySem.W.kitOne K (.ref (He.ga K "Ladder")) (.ref (He.ga K "Ladder")) = some true
  f_is_whole : FunD K "is_whole" "is_whole" (defArgs s_is_whole) (defBody s_is_whole) (defScope s_is_whole) [] [] (He.fAd K ("is_whole", none)) φ.is_whole
  f_is_number : FunD K "is_number" "is_number" (defArgs s_is_number) (defBody s_is_number) (defScope s_is_number) [] [] (He.fAd K ("is_number", none)) φ.is_number
  f_is_tuple_of : FunD K "is_tuple_of" "is_tuple_of" (defArgs s_is_tuple_of) (defBody s_is_tuple_of) (defScope s_is_tuple_of) [] [] (He.fAd K ("is_tuple_of", none)) φ.is_tuple_of
  f_are_wholes : FunD K "are_wholes" "are_wholes" (defArgs s_are_wholes) (defBody s_are_wholes) (defScope s_are_wholes) [] [] (He.fAd K ("are_wholes", none)) φ.are_wholes
  f_all_below : FunD K "all_below" "all_below" (defArgs s_all_below) (defBody s_all_below) (defScope s_all_below) [] [] (He.fAd K ("all_below", none)) φ.all_below
  f_are_rising : FunD K "are_rising" "are_rising" (defArgs s_are_rising) (defBody s_are_rising) (defScope s_are_rising) [] [] (He.fAd K ("are_rising", none)) φ.are_rising
  f_is_word : FunD K "is_word" "is_word" (defArgs s_is_word) (defBody s_is_word) (defScope s_is_word) [] [] (He.fAd K ("is_word", none)) φ.is_word
  f_common_part : FunD K "common_part" "common_part" (defArgs s_common_part) (defBody s_common_part) (defScope s_common_part) [] [] (He.fAd K ("common_part", none)) φ.common_part
  f_Measure_init : FunD K "__init__" "Measure.__init__" (defArgs s_Measure_init) (defBody s_Measure_init) (defScope s_Measure_init) [V.int 1] [] (He.fAd K ("Measure", some "__init__")) φ.Measure_init
  f_Measure_plus : FunD K "plus" "Measure.plus" (defArgs s_Measure_plus) (defBody s_Measure_plus) (defScope s_Measure_plus) [] [] (He.fAd K ("Measure", some "plus")) φ.Measure_plus
  f_Measure_minus : FunD K "minus" "Measure.minus" (defArgs s_Measure_minus) (defBody s_Measure_minus) (defScope s_Measure_minus) [] [] (He.fAd K ("Measure", some "minus")) φ.Measure_minus
  f_Measure_times : FunD K "times" "Measure.times" (defArgs s_Measure_times) (defBody s_Measure_times) (defScope s_Measure_times) [] [] (He.fAd K ("Measure", some "times")) φ.Measure_times
  f_Measure_is_below : FunD K "is_below" "Measure.is_below" (defArgs s_Measure_is_below) (defBody s_Measure_is_below) (defScope s_Measure_is_below) [V.bl false] [] (He.fAd K ("Measure", some "is_below")) φ.Measure_is_below
  f_is_measure_or_none : FunD K "is_measure_or_none" "is_measure_or_none" (defArgs s_is_measure_or_none) (defBody s_is_measure_or_none) (defScope s_is_measure_or_none) [] [] (He.fAd K ("is_measure_or_none", none)) φ.is_measure_or_none
  f_measure_or : FunD K "measure_or" "measure_or" (defArgs s_measure_or) (defBody s_measure_or) (defScope s_measure_or) [] [] (He.fAd K ("measure_or", none)) φ.measure_or
  f_fits : FunD K "fits" "fits" (defArgs s_fits) (defBody s_fits) (defScope s_fits) [V.non] [] (He.fAd K ("fits", none)) φ.fits
  f_fitting_of : FunD K "fitting_of" "fitting_of" (defArgs s_fitting_of) (defBody s_fitting_of) (defScope s_fitting_of) [] [] (He.fAd K ("fitting_of", none)) φ.fitting_of
  f_first_bare : FunD K "first_bare" "first_bare" (defArgs s_first_bare) (defBody s_first_bare) (defScope s_first_bare) [] [] (He.fAd K ("first_bare", none)) φ.first_bare
  f_fewest_of : FunD K "fewest_of" "fewest_of" (defArgs s_fewest_of) (defBody s_fewest_of) (defScope s_fewest_of) [] [] (He.fAd K ("fewest_of", none)) φ.fewest_of
  f_stock_for : FunD K "stock_for" "stock_for" (defArgs s_stock_for) (defBody s_stock_for) (defScope s_stock_for) [V.non] [] (He.fAd K ("stock_for", none)) φ.stock_for
  f_slip_of : FunD K "slip_of" "slip_of" (defArgs s_slip_of) (defBody s_slip_of) (defScope s_slip_of) [] [] (He.fAd K ("slip_of", none)) φ.slip_of
  f_are_marks : FunD K "are_marks" "are_marks" (defArgs s_are_marks) (defBody s_are_marks) (defScope s_are_marks) [] [] (He.fAd K ("are_marks", none)) φ.are_marks
  f_is_rule : FunD K "is_rule" "is_rule" (defArgs s_is_rule) (defBody s_is_rule) (defScope s_is_rule) [] [] (He.fAd K ("is_rule", none)) φ.is_rule
  f_is_span : FunD K "is_span" "is_span" (defArgs s_is_span) (defBody s_is_span) (defScope s_is_span) [] [] (He.fAd K ("is_span", none)) φ.is_span
  f_Ladder_init : FunD K "__init__" "Ladder.__init__" (defArgs s_Ladder_init) (defBody s_Ladder_init) (defScope s_Ladder_init) [V.str "up", V.non, V.non] [] (He.fAd K ("Ladder", some "__init__")) φ.Ladder_init
  f_Ladder_len : FunD K "__len__" "Ladder.__len__" (defArgs s_Ladder_len) (defBody s_Ladder_len) (defScope s_Ladder_len) [] [] (He.fAd K ("Ladder", some "__len__")) φ.Ladder_len
  f_Grid_init : FunD K "__init__" "Grid.__init__" (defArgs s_Grid_init) (defBody s_Grid_init) (defScope s_Grid_init) [V.non] [] (He.fAd K ("Grid", some "__init__")) φ.Grid_init
  f_Grid_long_mark : FunD K "long_mark" "Grid.long_mark" (defArgs s_Grid_long_mark) (defBody s_Grid_long_mark) (defScope s_Grid_long_mark) [] [] (He.fAd K ("Grid", some "long_mark")) φ.Grid_long_mark
  f_Grid_broad_mark : FunD K "broad_mark" "Grid.broad_mark" (defArgs s_Grid_broad_mark) (defBody s_Grid_broad_mark) (defScope s_Grid_broad_mark) [] [] (He.fAd K ("Grid", some "broad_mark")) φ.Grid_broad_mark
  f_Grid_graded : FunD K "graded" "Grid.graded" (defArgs s_Grid_graded) (defBody s_Grid_graded) (defScope s_Grid_graded) [] [] (He.fAd K ("Grid", some "graded")) φ.Grid_graded
  f_broken : FunD K "broken" "broken" (defArgs s_broken) (defBody s_broken) (defScope s_broken) [] [] (He.fAd K ("broken", none)) φ.broken
  f_pairs_of : FunD K "pairs_of" "pairs_of" (defArgs s_pairs_of) (defBody s_pairs_of) (defScope s_pairs_of) [] [] (He.fAd K ("pairs_of", none)) φ.pairs_of
  f_first_broken : FunD K "first_broken" "first_broken" (defArgs s_first_broken) (defBody s_first_broken) (defScope s_first_broken) [] [] (He.fAd K ("first_broken", none)) φ.first_broken
  f_pair_for : FunD K "pair_for" "pair_for" (defArgs s_pair_for) (defBody s_pair_for) (defScope s_pair_for) [] [] (He.fAd K ("pair_for", none)) φ.pair_for
  f_is_paper : FunD K "is_paper" "is_paper" (defArgs s_is_paper) (defBody s_is_paper) (defScope s_is_paper) [] [] (He.fAd K ("is_paper", none)) φ.is_paper
  f_are_papers : FunD K "are_papers" "are_papers" (defArgs s_are_papers) (defBody s_are_papers) (defScope s_are_papers) [] [] (He.fAd K ("are_papers", none)) φ.are_papers
  f_shows_pair : FunD K "shows_pair" "shows_pair" (defArgs s_shows_pair) (defBody s_shows_pair) (defScope s_shows_pair) [] [] (He.fAd K ("shows_pair", none)) φ.shows_pair
  f_shares : FunD K "shares" "shares" (defArgs s_shares) (defBody s_shares) (defScope s_shares) [] [] (He.fAd K ("shares", none)) φ.shares
  f_are_sizes : FunD K "are_sizes" "are_sizes" (defArgs s_are_sizes) (defBody s_are_sizes) (defScope s_are_sizes) [] [] (He.fAd K ("are_sizes", none)) φ.are_sizes
  f_are_apart : FunD K "are_apart" "are_apart" (defArgs s_are_apart) (defBody s_are_apart) (defScope s_are_apart) [] [] (He.fAd K ("are_apart", none)) φ.are_apart
  f_shows_stock : FunD K "shows_stock" "shows_stock" (defArgs s_shows_stock) (defBody s_shows_stock) (defScope s_shows_stock) [] [] (He.fAd K ("shows_stock", none)) φ.shows_stock
  f_l_hand : FunD K "_law_hand" "_law_hand" (defArgs s_l_hand) (defBody s_l_hand) (defScope s_l_hand) [] [] (He.fAd K ("_law_hand", none)) φ.l_hand
  f_l_take : FunD K "_law_take" "_law_take" (defArgs s_l_take) (defBody s_l_take) (defScope s_l_take) [] [] (He.fAd K ("_law_take", none)) φ.l_take
  f_l_pick : FunD K "_law_pick" "_law_pick" (defArgs s_l_pick) (defBody s_l_pick) (defScope s_l_pick) [] [] (He.fAd K ("_law_pick", none)) φ.l_pick
  f_l_plain : FunD K "_law_plain" "_law_plain" (defArgs s_l_plain) (defBody s_l_plain) (defScope s_l_plain) [] [] (He.fAd K ("_law_plain", none)) φ.l_plain
  f_l_sum : FunD K "_law_sum" "_law_sum" (defArgs s_l_sum) (defBody s_l_sum) (defScope s_l_sum) [] [] (He.fAd K ("_law_sum", none)) φ.l_sum
  f_l_measures : FunD K "_law_measures" "_law_measures" (defArgs s_l_measures) (defBody s_l_measures) (defScope s_l_measures) [] [] (He.fAd K ("_law_measures", none)) φ.l_measures
  f_l_part : FunD K "_law_part" "_law_part" (defArgs s_l_part) (defBody s_l_part) (defScope s_l_part) [] [] (He.fAd K ("_law_part", none)) φ.l_part
  f_l_marks_of : FunD K "_law_marks_of" "_law_marks_of" (defArgs s_l_marks_of) (defBody s_l_marks_of) (defScope s_l_marks_of) [] [] (He.fAd K ("_law_marks_of", none)) φ.l_marks_of
  f_l_grades : FunD K "_law_grades" "_law_grades" (defArgs s_l_grades) (defBody s_l_grades) (defScope s_l_grades) [] [] (He.fAd K ("_law_grades", none)) φ.l_grades
  f_l_broad : FunD K "_law_broad" "_law_broad" (defArgs s_l_broad) (defBody s_l_broad) (defScope s_l_broad) [] [] (He.fAd K ("_law_broad", none)) φ.l_broad
  f_l_any_ladder : FunD K "_law_any_ladder" "_law_any_ladder" (defArgs s_l_any_ladder) (defBody s_l_any_ladder) (defScope s_l_any_ladder) [] [] (He.fAd K ("_law_any_ladder", none)) φ.l_any_ladder
  f_l_foot_of : FunD K "_law_foot_of" "_law_foot_of" (defArgs s_l_foot_of) (defBody s_l_foot_of) (defScope s_l_foot_of) [] [] (He.fAd K ("_law_foot_of", none)) φ.l_foot_of
  f_l_loose : FunD K "_law_loose" "_law_loose" (defArgs s_l_loose) (defBody s_l_loose) (defScope s_l_loose) [] [] (He.fAd K ("_law_loose", none)) φ.l_loose
  f_l_feet_of : FunD K "_law_feet_of" "_law_feet_of" (defArgs s_l_feet_of) (defBody s_l_feet_of) (defScope s_l_feet_of) [] [] (He.fAd K ("_law_feet_of", none)) φ.l_feet_of
  f_l_lots : FunD K "_law_lots" "_law_lots" (defArgs s_l_lots) (defBody s_l_lots) (defScope s_l_lots) [] [] (He.fAd K ("_law_lots", none)) φ.l_lots
  f_l_stock_right : FunD K "_law_stock_right" "_law_stock_right" (defArgs s_l_stock_right) (defBody s_l_stock_right) (defScope s_l_stock_right) [] [] (He.fAd K ("_law_stock_right", none)) φ.l_stock_right
  f_l_pairs_right : FunD K "_law_pairs_right" "_law_pairs_right" (defArgs s_l_pairs_right) (defBody s_l_pairs_right) (defScope s_l_pairs_right) [] [] (He.fAd K ("_law_pairs_right", none)) φ.l_pairs_right
  f_law : FunD K "law" "law" (defArgs s_law) (defBody s_law) (defScope s_law) [] [] (He.fAd K ("law", none)) φ.law
/-! ### the head -/
def h_is_whole : He.DefD := ⟨("is_whole", none), "is_whole", "is_whole", defArgs s_is_whole, defBody s_is_whole, defScope s_is_whole, [], []⟩
def h_is_number : He.DefD := ⟨("is_number", none), "is_number", "is_number", defArgs s_is_number, defBody s_is_number, defScope s_is_number, [], []⟩
def h_is_tuple_of : He.DefD := ⟨("is_tuple_of", none), "is_tuple_of", "is_tuple_of", defArgs s_is_tuple_of, defBody s_is_tuple_of, defScope s_is_tuple_of, [], []⟩
def h_are_wholes : He.DefD := ⟨("are_wholes", none), "are_wholes", "are_wholes", defArgs s_are_wholes, defBody s_are_wholes, defScope s_are_wholes, [], []⟩
def h_all_below : He.DefD := ⟨("all_below", none), "all_below", "all_below", defArgs s_all_below, defBody s_all_below, defScope s_all_below, [], []⟩
def h_are_rising : He.DefD := ⟨("are_rising", none), "are_rising", "are_rising", defArgs s_are_rising, defBody s_are_rising, defScope s_are_rising, [], []⟩
def h_is_word : He.DefD := ⟨("is_word", none), "is_word", "is_word", defArgs s_is_word, defBody s_is_word, defScope s_is_word, [], []⟩
def h_common_part : He.DefD := ⟨("common_part", none), "common_part", "common_part", defArgs s_common_part, defBody s_common_part, defScope s_common_part, [], []⟩
def h_Measure_init : He.DefD := ⟨("Measure", some "__init__"), "__init__", "Measure.__init__", defArgs s_Measure_init, defBody s_Measure_init, defScope s_Measure_init, [.int 1], []⟩
def h_Measure_plus : He.DefD := ⟨("Measure", some "plus"), "plus", "Measure.plus", defArgs s_Measure_plus, defBody s_Measure_plus, defScope s_Measure_plus, [], []⟩
def h_Measure_minus : He.DefD := ⟨("Measure", some "minus"), "minus", "Measure.minus", defArgs s_Measure_minus, defBody s_Measure_minus, defScope s_Measure_minus, [], []⟩
def h_Measure_times : He.DefD := ⟨("Measure", some "times"), "times", "Measure.times", defArgs s_Measure_times, defBody s_Measure_times, defScope s_Measure_times, [], []⟩
def h_Measure_is_below : He.DefD := ⟨("Measure", some "is_below"), "is_below", "Measure.is_below", defArgs s_Measure_is_below, defBody s_Measure_is_below, defScope s_Measure_is_below, [.bl false], []⟩
def h_is_measure_or_none : He.DefD := ⟨("is_measure_or_none", none), "is_measure_or_none", "is_measure_or_none", defArgs s_is_measure_or_none, defBody s_is_measure_or_none, defScope s_is_measure_or_none, [], []⟩
def h_measure_or : He.DefD := ⟨("measure_or", none), "measure_or", "measure_or", defArgs s_measure_or, defBody s_measure_or, defScope s_measure_or, [], []⟩
def h_fits : He.DefD := ⟨("fits", none), "fits", "fits", defArgs s_fits, defBody s_fits, defScope s_fits, [.non], []⟩
def h_fitting_of : He.DefD := ⟨("fitting_of", none), "fitting_of", "fitting_of", defArgs s_fitting_of, defBody s_fitting_of, defScope s_fitting_of, [], []⟩
def h_first_bare : He.DefD := ⟨("first_bare", none), "first_bare", "first_bare", defArgs s_first_bare, defBody s_first_bare, defScope s_first_bare, [], []⟩
def h_fewest_of : He.DefD := ⟨("fewest_of", none), "fewest_of", "fewest_of", defArgs s_fewest_of, defBody s_fewest_of, defScope s_fewest_of, [], []⟩
def h_stock_for : He.DefD := ⟨("stock_for", none), "stock_for", "stock_for", defArgs s_stock_for, defBody s_stock_for, defScope s_stock_for, [.non], []⟩
def h_slip_of : He.DefD := ⟨("slip_of", none), "slip_of", "slip_of", defArgs s_slip_of, defBody s_slip_of, defScope s_slip_of, [], []⟩
def h_are_marks : He.DefD := ⟨("are_marks", none), "are_marks", "are_marks", defArgs s_are_marks, defBody s_are_marks, defScope s_are_marks, [], []⟩
def h_is_rule : He.DefD := ⟨("is_rule", none), "is_rule", "is_rule", defArgs s_is_rule, defBody s_is_rule, defScope s_is_rule, [], []⟩
def h_is_span : He.DefD := ⟨("is_span", none), "is_span", "is_span", defArgs s_is_span, defBody s_is_span, defScope s_is_span, [], []⟩
def h_Ladder_init : He.DefD := ⟨("Ladder", some "__init__"), "__init__", "Ladder.__init__", defArgs s_Ladder_init, defBody s_Ladder_init, defScope s_Ladder_init, [.str "up", .non, .non], []⟩
def h_Ladder_len : He.DefD := ⟨("Ladder", some "__len__"), "__len__", "Ladder.__len__", defArgs s_Ladder_len, defBody s_Ladder_len, defScope s_Ladder_len, [], []⟩
def h_Grid_init : He.DefD := ⟨("Grid", some "__init__"), "__init__", "Grid.__init__", defArgs s_Grid_init, defBody s_Grid_init, defScope s_Grid_init, [.non], []⟩
def h_Grid_long_mark : He.DefD := ⟨("Grid", some "long_mark"), "long_mark", "Grid.long_mark", defArgs s_Grid_long_mark, defBody s_Grid_long_mark, defScope s_Grid_long_mark, [], []⟩
def h_Grid_broad_mark : He.DefD := ⟨("Grid", some "broad_mark"), "broad_mark", "Grid.broad_mark", defArgs s_Grid_broad_mark, defBody s_Grid_broad_mark, defScope s_Grid_broad_mark, [], []⟩
def h_Grid_graded : He.DefD := ⟨("Grid", some "graded"), "graded", "Grid.graded", defArgs s_Grid_graded, defBody s_Grid_graded, defScope s_Grid_graded, [], []⟩
def h_broken : He.DefD := ⟨("broken", none), "broken", "broken", defArgs s_broken, defBody s_broken, defScope s_broken, [], []⟩
def h_pairs_of : He.DefD := ⟨("pairs_of", none), "pairs_of", "pairs_of", defArgs s_pairs_of, defBody s_pairs_of, defScope s_pairs_of, [], []⟩
def h_first_broken : He.DefD := ⟨("first_broken", none), "first_broken", "first_broken", defArgs s_first_broken, defBody s_first_broken, defScope s_first_broken, [], []⟩
def h_pair_for : He.DefD := ⟨("pair_for", none), "pair_for", "pair_for", defArgs s_pair_for, defBody s_pair_for, defScope s_pair_for, [], []⟩
def h_is_paper : He.DefD := ⟨("is_paper", none), "is_paper", "is_paper", defArgs s_is_paper, defBody s_is_paper, defScope s_is_paper, [], []⟩
def h_are_papers : He.DefD := ⟨("are_papers", none), "are_papers", "are_papers", defArgs s_are_papers, defBody s_are_papers, defScope s_are_papers, [], []⟩
def h_shows_pair : He.DefD := ⟨("shows_pair", none), "shows_pair", "shows_pair", defArgs s_shows_pair, defBody s_shows_pair, defScope s_shows_pair, [], []⟩
def h_shares : He.DefD := ⟨("shares", none), "shares", "shares", defArgs s_shares, defBody s_shares, defScope s_shares, [], []⟩
def h_are_sizes : He.DefD := ⟨("are_sizes", none), "are_sizes", "are_sizes", defArgs s_are_sizes, defBody s_are_sizes, defScope s_are_sizes, [], []⟩
def h_are_apart : He.DefD := ⟨("are_apart", none), "are_apart", "are_apart", defArgs s_are_apart, defBody s_are_apart, defScope s_are_apart, [], []⟩
def h_shows_stock : He.DefD := ⟨("shows_stock", none), "shows_stock", "shows_stock", defArgs s_shows_stock, defBody s_shows_stock, defScope s_shows_stock, [], []⟩
def h_l_hand : He.DefD := ⟨("_law_hand", none), "_law_hand", "_law_hand", defArgs s_l_hand, defBody s_l_hand, defScope s_l_hand, [], []⟩
def h_l_take : He.DefD := ⟨("_law_take", none), "_law_take", "_law_take", defArgs s_l_take, defBody s_l_take, defScope s_l_take, [], []⟩
def h_l_pick : He.DefD := ⟨("_law_pick", none), "_law_pick", "_law_pick", defArgs s_l_pick, defBody s_l_pick, defScope s_l_pick, [], []⟩
def h_l_plain : He.DefD := ⟨("_law_plain", none), "_law_plain", "_law_plain", defArgs s_l_plain, defBody s_l_plain, defScope s_l_plain, [], []⟩
def h_l_sum : He.DefD := ⟨("_law_sum", none), "_law_sum", "_law_sum", defArgs s_l_sum, defBody s_l_sum, defScope s_l_sum, [], []⟩
def h_l_measures : He.DefD := ⟨("_law_measures", none), "_law_measures", "_law_measures", defArgs s_l_measures, defBody s_l_measures, defScope s_l_measures, [], []⟩
def h_l_part : He.DefD := ⟨("_law_part", none), "_law_part", "_law_part", defArgs s_l_part, defBody s_l_part, defScope s_l_part, [], []⟩
def h_l_marks_of : He.DefD := ⟨("_law_marks_of", none), "_law_marks_of", "_law_marks_of", defArgs s_l_marks_of, defBody s_l_marks_of, defScope s_l_marks_of, [], []⟩
def h_l_grades : He.DefD := ⟨("_law_grades", none), "_law_grades", "_law_grades", defArgs s_l_grades, defBody s_l_grades, defScope s_l_grades, [], []⟩
def h_l_broad : He.DefD := ⟨("_law_broad", none), "_law_broad", "_law_broad", defArgs s_l_broad, defBody s_l_broad, defScope s_l_broad, [], []⟩
def h_l_any_ladder : He.DefD := ⟨("_law_any_ladder", none), "_law_any_ladder", "_law_any_ladder", defArgs s_l_any_ladder, defBody s_l_any_ladder, defScope s_l_any_ladder, [], []⟩
def h_l_foot_of : He.DefD := ⟨("_law_foot_of", none), "_law_foot_of", "_law_foot_of", defArgs s_l_foot_of, defBody s_l_foot_of, defScope s_l_foot_of, [], []⟩
def h_l_loose : He.DefD := ⟨("_law_loose", none), "_law_loose", "_law_loose", defArgs s_l_loose, defBody s_l_loose, defScope s_l_loose, [], []⟩
def h_l_feet_of : He.DefD := ⟨("_law_feet_of", none), "_law_feet_of", "_law_feet_of", defArgs s_l_feet_of, defBody s_l_feet_of, defScope s_l_feet_of, [], []⟩
def h_l_lots : He.DefD := ⟨("_law_lots", none), "_law_lots", "_law_lots", defArgs s_l_lots, defBody s_l_lots, defScope s_l_lots, [], []⟩
def h_l_stock_right : He.DefD := ⟨("_law_stock_right", none), "_law_stock_right", "_law_stock_right", defArgs s_l_stock_right, defBody s_l_stock_right, defScope s_l_stock_right, [], []⟩
def h_l_pairs_right : He.DefD := ⟨("_law_pairs_right", none), "_law_pairs_right", "_law_pairs_right", defArgs s_l_pairs_right, defBody s_l_pairs_right, defScope s_l_pairs_right, [], []⟩
def h_law : He.DefD := ⟨("law", none), "law", "law", defArgs s_law, defBody s_law, defScope s_law, [], []⟩
def fn : List He.DefD := [h_is_whole, h_is_number, h_is_tuple_of, h_are_wholes, h_all_below, h_are_rising, h_is_word, h_common_part, h_Measure_init, h_Measure_plus, h_Measure_minus, h_Measure_times, h_Measure_is_below, h_is_measure_or_none, h_measure_or, h_fits, h_fitting_of, h_first_bare, h_fewest_of, h_stock_for, h_slip_of, h_are_marks, h_is_rule, h_is_span, h_Ladder_init, h_Ladder_len, h_Grid_init, h_Grid_long_mark, h_Grid_broad_mark, h_Grid_graded, h_broken, h_pairs_of, h_first_broken, h_pair_for, h_is_paper, h_are_papers, h_shows_pair, h_shares, h_are_sizes, h_are_apart, h_shows_stock, h_l_hand, h_l_take, h_l_pick, h_l_plain, h_l_sum, h_l_measures, h_l_part, h_l_marks_of, h_l_grades, h_l_broad, h_l_any_ladder, h_l_foot_of, h_l_loose, h_l_feet_of, h_l_lots, h_l_stock_right, h_l_pairs_right, h_law]
def fa : List He.Fa := [.glo "is_whole", .glo "is_number", .glo "is_tuple_of", .glo "are_wholes", .glo "all_below", .glo "are_rising", .glo "is_word", .glo "common_part", .glo "is_measure_or_none", .glo "measure_or", .glo "fits", .glo "fitting_of", .glo "first_bare", .glo "fewest_of", .glo "stock_for", .glo "slip_of", .glo "are_marks", .glo "is_rule", .glo "is_span", .glo "broken", .glo "pairs_of", .glo "first_broken", .glo "pair_for", .glo "is_paper", .glo "are_papers", .glo "shows_pair", .glo "shares", .glo "are_sizes", .glo "are_apart", .glo "shows_stock", .glo "_law_hand", .glo "_law_take", .glo "_law_pick", .glo "_law_plain", .glo "_law_sum", .glo "_law_measures", .glo "_law_part", .glo "_law_marks_of", .glo "_law_grades", .glo "_law_broad", .glo "_law_any_ladder", .glo "_law_foot_of", .glo "_law_loose", .glo "_law_feet_of", .glo "_law_lots", .glo "_law_stock_right", .glo "_law_pairs_right", .glo "law", .glo "Measure", .glo "Ladder", .glo "Grid", .glo "RULES", .int "MOST_MARKS" 24, .free "abs", .free "all", .free "any", .free "bool", .free "enumerate", .free "int", .free "isinstance", .free "len", .free "max", .free "min", .free "range", .free "sorted", .free "str", .free "tuple", .free "zip", .cls "Measure", .noat "Measure" "top", .noat "Measure" "bottom", .meth "Measure" "plus", .meth "Measure" "minus", .meth "Measure" "times", .meth "Measure" "is_below", .mkr "Measure", .cls "Ladder", .noat "Ladder" "marks", .noat "Ladder" "rule", .noat "Ladder" "least", .noat "Ladder" "most", .meth "Ladder" "__len__", .mkr "Ladder", .cls "Grid", .noat "Grid" "lengths", .noat "Grid" "breadths", .noat "Grid" "grade", .meth "Grid" "long_mark", .meth "Grid" "broad_mark", .meth "Grid" "graded", .mkr "Grid"]
abbrev R : PySem.W.OpenRow := PySem.W.OpenLaw.row PySem.Challenge.rw_sizeladders_k73_whole_stock_and_pairs
def ex : List (PySem.W.Frag → Bool) := [isCB "Measure", isCB "Ladder", tupB "RULES" ["up", "down", "near"], kitF (.inl "Measure") (.inl "Measure") true, kitF (.inl "Ladder") (.inl "Ladder") true]
abbrev hk : PySem.W.Hook := hookM 5 fa fn ex
def ob (s : PySem.W.SharedT) : He.AlD × Bool := obsM 5 fa fn ex (HandSHeadRun.getT s)
theorem ob_eq (s : PySem.W.SharedT) : ob s = hk.obs s.abs := obsM_eq (HandSHeadRun.getT_eq s)
theorem run (w : World) : HandSHeadRun.RunEq R (PySem.W.view R.prog [72]) hk ob 20000 [("_wall" : PySem.Str), ("LadderError" : PySem.Str), ("NoMeasure" : PySem.Str), ("NoLadder" : PySem.Str), ("Slip" : PySem.Str), ("NoBottom" : PySem.Str), ("is_whole" : PySem.Str), ("is_number" : PySem.Str), ("is_tuple_of" : PySem.Str), ("are_wholes" : PySem.Str), ("all_below" : PySem.Str), ("are_rising" : PySem.Str), ("is_word" : PySem.Str), ("common_part" : PySem.Str), ("written" : PySem.Str), ("Measure" : PySem.Str), ("is_measure_or_none" : PySem.Str), ("measure_or" : PySem.Str), ("fits" : PySem.Str), ("fitting_of" : PySem.Str), ("first_bare" : PySem.Str), ("fewest_of" : PySem.Str), ("stock_for" : PySem.Str), ("slip_of" : PySem.Str), ("MOST_MARKS" : PySem.Str), ("RULES" : PySem.Str), ("are_marks" : PySem.Str), ("is_rule" : PySem.Str), ("is_span" : PySem.Str), ("midsts_of" : PySem.Str), ("size_by_rule" : PySem.Str), ("bound_text" : PySem.Str), ("Ladder" : PySem.Str), ("Grid" : PySem.Str), ("broken" : PySem.Str), ("pairs_of" : PySem.Str), ("first_broken" : PySem.Str), ("pair_for" : PySem.Str), ("is_paper" : PySem.Str), ("are_papers" : PySem.Str), ("shows_pair" : PySem.Str), ("shares" : PySem.Str), ("are_sizes" : PySem.Str), ("are_apart" : PySem.Str), ("shows_stock" : PySem.Str), ("_law_hand" : PySem.Str), ("_law_take" : PySem.Str), ("_law_pick" : PySem.Str), ("_law_plain" : PySem.Str), ("_law_sum" : PySem.Str), ("_law_measures" : PySem.Str), ("_law_part" : PySem.Str), ("_law_marks_of" : PySem.Str), ("_law_grades" : PySem.Str), ("_law_broad" : PySem.Str), ("_law_any_ladder" : PySem.Str), ("_law_foot_of" : PySem.Str), ("_law_loose" : PySem.Str), ("_law_feet_of" : PySem.Str), ("_law_lots" : PySem.Str), ("_law_stock_right" : PySem.Str), ("_law_pairs_right" : PySem.Str)] w := by
  intro os
  kernel_rfl

theorem facts {K : PySem.W.Frag} {h : Heap} {mg : Str → Option Value} (X : K.In h) (G : h.Ns mainGlobals mg) (c : He.SaysD fa fn K) (cx : (ex.all fun f => f K) = true) : ∃ φ : Fds, Txt K mg φ := by
  obtain ⟨d0, F0⟩ := c.def_ 0 (d := h_is_whole) rfl
  obtain ⟨d1, F1⟩ := c.def_ 1 (d := h_is_number) rfl
  obtain ⟨d2, F2⟩ := c.def_ 2 (d := h_is_tuple_of) rfl
  obtain ⟨d3, F3⟩ := c.def_ 3 (d := h_are_wholes) rfl
  obtain ⟨d4, F4⟩ := c.def_ 4 (d := h_all_below) rfl
  obtain ⟨d5, F5⟩ := c.def_ 5 (d := h_are_rising) rfl
  obtain ⟨d6, F6⟩ := c.def_ 6 (d := h_is_word) rfl
  obtain ⟨d7, F7⟩ := c.def_ 7 (d := h_common_part) rfl
  obtain ⟨d8, F8⟩ := c.def_ 8 (d := h_Measure_init) rfl
  obtain ⟨d9, F9⟩ := c.def_ 9 (d := h_Measure_plus) rfl
  obtain ⟨d10, F10⟩ := c.def_ 10 (d := h_Measure_minus) rfl
  obtain ⟨d11, F11⟩ := c.def_ 11 (d := h_Measure_times) rfl
  obtain ⟨d12, F12⟩ := c.def_ 12 (d := h_Measure_is_below) rfl
  obtain ⟨d13, F13⟩ := c.def_ 13 (d := h_is_measure_or_none) rfl
  obtain ⟨d14, F14⟩ := c.def_ 14 (d := h_measure_or) rfl
  obtain ⟨d15, F15⟩ := c.def_ 15 (d := h_fits) rfl
  obtain ⟨d16, F16⟩ := c.def_ 16 (d := h_fitting_of) rfl
  obtain ⟨d17, F17⟩ := c.def_ 17 (d := h_first_bare) rfl
  obtain ⟨d18, F18⟩ := c.def_ 18 (d := h_fewest_of) rfl
  obtain ⟨d19, F19⟩ := c.def_ 19 (d := h_stock_for) rfl
  obtain ⟨d20, F20⟩ := c.def_ 20 (d := h_slip_of) rfl
  obtain ⟨d21, F21⟩ := c.def_ 21 (d := h_are_marks) rfl
  obtain ⟨d22, F22⟩ := c.def_ 22 (d := h_is_rule) rfl
  obtain ⟨d23, F23⟩ := c.def_ 23 (d := h_is_span) rfl
  obtain ⟨d24, F24⟩ := c.def_ 24 (d := h_Ladder_init) rfl
  obtain ⟨d25, F25⟩ := c.def_ 25 (d := h_Ladder_len) rfl
  obtain ⟨d26, F26⟩ := c.def_ 26 (d := h_Grid_init) rfl
  obtain ⟨d27, F27⟩ := c.def_ 27 (d := h_Grid_long_mark) rfl
  obtain ⟨d28, F28⟩ := c.def_ 28 (d := h_Grid_broad_mark) rfl
  obtain ⟨d29, F29⟩ := c.def_ 29 (d := h_Grid_graded) rfl
  obtain ⟨d30, F30⟩ := c.def_ 30 (d := h_broken) rfl
  obtain ⟨d31, F31⟩ := c.def_ 31 (d := h_pairs_of) rfl
  obtain ⟨d32, F32⟩ := c.def_ 32 (d := h_first_broken) rfl
  obtain ⟨d33, F33⟩ := c.def_ 33 (d := h_pair_for) rfl
  obtain ⟨d34, F34⟩ := c.def_ 34 (d := h_is_paper) rfl
  obtain ⟨d35, F35⟩ := c.def_ 35 (d := h_are_papers) rfl
  obtain ⟨d36, F36⟩ := c.def_ 36 (d := h_shows_pair) rfl
  obtain ⟨d37, F37⟩ := c.def_ 37 (d := h_shares) rfl
  obtain ⟨d38, F38⟩ := c.def_ 38 (d := h_are_sizes) rfl
  obtain ⟨d39, F39⟩ := c.def_ 39 (d := h_are_apart) rfl
  obtain ⟨d40, F40⟩ := c.def_ 40 (d := h_shows_stock) rfl
  obtain ⟨d41, F41⟩ := c.def_ 41 (d := h_l_hand) rfl
  obtain ⟨d42, F42⟩ := c.def_ 42 (d := h_l_take) rfl
  obtain ⟨d43, F43⟩ := c.def_ 43 (d := h_l_pick) rfl
  obtain ⟨d44, F44⟩ := c.def_ 44 (d := h_l_plain) rfl
  obtain ⟨d45, F45⟩ := c.def_ 45 (d := h_l_sum) rfl
  obtain ⟨d46, F46⟩ := c.def_ 46 (d := h_l_measures) rfl
  obtain ⟨d47, F47⟩ := c.def_ 47 (d := h_l_part) rfl
  obtain ⟨d48, F48⟩ := c.def_ 48 (d := h_l_marks_of) rfl
  obtain ⟨d49, F49⟩ := c.def_ 49 (d := h_l_grades) rfl
  obtain ⟨d50, F50⟩ := c.def_ 50 (d := h_l_broad) rfl
  obtain ⟨d51, F51⟩ := c.def_ 51 (d := h_l_any_ladder) rfl
  obtain ⟨d52, F52⟩ := c.def_ 52 (d := h_l_foot_of) rfl
  obtain ⟨d53, F53⟩ := c.def_ 53 (d := h_l_loose) rfl
  obtain ⟨d54, F54⟩ := c.def_ 54 (d := h_l_feet_of) rfl
  obtain ⟨d55, F55⟩ := c.def_ 55 (d := h_l_lots) rfl
  obtain ⟨d56, F56⟩ := c.def_ 56 (d := h_l_stock_right) rfl
  obtain ⟨d57, F57⟩ := c.def_ 57 (d := h_l_pairs_right) rfl
  obtain ⟨d58, F58⟩ := c.def_ 58 (d := h_law) rfl
  refine ⟨⟨d0, d1, d2, d3, d4, d5, d6, d7, d8, d9, d10, d11, d12, d13, d14, d15, d16, d17, d18, d19, d20, d21, d22, d23, d24, d25, d26, d27, d28, d29, d30, d31, d32, d33, d34, d35, d36, d37, d38, d39, d40, d41, d42, d43, d44, d45, d46, d47, d48, d49, d50, d51, d52, d53, d54, d55, d56, d57, d58⟩, ?_⟩
  exact {
    g_is_whole := He.glo_ok X G (c.fact 0 (f := .glo "is_whole") rfl),
    g_is_number := He.glo_ok X G (c.fact 1 (f := .glo "is_number") rfl),
    g_is_tuple_of := He.glo_ok X G (c.fact 2 (f := .glo "is_tuple_of") rfl),
    g_are_wholes := He.glo_ok X G (c.fact 3 (f := .glo "are_wholes") rfl),
    g_all_below := He.glo_ok X G (c.fact 4 (f := .glo "all_below") rfl),
    g_are_rising := He.glo_ok X G (c.fact 5 (f := .glo "are_rising") rfl),
    g_is_word := He.glo_ok X G (c.fact 6 (f := .glo "is_word") rfl),
    g_common_part := He.glo_ok X G (c.fact 7 (f := .glo "common_part") rfl),
    g_is_measure_or_none := He.glo_ok X G (c.fact 8 (f := .glo "is_measure_or_none") rfl),
    g_measure_or := He.glo_ok X G (c.fact 9 (f := .glo "measure_or") rfl),
    g_fits := He.glo_ok X G (c.fact 10 (f := .glo "fits") rfl),
    g_fitting_of := He.glo_ok X G (c.fact 11 (f := .glo "fitting_of") rfl),
    g_first_bare := He.glo_ok X G (c.fact 12 (f := .glo "first_bare") rfl),
    g_fewest_of := He.glo_ok X G (c.fact 13 (f := .glo "fewest_of") rfl),
    g_stock_for := He.glo_ok X G (c.fact 14 (f := .glo "stock_for") rfl),
    g_slip_of := He.glo_ok X G (c.fact 15 (f := .glo "slip_of") rfl),
    g_are_marks := He.glo_ok X G (c.fact 16 (f := .glo "are_marks") rfl),
    g_is_rule := He.glo_ok X G (c.fact 17 (f := .glo "is_rule") rfl),
    g_is_span := He.glo_ok X G (c.fact 18 (f := .glo "is_span") rfl),
    g_broken := He.glo_ok X G (c.fact 19 (f := .glo "broken") rfl),
    g_pairs_of := He.glo_ok X G (c.fact 20 (f := .glo "pairs_of") rfl),
    g_first_broken := He.glo_ok X G (c.fact 21 (f := .glo "first_broken") rfl),
    g_pair_for := He.glo_ok X G (c.fact 22 (f := .glo "pair_for") rfl),
    g_is_paper := He.glo_ok X G (c.fact 23 (f := .glo "is_paper") rfl),
    g_are_papers := He.glo_ok X G (c.fact 24 (f := .glo "are_papers") rfl),
    g_shows_pair := He.glo_ok X G (c.fact 25 (f := .glo "shows_pair") rfl),
    g_shares := He.glo_ok X G (c.fact 26 (f := .glo "shares") rfl),
    g_are_sizes := He.glo_ok X G (c.fact 27 (f := .glo "are_sizes") rfl),
    g_are_apart := He.glo_ok X G (c.fact 28 (f := .glo "are_apart") rfl),
    g_shows_stock := He.glo_ok X G (c.fact 29 (f := .glo "shows_stock") rfl),
    g_l_hand := He.glo_ok X G (c.fact 30 (f := .glo "_law_hand") rfl),
    g_l_take := He.glo_ok X G (c.fact 31 (f := .glo "_law_take") rfl),
    g_l_pick := He.glo_ok X G (c.fact 32 (f := .glo "_law_pick") rfl),
    g_l_plain := He.glo_ok X G (c.fact 33 (f := .glo "_law_plain") rfl),
    g_l_sum := He.glo_ok X G (c.fact 34 (f := .glo "_law_sum") rfl),
    g_l_measures := He.glo_ok X G (c.fact 35 (f := .glo "_law_measures") rfl),
    g_l_part := He.glo_ok X G (c.fact 36 (f := .glo "_law_part") rfl),
    g_l_marks_of := He.glo_ok X G (c.fact 37 (f := .glo "_law_marks_of") rfl),
    g_l_grades := He.glo_ok X G (c.fact 38 (f := .glo "_law_grades") rfl),
    g_l_broad := He.glo_ok X G (c.fact 39 (f := .glo "_law_broad") rfl),
    g_l_any_ladder := He.glo_ok X G (c.fact 40 (f := .glo "_law_any_ladder") rfl),
    g_l_foot_of := He.glo_ok X G (c.fact 41 (f := .glo "_law_foot_of") rfl),
    g_l_loose := He.glo_ok X G (c.fact 42 (f := .glo "_law_loose") rfl),
    g_l_feet_of := He.glo_ok X G (c.fact 43 (f := .glo "_law_feet_of") rfl),
    g_l_lots := He.glo_ok X G (c.fact 44 (f := .glo "_law_lots") rfl),
    g_l_stock_right := He.glo_ok X G (c.fact 45 (f := .glo "_law_stock_right") rfl),
    g_l_pairs_right := He.glo_ok X G (c.fact 46 (f := .glo "_law_pairs_right") rfl),
    g_law := He.glo_ok X G (c.fact 47 (f := .glo "law") rfl),
    g_Measure := He.glo_ok X G (c.fact 48 (f := .glo "Measure") rfl),
    g_Ladder := He.glo_ok X G (c.fact 49 (f := .glo "Ladder") rfl),
    g_Grid := He.glo_ok X G (c.fact 50 (f := .glo "Grid") rfl),
    g_RULES := He.glo_ok X G (c.fact 51 (f := .glo "RULES") rfl),
    v_MOST_MARKS := He.int_ok X G (c.fact 52 (f := .int "MOST_MARKS" 24) rfl),
    z_abs := He.free_ok X G (c.fact 53 (f := .free "abs") rfl),
    z_all := He.free_ok X G (c.fact 54 (f := .free "all") rfl),
    z_any := He.free_ok X G (c.fact 55 (f := .free "any") rfl),
    z_bool := He.free_ok X G (c.fact 56 (f := .free "bool") rfl),
    z_enumerate := He.free_ok X G (c.fact 57 (f := .free "enumerate") rfl),
    z_int := He.free_ok X G (c.fact 58 (f := .free "int") rfl),
    z_isinstance := He.free_ok X G (c.fact 59 (f := .free "isinstance") rfl),
    z_len := He.free_ok X G (c.fact 60 (f := .free "len") rfl),
    z_max := He.free_ok X G (c.fact 61 (f := .free "max") rfl),
    z_min := He.free_ok X G (c.fact 62 (f := .free "min") rfl),
    z_range := He.free_ok X G (c.fact 63 (f := .free "range") rfl),
    z_sorted := He.free_ok X G (c.fact 64 (f := .free "sorted") rfl),
    z_str := He.free_ok X G (c.fact 65 (f := .free "str") rfl),
    z_tuple := He.free_ok X G (c.fact 66 (f := .free "tuple") rfl),
    z_zip := He.free_ok X G (c.fact 67 (f := .free "zip") rfl),
    cl_Measure := He.cls_ok (c.fact 68 (f := .cls "Measure") rfl),
    na_Measure_top := He.noat_ok (c.fact 69 (f := .noat "Measure" "top") rfl),
    na_Measure_bottom := He.noat_ok (c.fact 70 (f := .noat "Measure" "bottom") rfl),
    me_Measure_plus := He.meth_ok (c.fact 71 (f := .meth "Measure" "plus") rfl),
    me_Measure_minus := He.meth_ok (c.fact 72 (f := .meth "Measure" "minus") rfl),
    me_Measure_times := He.meth_ok (c.fact 73 (f := .meth "Measure" "times") rfl),
    me_Measure_is_below := He.meth_ok (c.fact 74 (f := .meth "Measure" "is_below") rfl),
    mk_Measure := He.mkr_ok (c.fact 75 (f := .mkr "Measure") rfl),
    cl_Ladder := He.cls_ok (c.fact 76 (f := .cls "Ladder") rfl),
    na_Ladder_marks := He.noat_ok (c.fact 77 (f := .noat "Ladder" "marks") rfl),
    na_Ladder_rule := He.noat_ok (c.fact 78 (f := .noat "Ladder" "rule") rfl),
    na_Ladder_least := He.noat_ok (c.fact 79 (f := .noat "Ladder" "least") rfl),
    na_Ladder_most := He.noat_ok (c.fact 80 (f := .noat "Ladder" "most") rfl),
    me_Ladder_len := He.meth_ok (c.fact 81 (f := .meth "Ladder" "__len__") rfl),
    mk_Ladder := He.mkr_ok (c.fact 82 (f := .mkr "Ladder") rfl),
    cl_Grid := He.cls_ok (c.fact 83 (f := .cls "Grid") rfl),
    na_Grid_lengths := He.noat_ok (c.fact 84 (f := .noat "Grid" "lengths") rfl),
    na_Grid_breadths := He.noat_ok (c.fact 85 (f := .noat "Grid" "breadths") rfl),
    na_Grid_grade := He.noat_ok (c.fact 86 (f := .noat "Grid" "grade") rfl),
    me_Grid_long_mark := He.meth_ok (c.fact 87 (f := .meth "Grid" "long_mark") rfl),
    me_Grid_broad_mark := He.meth_ok (c.fact 88 (f := .meth "Grid" "broad_mark") rfl),
    me_Grid_graded := He.meth_ok (c.fact 89 (f := .meth "Grid" "graded") rfl),
    mk_Grid := He.mkr_ok (c.fact 90 (f := .mkr "Grid") rfl),
    ii_Measure := isC_ok (ex_at cx 0 (f := isCB "Measure") rfl),
    ii_Ladder := isC_ok (ex_at cx 1 (f := isCB "Ladder") rfl),
    tp_RULES := tup_ok (ex_at cx 2 (f := tupB "RULES" ["up", "down", "near"]) rfl),
    k_Measure_Measure := kitF_ok (ex_at cx 3 (f := kitF (.inl "Measure") (.inl "Measure") true) rfl),
    k_Ladder_Ladder := kitF_ok (ex_at cx 4 (f := kitF (.inl "Ladder") (.inl "Ladder") true) rfl),
    f_is_whole := F0,
    f_is_number := F1,
    f_is_tuple_of := F2,
    f_are_wholes := F3,
    f_all_below := F4,
    f_are_rising := F5,
    f_is_word := F6,
    f_common_part := F7,
    f_Measure_init := F8,
    f_Measure_plus := F9,
    f_Measure_minus := F10,
    f_Measure_times := F11,
    f_Measure_is_below := F12,
    f_is_measure_or_none := F13,
    f_measure_or := F14,
    f_fits := F15,
    f_fitting_of := F16,
    f_first_bare := F17,
    f_fewest_of := F18,
    f_stock_for := F19,
    f_slip_of := F20,
    f_are_marks := F21,
    f_is_rule := F22,
    f_is_span := F23,
    f_Ladder_init := F24,
    f_Ladder_len := F25,
    f_Grid_init := F26,
    f_Grid_long_mark := F27,
    f_Grid_broad_mark := F28,
    f_Grid_graded := F29,
    f_broken := F30,
    f_pairs_of := F31,
    f_first_broken := F32,
    f_pair_for := F33,
    f_is_paper := F34,
    f_are_papers := F35,
    f_shows_pair := F36,
    f_shares := F37,
    f_are_sizes := F38,
    f_are_apart := F39,
    f_shows_stock := F40,
    f_l_hand := F41,
    f_l_take := F42,
    f_l_pick := F43,
    f_l_plain := F44,
    f_l_sum := F45,
    f_l_measures := F46,
    f_l_part := F47,
    f_l_marks_of := F48,
    f_l_grades := F49,
    f_l_broad := F50,
    f_l_any_ladder := F51,
    f_l_foot_of := F52,
    f_l_loose := F53,
    f_l_feet_of := F54,
    f_l_lots := F55,
    f_l_stock_right := F56,
    f_l_pairs_right := F57,
    f_law := F58 }
def sp_law (K : PySem.W.Frag) : Sp := fun vs H Q _ => ∃ (a : Addr) (ns : List Int), vs = [.ref a] ∧ SqL K H a (ns.map V.int) ∧ ns.length ≤ 63 ∧ ∀ H', Q (.bl true) H'

end K73
open PySem PySem.W PySem.Calls PyProof.Rows in
set_option maxRecDepth 100000 in
set_option maxHeartbeats 0 in
theorem K73.pre (hl : ∀ {P : Program} {w : World} {K : PySem.W.Frag} {mg : Str → Option Value} {base : Heap} {φ : K73.Fds} (T : K73.Txt K mg φ), L2.FnOk P w K mg base L2.CX0 11 (He.fAd K ("law", none)) φ.law K73.p_law (K73.sp_law K)) : PySem.Challenge.rw_sizeladders_k73_whole_stock_and_pairs.Holds := by
  w_on; o_law
  refine HandSHeadRun.head_any (r := OpenLaw.row PySem.Challenge.rw_sizeladders_k73_whole_stock_and_pairs) (q := view (OpenLaw.row PySem.Challenge.rw_sizeladders_k73_whole_stock_and_pairs).prog [72]) (H := K73.hk) (ob := K73.ob) (M := 20000) (loose := [("_wall" : PySem.Str), ("LadderError" : PySem.Str), ("NoMeasure" : PySem.Str), ("NoLadder" : PySem.Str), ("Slip" : PySem.Str), ("NoBottom" : PySem.Str), ("is_whole" : PySem.Str), ("is_number" : PySem.Str), ("is_tuple_of" : PySem.Str), ("are_wholes" : PySem.Str), ("all_below" : PySem.Str), ("are_rising" : PySem.Str), ("is_word" : PySem.Str), ("common_part" : PySem.Str), ("written" : PySem.Str), ("Measure" : PySem.Str), ("is_measure_or_none" : PySem.Str), ("measure_or" : PySem.Str), ("fits" : PySem.Str), ("fitting_of" : PySem.Str), ("first_bare" : PySem.Str), ("fewest_of" : PySem.Str), ("stock_for" : PySem.Str), ("slip_of" : PySem.Str), ("MOST_MARKS" : PySem.Str), ("RULES" : PySem.Str), ("are_marks" : PySem.Str), ("is_rule" : PySem.Str), ("is_span" : PySem.Str), ("midsts_of" : PySem.Str), ("size_by_rule" : PySem.Str), ("bound_text" : PySem.Str), ("Ladder" : PySem.Str), ("Grid" : PySem.Str), ("broken" : PySem.Str), ("pairs_of" : PySem.Str), ("first_broken" : PySem.Str), ("pair_for" : PySem.Str), ("is_paper" : PySem.Str), ("are_papers" : PySem.Str), ("shows_pair" : PySem.Str), ("shares" : PySem.Str), ("are_sizes" : PySem.Str), ("are_apart" : PySem.Str), ("shows_stock" : PySem.Str), ("_law_hand" : PySem.Str), ("_law_take" : PySem.Str), ("_law_pick" : PySem.Str), ("_law_plain" : PySem.Str), ("_law_sum" : PySem.Str), ("_law_measures" : PySem.Str), ("_law_part" : PySem.Str), ("_law_marks_of" : PySem.Str), ("_law_grades" : PySem.Str), ("_law_broad" : PySem.Str), ("_law_any_ladder" : PySem.Str), ("_law_foot_of" : PySem.Str), ("_law_loose" : PySem.Str), ("_law_feet_of" : PySem.Str), ("_law_lots" : PySem.Str), ("_law_stock_right" : PySem.Str), ("_law_pairs_right" : PySem.Str)]) (d := HandSHeadRun.topDef (OpenLaw.row PySem.Challenge.rw_sizeladders_k73_whole_stock_and_pairs).prog 72) (kwd := []) K73.ob_eq
    (by kernel_rfl) (fun s => by kernel_rfl) K73.run (by kernel_rfl) (by kernel_rfl) (by kernel_rfl) (by rfl) (by first | assumption | decide +kernel) (by decide +kernel) ⟨rfl, rfl, rfl, rfl, rfl, by decide +kernel⟩ ?hw ?hc
  case hw => w_witness2
  case hc =>
    refine L2.walk_ofE (l := PySem.Challenge.rw_sizeladders_k73_whole_stock_and_pairs) (n := 63) (k := 11) (x := "_law_script") (CX := L2.CX0) rfl (by decide) (by kernel_rfl) ⟨rfl, by decide, by decide⟩ ?F (fun _ _ _ _ z => z)
    intro w mg fa h Y G hmg0
    obtain ⟨K, KX, c, cx⟩ := Y
    have hmg : mg ("law" : PySem.Str) = some (.ref fa) := by
      have e : (HandSHeadRun.topDef (OpenLaw.row PySem.Challenge.rw_sizeladders_k73_whole_stock_and_pairs).prog 72).name = ("law" : PySem.Str) := by kernel_rfl
      rw [← e]
      exact hmg0
    obtain ⟨φ, T⟩ := K73.facts KX G c cx
    have e := hmg.symm.trans T.g_law
    cases e
    have b := L2.FunD.bindsA (ps := K73.p_law) T.f_law fun _ _ _ _ _ _ us hl => match us, hl with | [_], _ => rfl
    exact ⟨K, φ.law, K73.sp_law K, KX, fun s v => b s [v] rfl, fun H a ns hl _ hS => ⟨a, ns, rfl, hS, hl, fun _ => rfl⟩, fun base _ _ => hl T⟩

namespace My
open PySem PySem.Spec PyProof.Rows L2
/-! ### enumerate of a tuple -/
theorem meets_en1 {v : Value} {o : Obj} {Hh : Heap → Prop} (B : Begins v o Hh) : Meets (Builtin.«enumerate.__new__» ⟨[.type "enumerate", v], []⟩) (fun _ R s => Hh s.heap ∧
      R (.ok (.ret (.ref (s.heap.push o).objs.size))) { s with heap := (s.heap.push o).push { cls := .type "enumerate", data := .fields #[.none, .bool false, .ref s.heap.objs.size, rawInt 0, .none, .none] } }) :=
  .of_wp fun prog w A R s hh => by
    obtain ⟨hp, g, d, tk, os⟩ := s
    obtain ⟨hb, hr⟩ := hh
    have sub := sub_enumerate
    have qi : ∀ {A' : Around} {E : Value → Shared → Prop} {Q : Value → Shared → Prop}, Q (.ref hp.objs.size) ⟨hp.push o, g, d, tk, os⟩ → wpAny (model prog w) A' (pyIter v) Q E ⟨hp, g, d, tk, os⟩ := fun q => B.iter prog w _ _ ⟨hp, g, d, tk, os⟩ _ hb q
    wp_walk using qi
    refine wpAny_stack_any fun st => wpAny_pure ?_
    split
    · rename_i c _ _ _ _ _
      cases (c == Value.type "enumerate")
      · wp_walk using qi
        exact ⟨_, rfl, hr⟩
      · wp_walk using qi
        exact ⟨_, rfl, hr⟩
    · wp_walk using qi
      exact ⟨_, rfl, hr⟩
theorem call_en1 {prog : Program} {w : World} {A : Around} {E : Value → Shared → Prop} {s : Shared} {v : Value} {o : Obj} {Hh : Heap → Prop} {Q : Value → Shared → Prop} (B : Begins v o Hh) (hb : Hh s.heap)
    (f : ∀ h', IsEnum h' (s.heap.objs.size + 1) s.heap.objs.size 0 .none → h'.get? s.heap.objs.size = some o → (∀ b u, s.heap.get? b = some u → h'.get? b = some u) → Q (.ref (s.heap.objs.size + 1)) { s with heap := h' }) :
    wpAny (model prog w) A (call (.type "enumerate") [v]) Q E s := by
  refine callType_new PySem.F.called_enumerate (by decide) (PySem.F.typeCall_enumerate_1 _) (PySem.F.newCall_enumerate_1 _) (fun ob => PySem.F.args_object_init_2 ob _) PySem.F.entry_enumerate_new (meets_en1 B) ⟨hb, ?_⟩
  have hz : (s.heap.push o).objs.size = s.heap.objs.size + 1 := Heap.size_push ..
  have en := Heap.get?_push_size (s.heap.push o) (o := { cls := .type "enumerate", data := .fields #[.none, .bool false, .ref s.heap.objs.size, rawInt 0, .none, .none] }) rfl
  show _ ∧ _
  rw [hz] at en ⊢
  exact ⟨⟨_, en, rfl⟩, f _ en (Heap.get?_push_of_some _ (Heap.get?_push_size _ B.free)) fun b u x => Heap.get?_push_of_some _ (Heap.get?_push_of_some _ x)⟩
/-- the tuple at a, its items in new pairs -/
def ItT (K : PySem.W.Frag) (a : Addr) : It :=
  ⟨fun i H => ∃ (xs : List V) (x : V), SqT K H a xs ∧ xs[i]? = some x, fun i H v H' => ∃ T x, v = .ref T ∧ H T = none ∧ H' = upd H T (.tup [.int (i : Nat), x]) ∧ ∀ xs, SqT K H a xs → xs[i]? = some x, fun i H => ∃ xs : List V, SqT K H a xs ∧ xs.length = i⟩
theorem ti_ne {h : Heap} {it a : Addr} {i : Nat} {its : Array Value} (x : h.IsTupleIter it a i) (y : h.IsTuple a its) : a ≠ it := by
  intro e
  subst e
  obtain ⟨o, e1, c1, _⟩ := x
  obtain ⟨o', e2, c2, _⟩ := y
  rw [e1] at e2
  cases e2
  rw [c1] at c2
  injection c2 with e
  exact absurd e (by decide)
theorem turn_enumT {P : Program} {w : World} {K : PySem.W.Frag} {elts : List Expr} {kk : Nat} {tpos : Pos} (a e it : Addr) :
    Turn P w K (.Tuple elts kk tpos) (ItT K a) [e, it] e (fun i h => (∃ old, IsEnum h e it ((i : Nat) : Int) old) ∧ h.IsTupleIter it a i ∧ e ≠ it ∧ e ≠ a) where
  mem := by simp
  obj := fun i h st b hb => by
    obtain ⟨⟨old, he⟩, ⟨o, ho, hc, hd⟩, _⟩ := st
    rcases (show b = e ∨ b = it by simpa using hb) with z | z
    · rw [z]; exact ⟨_, he, fun v q => nomatch q⟩
    · rw [z]; exact ⟨o, ho, fun v q => by rw [hd] at q; cases q⟩
  keep := fun i h h' st k => let ⟨⟨old, he⟩, hi, hne⟩ := st; ⟨⟨old, k e (by simp) _ he⟩, hi.at fun o q => k it (by simp) o q, hne⟩
  item := by
    intro X hP hw hK hc i pins s σ H E I hf st hg
    subst hP hw hK
    obtain ⟨⟨old, he⟩, hit, hne, hna⟩ := st
    obtain ⟨xs, x, hq, hx⟩ := hg
    obtain ⟨its, rv, p, hz⟩ := I.tuple hq
    have pT : s.heap.IsTuple a its.toArray := p
    obtain ⟨u, hu, ru⟩ := rv.get hx
    have hel : e < s.heap.objs.size := Heap.lt_size he
    have hil : it < s.heap.objs.size := by obtain ⟨_, q, _⟩ := hit; exact Heap.lt_size q
    have hi2 : i < its.toArray.size := by
      have := (List.getElem?_eq_some_iff.mp hu).1
      simpa using this
    have DD := Draws.tuple (prog := X.prog) (w := X.w) (A := X.A.in1) (I.ok.hd hc) it a (ti_ne hit pT) its.toArray
    refine wpAny_pyNext_enum_itemC DD he ⟨hit, pT⟩ hi2 hne (by simp [hne, hna]) fun y h' tk hy ho hst hT hsz hk => ?_
    have ey : y = u := by
      have : its[i]? = some y := by simpa using hy
      rw [hu] at this
      exact (Option.some.inj this).symm
    subst ey
    refine ⟨_, rfl, wpAny_letOwnedTupleGo_enum (s := { s with heap := h', toks := tk + 1 }) ho fun h'' he' sb => ?_⟩
    have hT2 : h''.get? s.heap.objs.size = some { cls := .type "tuple", data := .seq #[.int i tk, y] } := (sb.2 _ (Nat.ne_of_gt hel)).trans hT
    have new : ObjOk X.prog X.w (upd H s.heap.objs.size (.tup [.int (i : Nat), x])) h'' s.heap.objs.size (.tup [.int (i : Nat), x]) :=
      ⟨by show 2 ≤ sizeLine; decide, [.int i tk, y], .cons ⟨_, rfl⟩ (.cons ru .nil), ⟨_, hT2, rfl, _, rfl⟩⟩
    have I1 : Inv X pins σ (upd H s.heap.objs.size (.tup [.int (i : Nat), x])) { s with heap := h'', toks := tk + 1 } :=
      I.turnedNew (ch := [e, it]) (fun b ob hb q => (sb.2 b (fun z => hb (by simp [z]))).trans (hk b ob (fun z => hb (by simp [z])) (fun z => hb (by simp [z])) q)) hf (Nat.le_refl _) new
    refine ⟨.ref s.heap.objs.size, _, I1, rfl, ⟨_, x, rfl, I.hok.fresh (Nat.le_refl _), rfl, fun ys hy => by rw [I.tuple_inj hy hq]; exact hx⟩, ⟨⟨y, ?_⟩, hst.1.at fun o q => (sb.2 it (Ne.symm hne)).trans q, hne, hna⟩, fun b hb => ?_⟩
    · have e1 : ((i + 1 : Nat) : Int) = (i : Int) + 1 := by omega
      rw [e1]; exact he'
    · have hb' : b < s.heap.objs.size := by
        rcases (show b = e ∨ b = it by simpa using hb) with z | z
        · rw [z]; exact hel
        · rw [z]; exact hil
      rw [upd_ne (Nat.ne_of_lt hb')]
      exact (hf b hb).1
  done := by
    intro X hP hw hK hc i pins s σ H E I hf st hg
    subst hP hw hK
    obtain ⟨⟨old, he⟩, hit, hne, hna⟩ := st
    obtain ⟨xs, hq, hx⟩ := hg
    obtain ⟨its, rv, p, hz⟩ := I.tuple hq
    have pT : s.heap.IsTuple a its.toArray := p
    obtain ⟨f0, f1, f2, f3, f4, f5⟩ := hf it (by simp)
    have hl := rv.length
    have hi : i = its.toArray.size := by rw [List.size_toArray]; omega
    have DD := Draws.tuple (prog := X.prog) (w := X.w) (A := X.A.in1) (I.ok.hd hc) it a (ti_ne hit pT) its.toArray
    exact wpAny_pyNext_enum_endD DD he ⟨by rw [← hi]; exact hit, pT⟩ fun h' eb => ⟨rfl, I.turned (t' := s.toks) (fun b o hb q => eb b o hb q) f0 f1 f3 f4 f5⟩
  self := fun A i s Q E st h => let ⟨⟨_, he⟩, _⟩ := st; wpAny_pyIter_enum he h
def iEnumT (K : PySem.W.Frag) (ta : TA) : TI := fun σ H R => ta σ H fun vs H1 => ∃ a xs, vs = [.ref a] ∧ SqT K H1 a xs ∧ R (ItT K a) H1
theorem pi_enumT {X : Cx} {e : Expr} {ta : TA} {p pos tpos : Pos} {elts : List Expr} {kk : Nat} (hg : Gl X "enumerate") (hm : X.mg "enumerate" = none) (ha : PA X [e] ta) (hs : starEach [e] X.env = [(false, eval e X.env)] := by rfl) :
    PI X (.Tuple elts kk tpos) (.Call (.Name "enumerate" p) [e] [] pos) (iEnumT X.K ta) := by
  refine ⟨fun pins s σ H R I h => ?_⟩
  refine Call_ (ld_blt I hg hm boot_enumerate (PyProof.Rows.callWith_type1 (thn (ha.run pos pins s σ H _ I h) fun us s1 ⟨vs, H1, I1, r1, q1⟩ => ?_) hs rfl))
  obtain ⟨a, xs, ex, hq, q⟩ := q1
  subst ex
  cases r1 with
  | cons r rr =>
    cases rr
    cases r
    obtain ⟨its, rv, p', hz⟩ := I1.tuple hq
    have pT : s1.heap.IsTuple a its.toArray := p'
    have la : a < s1.heap.objs.size := by obtain ⟨_, q, _⟩ := pT; exact Heap.lt_size q
    refine call_en1 (begins_tuple a its.toArray) pT fun h' he hit hk => wpAny_pyIter_enum he ?_
    have I2 : Inv X pins σ H1 { s1 with heap := h' } := I1.kept (t' := s1.toks) hk
    refine ⟨s1.heap.objs.size + 1, [s1.heap.objs.size + 1, s1.heap.objs.size], _, _, H1, rfl, I2, turn_enumT a (s1.heap.objs.size + 1) s1.heap.objs.size, ⟨⟨.none, he⟩, ⟨_, hit, rfl, rfl⟩, Nat.succ_ne_self _, Nat.ne_of_gt (Nat.lt_succ_of_lt la)⟩, fun b hb => ?_, q⟩
    have hle : s1.heap.objs.size ≤ b := by
      rcases (show b = s1.heap.objs.size + 1 ∨ b = s1.heap.objs.size by simpa using hb) with z | z
      · rw [z]; exact Nat.le_add_right _ _
      · rw [z]; exact Nat.le_refl _
    exact I1.fpOk hle (I1.hok.fresh hle)
theorem walk_enumT {K : PySem.W.Frag} {a : Addr} {xs : List V} : Walk (ItT K a) xs.length (fun H => SqT K H a xs) (YPair (fun i => some (.int (i : Nat))) (fun i => xs[i]?)) := by
  refine ⟨fun i _ hi q => ⟨xs, xs[i], q, by simp [hi]⟩, fun _ q => ⟨xs, q, rfl⟩, fun i H v H' _ q y => ?_⟩
  obtain ⟨T, x, h1, h2, h3, h4⟩ := y
  exact ⟨T, .int (i : Nat), x, h1, h2, h3, rfl, h4 xs q⟩
section
variable {X : Cx}
/-! ### len of an own object -/
theorem call_lenO {CX : CXT} {n : Nat} {C f : Addr} {fd : FuncData} {ps : List Str} {sp : Sp} {E : XK} (F : FnOk X.prog X.w X.K X.mg X.base CX n f fd ps sp) (hm : Meth X.K C "__len__" f) (hb : Binds X.K fd ps []) (hx : Passes CX X E) (hr : Room (n + 1) X.A) :
    CallR X (.builtin "len") (fun xs H Q => ∃ x a dx fs, xs = [x] ∧ x = .ref a ∧ H a = some (.ins C dx fs) ∧ sp [.ref a] H (fun v H' => ∃ k : Nat, v = .int (k : Int) ∧ k < 1000 ∧ Q (.int (k : Int)) H') E) := by
  intro pins s σ H xs us Q I r h
  obtain ⟨x, a, dx, fs, rfl, rfl, ha, h⟩ := h
  obtain ⟨u, rfl, r1⟩ := vals1 r
  cases (show u = Value.ref a from r1)
  obtain ⟨mA, J, _⟩ := ins_get I.hok ha
  obtain ⟨od, J, _⟩ := J.look
  obtain ⟨m, hF⟩ := I.fr
  have sb : Sub X (n + 1) X.A := ⟨hr, rfl⟩
  refine PySem.W.len_K hF I.ok.mod.kin J hm.at_ hm.fn ?_
  refine thn (fn_at F hb hx sb.in1 I (vs := [.ref a]) (.cons rfl .nil) h) fun u s' q => ?_
  obtain ⟨v, H', I', rv, k, rfl, hk, q⟩ := q
  obtain ⟨t, rfl⟩ := rv
  exact ⟨⟨by omega, by omega⟩, .int (k : Int), H', I'.tok _, ⟨_, rfl⟩, q⟩
end
/-! ### max and min with a default -/
theorem ints_depth : ∀ ns : List Int, PyData.depthAll (ns.map PyData.int) ≤ 1
  | [] => by simp [PyData.depthAll]
  | n :: ns => by
    have := ints_depth ns
    simp [PyData.depthAll, PyData.depth] at this ⊢
    omega
section
variable {X : Cx} {K : PySem.W.Frag}
/-! ### xs[::k] -/
def rTupL (K : PySem.W.Frag) : List V → Hp → VK → Prop := fun xs H Q => ∃ (p : Addr) (ys : List V), xs = [.ref p] ∧ SqL K H p ys ∧ ∀ l, H l = none → Q (.ref l) (upd H l (.tup ys))
theorem tupleL (hK : X.K = K := by rfl) : CallR X (.type "tuple") (rTupL K) := by
  subst hK
  intro pins s σ H xs us Q I r h
  obtain ⟨p, ys, e, h1, h2⟩ := h
  exact call_tuple_of pins s σ H xs us Q I r ⟨p, ys, e, .inl ⟨h1, h2⟩⟩
end
theorem logS {m : Int} (h : m.natAbs < 2 ^ 60) : m.natAbs.log2 < 9000 := Nat.lt_of_lt_of_le (PySem.Flt.log2_lt_of (by decide) h) (by decide)
theorem szl {n : Nat} (h : n ≤ 1000) : n ≤ sizeLine := Nat.le_trans h (by decide)
theorem szb {n : Nat} (h : Nat.ble n 1000 = true) : n ≤ sizeLine := szl (Nat.le_of_ble_eq_true h)
theorem szs {n : Nat} (h : n < 1000) : n < sizeLine := Nat.lt_of_lt_of_le h (by decide)
theorem atI_end {xs : List V} {n : Nat} {v : V} (hn : n + 1 = xs.length) (h : xs[n]? = some v) : atI xs (-1) = some v := by
  have e : ixN xs.length (-1) = some n := by
    unfold ixN
    rw [if_neg (by decide), if_pos (by omega)]
    exact congrArg some (by omega)
  unfold atI
  rw [e]
  exact h
theorem qmk_pos {a b : Int} (h : 0 < b) : qmk a b = (a, b) := by
  have e : sgn b = 1 := by unfold sgn; rw [if_pos h]
  unfold qmk
  rw [e, Int.mul_one, Int.mul_one]
/-- a Measure is made -/
theorem q_made {C : Addr} {H : Hp} {Qa : Addr → Hp → Prop} {E : XK} {k : Nat} {a b : Int} (hb : 0 < b) (sa : Sz k a) (sb : Sz k b) (k0 : 0 < k) (k1 : k ≤ 8900) (f : ∀ (p : Addr) (H' : Hp), Same H H' → QAt C H' p k (a, b) → Qa p H') :
    ∀ x dx, H x = none → H dx = none → dx ≠ x → sp_minit C [.ref x, .int a, .int b] (upd (upd H dx (.own x)) x (.ins C dx [])) (fun v H2 => v = .non ∧ Qa x H2) E := by
  intro x dx nx nd ne
  refine ⟨x, dx, a, b, rfl, upd_same, by omega, Sz.log sb k0 (by omega), fun t u H' fr hx kp => ⟨rfl, ?_⟩⟩
  have q := q_mk (k := k) ⟨dx, hx⟩ fr (by omega) sa sb
  rw [qmk_pos hb] at q
  exact f x H' (made_same nx nd kp) q
/-! ### draws -/
/-- one of a list -/
def sp_of (K : PySem.W.Frag) : Sp := fun vs H Q _ => ∃ (h l : Addr) (n : Nat) (xs : List V), vs = [.ref h, .ref l] ∧ HandAt H h n ∧ n < 100000 ∧ SqL K H l xs ∧ l ≠ h ∧ 0 < xs.length ∧ xs.length ≤ 1000 ∧
  ∀ (i : Nat) (x : V) (H' : Hp), xs[i]? = some x → HandAt H' h (n + 1) → Kp h H H' → Q x H'
end My
namespace My
open PySem PySem.Spec PyProof.Rows L2
theorem HandAt.put {H : Hp} {h l : Addr} {u : HO} {n : Nat} (a : HandAt H h n) (ne : l ≠ h) : HandAt (upd H l u) h n := by
  obtain ⟨x, y, z, h1, h2⟩ := a
  exact ⟨x, y, z, by rw [upd_ne ne.symm]; exact h1, h2⟩
theorem Kp.fresh {h l : Addr} {H H1 : Hp} (k : Kp h H H1) (hn : H1 l = none) (ne : l ≠ h) : H l = none := by
  cases e : H l with
  | none => rfl
  | some o => rw [k l o e ne] at hn; cases hn
theorem Kp.putN {h l : Addr} {H H1 : Hp} {u : HO} (k : Kp h H H1) (hn : H l = none) : Kp h H (upd H1 l u) := fun c o e n => by
  rw [upd_ne (ne_of_none e hn)]; exact k c o e n
theorem geI {n : Nat} {zs : List Int} (h : n < zs.length) : ∃ a, zs[n]? = some a := ⟨_, List.getElem?_eq_getElem h⟩
def optZ : Option Int → V
  | none => .non
  | some z => .int z
/-- a ladder in whole parts, as the laws draw it -/
structure LawL (H : Hp) (p : Addr) (part : Int) (ms : List Int) (r : Str) (lo hi : Option Int) : Prop where
  ob : ∃ T, H p = some (.tup [.int part, .ref T, .str r, optZ lo, optZ hi]) ∧ H T = some (.tup (ms.map V.int))
  p0 : 0 < part
  p1 : part ≤ 10007
  len0 : 0 < ms.length
  len1 : ms.length ≤ 24
  rise : ∀ (i : Nat) (a b : Int), ms[i]? = some a → ms[i + 1]? = some b → a < b
  four : ∀ m ∈ ms, m % 4 = 0
  bnd : ∀ m ∈ ms, -4000000 ≤ m ∧ m ≤ 4000000
  blo : ∀ z, lo = some z → -4000040 ≤ z ∧ z ≤ 4000040
  bhi : ∀ z, hi = some z → -4000040 ≤ z ∧ z ≤ 4000040
  rule : IsRule r
  span : ∀ a b, lo = some a → hi = some b → a ≤ b
section
variable {H H' : Hp} {p : Addr} {part : Int} {ms : List Int} {r : Str} {lo hi : Option Int}
theorem LawL.same (a : LawL H p part ms r lo hi) (s : Same H H') : LawL H' p part ms r lo hi := by
  obtain ⟨⟨T, h1, h2⟩, a1⟩ := a
  exact ⟨⟨T, s _ _ h1, s _ _ h2⟩, by assumption, by assumption, by assumption, by assumption, by assumption, by assumption, by assumption, by assumption, by assumption, by assumption, by assumption⟩
/-- the parts as fractions -/
def zq (d : Int) (ms : List Int) : List Q2 := ms.map fun m => (m, d)
def oq (d : Int) (o : Option Int) : Option Q2 := o.map fun m => (m, d)
end
theorem map_snoc (ms : List Int) (x : Int) : ms.map V.int ++ [V.int x] = (ms ++ [x]).map V.int := by simp
/-- whole numbers within a bound -/
def IntsB (B : Int) (xs : List V) : Prop := ∀ x ∈ xs, ∃ z : Int, x = .int z ∧ -B ≤ z ∧ z ≤ B
theorem IntsB.app {B : Int} {xs ys : List V} (a : IntsB B xs) (b : IntsB B ys) : IntsB B (xs ++ ys) := fun x h => by
  rcases List.mem_append.mp h with h | h
  · exact a x h
  · exact b x h
theorem IntsB.mono {B B' : Int} {xs : List V} (a : IntsB B xs) (l : B ≤ B') : IntsB B' xs := fun x h => by
  obtain ⟨z, e, h1, h2⟩ := a x h
  exact ⟨z, e, by omega, by omega⟩
theorem IntsB.ints {B : Int} : ∀ {xs : List V}, IntsB B xs → ∃ ys : List Int, xs = ys.map V.int ∧ ∀ y ∈ ys, -B ≤ y ∧ y ≤ B
  | [], _ => ⟨[], rfl, fun y h => by simp at h⟩
  | x :: xs, a => by
    obtain ⟨z, rfl, h1⟩ := a x (by simp)
    obtain ⟨ys, e, h2⟩ := IntsB.ints (xs := xs) fun w hw => a w (by simp [hw])
    refine ⟨z :: ys, by rw [e]; rfl, fun y hy => ?_⟩
    rcases List.mem_cons.mp hy with e | e
    · rw [e]; exact h1
    · exact h2 y e
theorem IntsB.of {B : Int} {ms : List Int} (h : ∀ m ∈ ms, -B ≤ m ∧ m ≤ B) : IntsB B (ms.map V.int) := fun x hx => by
  obtain ⟨m, hm, rfl⟩ := List.mem_map.mp hx
  exact ⟨m, rfl, h m hm⟩
/-! ### sizes by whole numbers -/
abbrev RiseI (ms : List Int) : Prop := ∀ (i : Nat) (a b : Int), ms[i]? = some a → ms[i + 1]? = some b → a < b
theorem RiseI.tail {x : Int} {ms : List Int} (h : RiseI (x :: ms)) : RiseI ms := fun i a b h1 h2 => h (i + 1) a b (by simpa using h1) (by simpa using h2)
theorem RiseI.head : ∀ {ms : List Int} {x : Int}, RiseI (x :: ms) → ∀ m ∈ ms, x < m
  | [], _, _, m, hm => by simp at hm
  | y :: ms, x, h, m, hm => by
    have h0 : x < y := h 0 x y rfl rfl
    rcases List.mem_cons.mp hm with e | e
    · rw [e]; exact h0
    · have := RiseI.head h.tail m e
      omega
theorem RiseI.lt {ms : List Int} (h : RiseI ms) : ∀ {j : Nat} {i : Nat} {a b : Int}, i < j → ms[i]? = some a → ms[j]? = some b → a < b
  | 0, _, _, _, hi, _, _ => by omega
  | j + 1, i, a, b, hi, ha, hb => by
    obtain ⟨c, hc⟩ := geI (zs := ms) (n := j) (by have := (List.getElem?_eq_some_iff.mp hb).1; omega)
    have h1 := h j c b hc hb
    by_cases e : i = j
    · subst e
      rw [ha] at hc
      cases hc
      exact h1
    · have := RiseI.lt h (show i < j by omega) ha hc
      omega
section
variable {ms : List Int} {d z : Int} {lo hi : Option Q2}
end
/-- the numbers from 0 on of which c holds -/
def idx (n : Nat) (c : Nat → Bool) : List Int := ((List.range n).filter c).map fun k : Nat => (k : Int)
theorem idx_mem {n : Nat} {c : Nat → Bool} {m : Int} : m ∈ idx n c ↔ ∃ k : Nat, k < n ∧ c k = true ∧ m = k := by
  unfold idx
  simp only [List.mem_map, List.mem_filter, List.mem_range]
  exact ⟨fun ⟨k, ⟨h1, h2⟩, h3⟩ => ⟨k, h1, h2, h3.symm⟩, fun ⟨k, h1, h2, h3⟩ => ⟨k, ⟨h1, h2⟩, h3.symm⟩⟩
def oIdx (n : Nat) (c : Nat → Bool) : List (Option V) := (List.range n).map fun k => if c k then some (.int (k : Int)) else none
theorem oIdx_len (n : Nat) (c : Nat → Bool) : (oIdx n c).length = n := by unfold oIdx; simp
theorem oIdx_get {n i : Nat} {c : Nat → Bool} {z : Option V} (h : (oIdx n c)[i]? = some z) : z = if c i then some (.int (i : Int)) else none := by
  unfold oIdx at h
  rw [List.getElem?_map] at h
  by_cases hi : i < n
  · rw [List.getElem?_range hi] at h
    exact (Option.some.inj h).symm
  · rw [List.getElem?_eq_none (by simpa using hi)] at h
    cases h
theorem oIdx_fm (n : Nat) (c : Nat → Bool) : (oIdx n c).filterMap _root_.id = (idx n c).map V.int := by
  unfold oIdx idx
  rw [List.filterMap_map, List.map_map]
  generalize List.range n = l
  induction l with
  | nil => rfl
  | cons x l ih =>
    rw [List.filterMap_cons, List.filter_cons]
    cases e : c x
    · simpa [e] using ih
    · simpa [e] using ih
/-! ### what the laws' own defs promise -/
end My
namespace My
open PySem PySem.Spec PyProof.Rows L2
/-! ### the stretches of a ladder's sizes -/
section
variable {X : Cx} {K : PySem.W.Frag}
end
def endQ (zs : List Q2) (i : Int) : Option Q2 := if 0 ≤ i ∧ i < zs.length then zs[i.toNat]? else none
/-- both ends of a size by the rule alone, and whether they are in -/
def rulE (zs : List Q2) (r : Str) (n : Nat) : (Option Q2 × Bool) × (Option Q2 × Bool) :=
  if r = "up" then ((endQ zs ((n : Int) - 1), false), (zs[n]?, true)) else if r = "down" then ((zs[n]?, true), (endQ zs ((n : Int) + 1), false)) else ((endQ (midq zs) ((n : Int) - 1), true), (endQ (midq zs) n, false))
/-- a Stretch whose ends are these fractions -/
def StQ (CM CS : Addr) (H : Hp) (p : Addr) (x y : Option Q2 × Bool) : Prop := ∃ lo hi, StAt CM CS H p lo hi (x.2 && x.1.isSome) (y.2 && y.1.isSome) ∧ ReO lo x.1 ∧ ReO hi y.1
theorem StQ.same {CM CS p : Addr} {H H' : Hp} {x y : Option Q2 × Bool} (a : StQ CM CS H p x y) (s : Same H H') : StQ CM CS H' p x y := by
  obtain ⟨lo, hi, h1, h2, h3⟩ := a
  exact ⟨lo, hi, h1.same s, h2, h3⟩
def CutQ (CM CS : Addr) (H : Hp) (v : V) (x y : Option Q2 × Bool) : Prop := ∃ x' y', CutV CM CS H v x' y' ∧ Alike x' x ∧ Alike y' y
theorem CutQ.same {CM CS : Addr} {H H' : Hp} {v : V} {x y : Option Q2 × Bool} (a : CutQ CM CS H v x y) (s : Same H H') : CutQ CM CS H' v x y := by
  obtain ⟨x', y', h1, h2, h3⟩ := a
  exact ⟨x', y', h1.same s, h2, h3⟩
/-- both ends of a size's stretch -/
def sizE (zs : List Q2) (r : Str) (lo hi : Option Q2) (n : Nat) : (Option Q2 × Bool) × (Option Q2 × Bool) :=
  (cutLo (rulE zs r n).1.1 (rulE zs r n).1.2 lo true, cutHi (rulE zs r n).2.1 (rulE zs r n).2.2 hi true)
def sp_llen (K : PySem.W.Frag) (CM CL : Addr) : Sp := fun vs H Q _ => ∃ (p : Addr) (k : Nat) (zs : List Q2) (r : Str) (lo hi : Option Q2), vs = [.ref p] ∧ LadAt K CM CL H p k zs r lo hi ∧ Q (.int (zs.length : Nat)) H
/-! between neighbours there is something -/
/-- the fractions' bottoms are above nought -/
def PosL (zs : List Q2) : Prop := ∀ z ∈ zs, 0 < z.2
theorem Mks.posL {C : Addr} {H : Hp} {k : Nat} {ps : List V} {zs : List Q2} (m : Mks C H k ps zs) : PosL zs := fun z hz => by
  obtain ⟨i, hi⟩ := List.mem_iff_getElem?.mp hz
  obtain ⟨p, _, q⟩ := m.at hi
  exact q.pos
end My
namespace My
open PySem PySem.Spec PyProof.Rows L2
/-! ### defs that are called where no text of a list or tuple is under way -/
section
variable {P : Program} {w : World} {K : PySem.W.Frag} {mg : Str → Option Value} {base : Heap} {x qual : Str} {params : Arguments} {body : List Stmt} {scope : Scope} {dvs : List V} {kws : List (Str × V)} {f : Addr} {fd : FuncData}
end
section
variable {X : Cx} {CX : CXT} {k : Nat} {f : Addr} {fd : FuncData} {ps : List Str} {sp : Sp} {dvs : List V} {ds : List Value} {E : XK} {x : Str} {p pos : Pos} {e : Expr} {es : List Expr} {t : TA}
end
/-! ### the law is called where none is under way -/
end My
namespace My
open PySem PySem.Spec PyProof.Rows L2
/-! ### tuples: sums and slices, whatever their lengths -/
section
variable {X : Cx} {K : PySem.W.Frag}
end
theorem cutV_drop (xs : List V) {i : Int} {n : Nat} (e : i = (n : Int)) : cutV xs (some i) none = xs.drop n := by
  subst e
  unfold cutV
  rw [HT.sIx_none, HT.sIx_nat]
  by_cases h : n ≤ xs.length
  · rw [Nat.min_eq_left h, List.take_of_length_le (by rw [List.length_drop]; omega)]
  · rw [Nat.min_eq_right (by omega), Nat.sub_self, List.take_zero, List.drop_eq_nil_of_le (by omega)]
/-! ### rows, as the laws draw them -/
structure RowsL (H : Hp) (p : Addr) (part : Int) (ts : List Int) : Prop where
  ob : ∃ T, H p = some (.tup [.int part, .ref T]) ∧ H T = some (.tup (ts.map V.int))
  p0 : 0 < part
  p1 : part ≤ 10007
  len0 : 0 < ts.length
  len1 : ts.length ≤ 24
  bnd : ∀ t ∈ ts, -2000000 ≤ t ∧ t ≤ 2000000
theorem RowsL.same {H H' : Hp} {p : Addr} {part : Int} {ts : List Int} (a : RowsL H p part ts) (s : Same H H') : RowsL H' p part ts := by
  obtain ⟨⟨T, h1, h2⟩, a1, a2, a3, a4, a5⟩ := a
  exact ⟨⟨T, s _ _ h1, s _ _ h2⟩, a1, a2, a3, a4, a5⟩
/-! ### tuples of whole numbers as data -/
def intsD (zs : List Int) : PyData := .tuple (zs.map PyData.int)
theorem dpI {K : PySem.W.Frag} {H : Hp} : ∀ zs : List Int, DpAll K H (zs.map V.int) (zs.map PyData.int)
  | [] => .nil
  | z :: zs => .cons (.int z) (dpI zs)
theorem dpT {K : PySem.W.Frag} {H : Hp} {p : Addr} {zs : List Int} (h : H p = some (.tup (zs.map V.int))) : Dp K H (.ref p) (intsD zs) := .tup (SqT.of h) (dpI zs)
theorem idx_len {n : Nat} {c : Nat → Bool} : (idx n c).length ≤ n := by
  unfold idx
  rw [List.length_map]
  exact Nat.le_trans (List.length_filter_le _ _) (Nat.le_of_eq List.length_range)
end My
namespace My
open PySem PySem.Spec PyProof.Rows L2
/-! ### a list or a tuple, walked -/
section
variable {X : Cx} {tg : Expr}
def iSeq (K : PySem.W.Frag) (tl : TE) : TI := fun σ H R => tl σ H fun x H1 => ∃ a, x = .ref a ∧ (((∃ xs, SqL K H1 a xs) ∧ R (Itl K a) H1) ∨ ((∃ xs, SqT K H1 a xs) ∧ R (Itt K a) H1))
theorem pi_seq {l : Expr} {tl : TE} (hl : PE X l tl) : PI X tg l (iSeq X.K tl) := by
  refine ⟨fun pins s σ H R I h => ?_⟩
  refine thn (hl.run pins s σ H _ I h) fun v s1 ⟨x, H1, I1, r1, q1⟩ => ?_
  obtain ⟨a, e, q1⟩ := q1
  subst e
  cases r1
  have fresh : ∀ b ∈ [s1.heap.objs.size], FpOk X pins H1 b := fun b hb => by
    have e : b = s1.heap.objs.size := by simpa using hb
    subst e
    exact I1.fpOk (Nat.le_refl _) (I1.hok.fresh (Nat.le_refl _))
  rcases q1 with ⟨⟨xs, hq⟩, q⟩ | ⟨⟨xs, hq⟩, q⟩
  · obtain ⟨its, rv, p, hz⟩ := I1.list hq
    refine wpAny_pyIter_list p.isList ?_
    exact ⟨s1.heap.objs.size, [s1.heap.objs.size], _, _, H1, rfl, I1.kept (t' := s1.toks) fun b o e => Heap.get?_push_of_some _ e, turn_list a _, ⟨_, Heap.get?_push_size _ rfl, rfl, rfl⟩, fresh, q⟩
  · obtain ⟨its, rv, p, hz⟩ := I1.tuple hq
    refine wpAny_pyIter_tuple (show s1.heap.IsTuple a its.toArray from p) ?_
    exact ⟨s1.heap.objs.size, [s1.heap.objs.size], _, _, H1, rfl, I1.kept (t' := s1.toks) fun b o e => Heap.get?_push_of_some _ e, turn_tuple a _, ⟨_, Heap.get?_push_size _ rfl, rfl, rfl⟩, fresh, q⟩
end
/-- a def that calls itself, ahead of its own promise -/
theorem fn_never {P : Program} {w : World} {K : PySem.W.Frag} {mg : Str → Option Value} {base : Heap} {CX : CXT} {k : Nat} {f : Addr} {fd : FuncData} {ps : List Str} : FnOk P w K mg base CX k f fd ps (fun _ _ _ _ => False) :=
  ⟨fun _ _ _ _ h => h.elim, fun _ _ _ _ _ _ _ _ _ _ _ _ _ h => h.elim⟩
/-! ### fractions as pairs of whole numbers -/
def TQ (H : Hp) (v : V) (k : Nat) (z : Q2) : Prop := ∃ p, v = .ref p ∧ H p = some (.tup [.int z.1, .int z.2]) ∧ 0 < z.2 ∧ Sz k z.1 ∧ Sz k z.2
section
variable {H H' : Hp} {v : V} {k j : Nat} {z : Q2}
theorem TQ.same (a : TQ H v k z) (s : Same H H') : TQ H' v k z := by
  obtain ⟨p, h1, h2, h3⟩ := a
  exact ⟨p, h1, s _ _ h2, h3⟩
theorem TQ.nl (a : TQ H v k z) (s : Nl H H') : TQ H' v k z := by
  obtain ⟨p, h1, h2, h3⟩ := a
  exact ⟨p, h1, s _ _ h2 rfl, h3⟩
theorem TQ.kp {h : Addr} {n : Nat} (a : TQ H v k z) (hh : HandAt H h n) (s : Kp h H H') : TQ H' v k z := by
  obtain ⟨p, h1, h2, h3⟩ := a
  exact ⟨p, h1, s.get hh h2 rfl, h3⟩
theorem TQ.mono (a : TQ H v k z) (l : k ≤ j) : TQ H v j z := by
  obtain ⟨p, h1, h2, h3, h4, h5⟩ := a
  exact ⟨p, h1, h2, h3, h4.mono l, h5.mono l⟩
theorem TQ.pos (a : TQ H v k z) : 0 < z.2 := by
  obtain ⟨p, h1, h2, h3, h4, h5⟩ := a
  exact h3
theorem TQ.mk {p : Addr} {a b : Int} (h : H p = some (.tup [.int a, .int b])) (hb : 0 < b) (s1 : Sz k a) (s2 : Sz k b) : TQ H (.ref p) k (a, b) := ⟨p, rfl, h, hb, s1, s2⟩
end
structure Tqs (H : Hp) (k : Nat) (vs : List V) (zs : List Q2) : Prop where
  len : vs.length = zs.length
  all : ∀ (i : Nat) (v : V) (z : Q2), vs[i]? = some v → zs[i]? = some z → TQ H v k z
section
variable {H H' : Hp} {k j : Nat} {vs : List V} {zs : List Q2}
theorem Tqs.same (m : Tqs H k vs zs) (s : Same H H') : Tqs H' k vs zs := ⟨m.len, fun i v z h1 h2 => (m.all i v z h1 h2).same s⟩
theorem Tqs.nl (m : Tqs H k vs zs) (s : Nl H H') : Tqs H' k vs zs := ⟨m.len, fun i v z h1 h2 => (m.all i v z h1 h2).nl s⟩
theorem Tqs.kp {h : Addr} {n : Nat} (m : Tqs H k vs zs) (hh : HandAt H h n) (s : Kp h H H') : Tqs H' k vs zs := ⟨m.len, fun i v z h1 h2 => (m.all i v z h1 h2).kp hh s⟩
theorem Tqs.mono (m : Tqs H k vs zs) (l : k ≤ j) : Tqs H j vs zs := ⟨m.len, fun i v z h1 h2 => (m.all i v z h1 h2).mono l⟩
theorem Tqs.at (m : Tqs H k vs zs) {i : Nat} {z : Q2} (h : zs[i]? = some z) : ∃ v, vs[i]? = some v ∧ TQ H v k z := by
  have hi : i < vs.length := by rw [m.len]; exact (List.getElem?_eq_some_iff.mp h).1
  exact ⟨_, List.getElem?_eq_getElem hi, m.all i _ z (List.getElem?_eq_getElem hi) h⟩
theorem Tqs.of (m : Tqs H k vs zs) {i : Nat} {v : V} (h : vs[i]? = some v) : ∃ z, zs[i]? = some z ∧ TQ H v k z := by
  have hi : i < zs.length := by rw [← m.len]; exact (List.getElem?_eq_some_iff.mp h).1
  exact ⟨_, List.getElem?_eq_getElem hi, m.all i v _ h (List.getElem?_eq_getElem hi)⟩
theorem Tqs.snoc (m : Tqs H k vs zs) {v : V} {z : Q2} (t : TQ H v k z) : Tqs H k (vs ++ [v]) (zs ++ [z]) := by
  refine ⟨by rw [List.length_append, List.length_append, m.len]; rfl, fun i w y h1 h2 => ?_⟩
  by_cases hi : i < vs.length
  · rw [List.getElem?_append_left hi] at h1
    rw [List.getElem?_append_left (by rw [← m.len]; exact hi)] at h2
    exact m.all i w y h1 h2
  · have l1 := (List.getElem?_eq_some_iff.mp h1).1
    rw [List.length_append, List.length_singleton] at l1
    have e : i = vs.length := by omega
    rw [e, List.getElem?_append_right (Nat.le_refl _), Nat.sub_self] at h1
    rw [e, m.len, List.getElem?_append_right (Nat.le_refl _), Nat.sub_self] at h2
    cases h1; cases h2
    exact t
theorem Tqs.one {v : V} {z : Q2} (t : TQ H v k z) : Tqs H k [v] [z] := (⟨rfl, fun i w y h1 => by simp at h1⟩ : Tqs H k [] []).snoc t
theorem Tqs.cons (m : Tqs H k vs zs) {v : V} {z : Q2} (t : TQ H v k z) : Tqs H k (v :: vs) (z :: zs) := by
  refine ⟨by rw [List.length_cons, List.length_cons, m.len], fun i w y h1 h2 => ?_⟩
  cases i with
  | zero => cases h1; cases h2; exact t
  | succ i => exact m.all i w y (by simpa using h1) (by simpa using h2)
theorem Tqs.nil : Tqs H k [] [] := ⟨rfl, fun i w y h1 => by simp at h1⟩
theorem Mks.mono {C : Addr} {ps : List V} (m : Mks C H k ps zs) (l : k ≤ j) : Mks C H j ps zs := ⟨m.len, fun i v z h1 h2 => by
  obtain ⟨p, e, q⟩ := m.all i v z h1 h2
  exact ⟨p, e, q.mono l⟩⟩
theorem QO.mono {C : Addr} {v : V} (l : k ≤ j) : ∀ {e : Option Q2}, QO C H k v e → QO C H j v e
  | none, h => h
  | some _, ⟨p, h1, h2⟩ => ⟨p, h1, h2.mono l⟩
end
theorem rise_snocQ {zs : List Q2} {x : Q2} (h : RiseQ zs) (hx : ∀ n a, zs[n]? = some a → n + 1 = zs.length → ltq a x = true) : RiseQ (zs ++ [x]) := by
  intro i a b ha hb
  have l1 := (List.getElem?_eq_some_iff.mp hb).1
  rw [List.length_append, List.length_singleton] at l1
  rw [List.getElem?_append_left (by omega)] at ha
  by_cases hi : i + 1 < zs.length
  · rw [List.getElem?_append_left hi] at hb
    exact h i a b ha hb
  · have e : i + 1 = zs.length := by omega
    rw [e, List.getElem?_append_right (Nat.le_refl _), Nat.sub_self] at hb
    have eb : x = b := by simpa using hb
    rw [← eb]
    exact hx i a ha e
theorem ltq_more {x y : Q2} (hx : 0 < x.2) (hy : 0 < y.2) (h : 0 < y.1) : ltq x (qadd x y) = true := by
  unfold ltq qadd
  refine decide_eq_true ?_
  show x.1 * (x.2 * y.2) < (x.1 * y.2 + y.1 * x.2) * x.2
  have e : (x.1 * y.2 + y.1 * x.2) * x.2 = x.1 * (x.2 * y.2) + y.1 * (x.2 * x.2) := by grind
  have := Int.mul_pos h (Int.mul_pos hx hx)
  omega
theorem ltq_moreR {x y z : Q2} (hx : 0 < x.2) (hy : 0 < y.2) (h : 0 < y.1) (r : Re z (qadd x y)) : ltq x z = true := by
  rw [ltq_congr (Re.refl hx) r]
  exact ltq_more hx hy h
theorem Re.pos1 {z w : Q2} (r : Re z w) (h : 0 < w.1) : 0 < z.1 := by
  obtain ⟨h1, h2, e⟩ := r
  have p : 0 < w.1 * z.2 := Int.mul_pos h h1
  rw [← e] at p
  exact Int.pos_of_mul_pos_left p h2 |> fun q => q
theorem leq_not {a b : Q2} : leq a b = !ltq b a := by
  unfold leq ltq eqq
  rw [← Bool.decide_or, ← decide_not]
  exact decide_eq_decide.mpr ⟨fun h => by omega, fun h => by omega⟩
theorem span_leq (a b : Q2) : spanB (some a) (some b) = (ltq a b || eqq a b) := by
  show (!ltq b a) = leq a b
  rw [leq_not]
/-! ### what the defs of pairs promise -/
def sp_plain : Sp := fun vs H Q _ => ∃ (a b : Int) (k : Nat), vs = [.int a, .int b] ∧ 0 < b ∧ Sz k a ∧ Sz k b ∧ 0 < k ∧ k ≤ 8000 ∧ ∀ (v : V) (z : Q2) (H' : Hp), Same H H' → TQ H' v k z → Re z (a, b) → Q v H'
def sp_sum : Sp := fun vs H Q _ => ∃ (v w : V) (k j : Nat) (x y : Q2), vs = [v, w] ∧ TQ H v k x ∧ TQ H w j y ∧ 0 < k ∧ 0 < j ∧ k + j < 8000 ∧ ∀ (v' : V) (z : Q2) (H' : Hp), Same H H' → TQ H' v' (k + j + 1) z → Re z (qadd x y) → Q v' H'
def sp_meass (K : PySem.W.Frag) (CM : Addr) : Sp := fun vs H Q _ => ∃ (p : Addr) (k : Nat) (us : List V) (zs : List Q2), vs = [.ref p] ∧ (SqL K H p us ∨ SqT K H p us) ∧ Tqs H k us zs ∧ 0 < k ∧ k ≤ 4000 ∧ zs.length ≤ 24 ∧
  ∀ (T : Addr) (ps : List V) (H' : Hp), Same H H' → H' T = some (.tup ps) → Mks CM H' k ps zs → Q (.ref T) H'
def sp_lpart : Sp := fun vs H Q _ => ∃ (h : Addr) (n : Nat), vs = [.ref h] ∧ HandAt H h n ∧ n < 90000 ∧ ∀ (v : V) (z : Q2) (H' : Hp), HandAt H' h (n + 2) → Kp h H H' → TQ H' v 20 z → 0 < z.1 → Q v H'
def sp_marks : Sp := fun vs H Q _ => ∃ (h : Addr) (n m : Nat), vs = [.ref h, .int m] ∧ HandAt H h n ∧ n < 10000 ∧ 0 < m ∧ m ≤ 24 ∧
  ∀ (l : Addr) (us : List V) (zs : List Q2) (H' : Hp), HandAt H' h (n + 60) → Kp h H H' → l ≠ h → H' l = some (.lst us) → Tqs H' (12 + 21 * m) us zs → 0 < zs.length → zs.length ≤ m → RiseQ zs → Q (.ref l) H'
def sp_anyl (K : PySem.W.Frag) (CM CL : Addr) : Sp := fun vs H Q _ => ∃ (h l : Addr) (n k : Nat) (us : List V) (zs : List Q2), vs = [.ref h, .ref l] ∧ HandAt H h n ∧ n < 10000 ∧ l ≠ h ∧ H l = some (.lst us) ∧ Tqs H k us zs ∧ 0 < k ∧ k ≤ 1000 ∧ 0 < zs.length ∧ zs.length ≤ 24 ∧ RiseQ zs ∧
  ∀ (p : Addr) (r : Str) (lo hi : Option Q2) (H' : Hp), HandAt H' h (n + 3) → Kp h H H' → LadAt K CM CL H' p (k + 4) zs r lo hi → Q (.ref p) H'
/-- None, or a Measure, or another one where it is None -/
def sp_mor (CM : Addr) : Sp := fun vs H Q _ => ∃ (v : V) (k : Nat) (e : Option Q2), vs = [v, .int 0] ∧ QO CM H k v e ∧ 0 < k ∧ k ≤ 8000 ∧ ∀ (p : Addr) (H' : Hp), Same H H' → QAt CM H' p k (e.getD (0, 1)) → Q (.ref p) H'
def sp_span (CM : Addr) : Sp := fun vs H Q _ => ∃ (l h : V) (k : Nat) (lo hi : Option Q2), vs = [l, h] ∧ QO CM H k l lo ∧ QO CM H k h hi ∧ k ≤ 9000 ∧ Q (.bl (spanB lo hi)) H
/-- the numbers of the marks that fit -/
def fitQ (zs : List Q2) (x s t : Q2) : Nat → Bool := fun i => match zs[i]? with
  | some a => leq (qsub x t) a && leq a (qadd x s)
  | none => false
def sp_fits (K : PySem.W.Frag) (CM CL : Addr) : Sp := fun vs H Q _ => ∃ (p q s : Addr) (t : V) (k j : Nat) (zs : List Q2) (r : Str) (lo hi : Option Q2) (x y : Q2) (e : Option Q2), vs = [.ref p, .ref q, .ref s, t] ∧ LadAt K CM CL H p k zs r lo hi ∧ QAt CM H q j x ∧ QAt CM H s j y ∧ QO CM H j t e ∧ 0 < k ∧ 0 < j ∧ k ≤ 4000 ∧ j ≤ 4000 ∧
  ∀ (T : Addr) (H' : Hp), Same H H' → H' T = some (.tup ((idx zs.length (fitQ zs x y (e.getD (0, 1)))).map V.int)) → Q (.ref T) H'
theorem rise_ltq {zs : List Q2} (h : RiseQ zs) (hp : ∀ z ∈ zs, 0 < z.2) : ∀ {j i : Nat} {a b : Q2}, i < j → zs[i]? = some a → zs[j]? = some b → ltq a b = true
  | 0, _, _, _, hi, _, _ => by omega
  | j + 1, i, a, b, hi, ha, hb => by
    obtain ⟨c, hc⟩ := ge2 (zs := zs) (n := j) (by have := (List.getElem?_eq_some_iff.mp hb).1; omega)
    have h1 := h j c b hc hb
    by_cases e : i = j
    · subst e
      rw [ha] at hc
      cases hc
      exact h1
    · exact ltq_trans (hp c (List.mem_of_getElem? hc)) (hp a (List.mem_of_getElem? ha)) (hp b (List.mem_of_getElem? hb)) (rise_ltq h hp (show i < j by omega) ha hc) h1
theorem ltq_asymm {a b : Q2} (h : ltq a b = true) : ltq b a = false := by
  have := of_decide_eq_true h
  exact decide_eq_false (by omega)
theorem ltq_irrefl (a : Q2) : ltq a a = false := decide_eq_false (by omega)
theorem Tqs.posL {H : Hp} {k : Nat} {vs : List V} {zs : List Q2} (m : Tqs H k vs zs) : ∀ z ∈ zs, 0 < z.2 := fun z hz => by
  obtain ⟨i, hi⟩ := List.mem_iff_getElem?.mp hz
  obtain ⟨v, _, t⟩ := m.at hi
  exact t.pos
theorem rise_ends {zs : List Q2} (h : RiseQ zs) (hp : ∀ z ∈ zs, 0 < z.2) {a b : Q2} {n : Nat} (h0 : zs[0]? = some a) (h1 : zs[n]? = some b) : ltq b a = false := by
  cases n with
  | zero =>
    rw [h0] at h1
    cases h1
    exact ltq_irrefl a
  | succ n => exact ltq_asymm (rise_ltq h hp (Nat.succ_pos n) h0 h1)
theorem ltq_notlt {a b c : Q2} (ha : 0 < a.2) (hb : 0 < b.2) (hc : 0 < c.2) (h1 : ltq a c = false) (h2 : ltq a b = true) : ltq b c = false := by
  cases e : ltq b c with
  | false => rfl
  | true =>
    rw [ltq_trans hb ha hc h2 e] at h1
    cases h1
/-- None, or a pair -/
def TOq (H : Hp) (k : Nat) (v : V) : Option Q2 → Prop
  | none => v = .non
  | some z => TQ H v k z
theorem TOq.same {H H' : Hp} {k : Nat} {v : V} : ∀ {e : Option Q2}, TOq H k v e → Same H H' → TOq H' k v e
  | none, h, _ => h
  | some _, h, s => TQ.same h s
theorem TOq.kp {H H' : Hp} {k n : Nat} {h : Addr} {v : V} : ∀ {e : Option Q2}, TOq H k v e → HandAt H h n → Kp h H H' → TOq H' k v e
  | none, h, _, _ => h
  | some _, h, hh, s => TQ.kp h hh s
theorem QO.nl {C : Addr} {H H' : Hp} {k : Nat} {v : V} (s : Nl H H') : ∀ {e : Option Q2}, QO C H k v e → QO C H' k v e
  | none, h => h
  | some _, ⟨p, h1, h2⟩ => ⟨p, h1, h2.nl s⟩
theorem geV {n : Nat} {xs : List V} (h : n < xs.length) : ∃ a, xs[n]? = some a := ⟨_, List.getElem?_eq_getElem h⟩
theorem sqt_kp {K : PySem.W.Frag} {H H' : Hp} {h a : Addr} {n : Nat} {xs : List V} (s : SqT K H a xs) (hh : HandAt H h n) (k : Kp h H H') : SqT K H' a xs := by
  rcases s with (s | ⟨o, s⟩) | s
  · exact .inl (.inl (k.get hh s rfl))
  · exact .inl (.inr ⟨o, k.get hh s rfl⟩)
  · exact .inr s
theorem LadAt.kp {K : PySem.W.Frag} {CM CL p h : Addr} {H H' : Hp} {k n : Nat} {zs : List Q2} {r : Str} {lo hi : Option Q2} (a : LadAt K CM CL H p k zs r lo hi) (hh : HandAt H h n) (s : Kp h H H') : LadAt K CM CL H' p k zs r lo hi := by
  obtain ⟨⟨dx, T, ps, l, u, h1, h2, h3, h4, h5⟩, a1, a2, a3, a4, a5⟩ := a
  exact ⟨⟨dx, T, ps, l, u, s.get hh h1 rfl, sqt_kp h2 hh s, h3.kp hh s, h4.kp hh s, h5.kp hh s⟩, a1, a2, a3, a4, a5⟩
end My
namespace My
open PySem PySem.Spec PyProof.Rows L2
/-! ### comprehensions that draw -/
theorem Kp.nlh {h : Addr} {H H' : Hp} {n : Nat} (k : Kp h H H') (hh : HandAt H h n) : Nl H H' := fun c o e no => k c o e (hh.apart e no)
/-! ### things that are the same, one within another -/
def AtomV (x : V) : Prop := (∃ z : Int, x = .int z) ∨ (∃ s : Str, x = .str s) ∨ x = .non ∨ ∃ b : Bool, x = .bl b
def SameV (K : PySem.W.Frag) (H : Hp) : Nat → V → V → Prop
  | 0, x, y => x = y ∧ AtomV x
  | n + 1, x, y => (x = y ∧ AtomV x) ∨ ∃ p q xs ys, x = .ref p ∧ y = .ref q ∧ SqT K H p xs ∧ SqT K H q ys ∧ xs.length = ys.length ∧ xs.length ≤ 900 ∧ ∀ (i : Nat) (a b : V), xs[i]? = some a → ys[i]? = some b → SameV K H n a b
theorem SameV.same {K : PySem.W.Frag} {H H' : Hp} (s : Same H H') : ∀ {n : Nat} {x y : V}, SameV K H n x y → SameV K H' n x y
  | 0, _, _, h => h
  | n + 1, _, _, .inl h => .inl h
  | n + 1, _, _, .inr ⟨p, q, xs, ys, h1, h2, h3, h4, h5, h6, h7⟩ => .inr ⟨p, q, xs, ys, h1, h2, s.sqt h3, s.sqt h4, h5, h6, fun i a b ha hb => SameV.same s (h7 i a b ha hb)⟩
theorem SameV.atom {K : PySem.W.Frag} {H : Hp} {x : V} (a : AtomV x) : ∀ n, SameV K H n x x
  | 0 => ⟨rfl, a⟩
  | _ + 1 => .inl ⟨rfl, a⟩
theorem SameV.ints {K : PySem.W.Frag} {H : Hp} {p q : Addr} {ss : List Int} (n : Nat) (hp : SqT K H p (ss.map V.int)) (hq : SqT K H q (ss.map V.int)) (l : ss.length ≤ 900) : SameV K H (n + 1) (.ref p) (.ref q) :=
  .inr ⟨p, q, _, _, rfl, rfl, hp, hq, rfl, by rw [List.length_map]; exact l, fun i a b ha hb => by
    rw [ha] at hb
    cases hb
    obtain ⟨s, _, rfl⟩ := List.mem_map.mp (List.mem_of_getElem? ha)
    exact SameV.atom (.inl ⟨s, rfl⟩) n⟩
/-! ### a Grid -/
def gf (a b c : V) : List (Str × V) := [("lengths", a), ("breadths", b), ("grade", c)]
theorem gf_put (a b c : V) : putF "grade" c (putF "breadths" b (putF "lengths" a [])) = gf a b c := by
  have e1 : putF ("breadths" : Str) b (putF ("lengths" : Str) a []) = ([("lengths", a), ("breadths", b)] : List (Str × V)) := by
    show (if ("lengths" : Str) = "breadths" then [(("lengths" : Str), b)] else (("lengths" : Str), a) :: putF "breadths" b []) = _
    rw [if_neg (by decide +kernel)] <;> rfl
  have e2 : putF ("grade" : Str) c [("lengths", a), ("breadths", b)] = gf a b c := by
    show (if ("lengths" : Str) = "grade" then _ else (("lengths" : Str), a) :: (if ("breadths" : Str) = "grade" then _ else (("breadths" : Str), b) :: putF "grade" c [])) = _
    rw [if_neg (by decide +kernel), if_neg (by decide +kernel)] <;> rfl
  rw [e1, e2]
section
variable (a b c : V)
theorem gf_lengths : (gf a b c).lookup ("lengths" : Str) = some a := by
  rw [← gf_put, lookup_putF, if_neg (by decide +kernel), lookup_putF, if_neg (by decide +kernel), lookup_putF, if_pos rfl]
theorem gf_breadths : (gf a b c).lookup ("breadths" : Str) = some b := by
  rw [← gf_put, lookup_putF, if_neg (by decide +kernel), lookup_putF, if_pos rfl]
theorem gf_grade : (gf a b c).lookup ("grade" : Str) = some c := by
  rw [← gf_put, lookup_putF, if_pos rfl]
end
/-- a ladder, whatever its rule and ends -/
def LadE (K : PySem.W.Frag) (CM CL : Addr) (H : Hp) (p : Addr) (k : Nat) (zs : List Q2) : Prop := ∃ r lo hi, LadAt K CM CL H p k zs r lo hi
structure GrdAt (K : PySem.W.Frag) (CM CL CG : Addr) (H : Hp) (p : Addr) (k : Nat) (L1 L2 : Addr) (g : Q2) : Prop where
  ob : ∃ dx q, H p = some (.ins CG dx (gf (.ref L1) (.ref L2) (.ref q))) ∧ QAt CM H q k g
theorem GrdAt.same {K : PySem.W.Frag} {CM CL CG : Addr} {H H' : Hp} {p : Addr} {k : Nat} {L1 L2 : Addr} {g : Q2} (a : GrdAt K CM CL CG H p k L1 L2 g) (s : Same H H') : GrdAt K CM CL CG H' p k L1 L2 g := by
  obtain ⟨dx, q, h1, h2⟩ := a.ob
  exact ⟨dx, q, s _ _ h1, h2.same s⟩
theorem GrdAt.kp {K : PySem.W.Frag} {CM CL CG : Addr} {H H' : Hp} {p h : Addr} {k n : Nat} {L1 L2 : Addr} {g : Q2} (a : GrdAt K CM CL CG H p k L1 L2 g) (hh : HandAt H h n) (s : Kp h H H') : GrdAt K CM CL CG H' p k L1 L2 g := by
  obtain ⟨dx, q, h1, h2⟩ := a.ob
  exact ⟨dx, q, s.get hh h1 rfl, h2.kp hh s⟩
def sp_ginit (K : PySem.W.Frag) (CM CL CG : Addr) : Sp := fun vs H Q _ => ∃ (p dx L1 L2 : Addr) (v : V) (k j : Nat) (zs ys : List Q2) (r1 r2 : Str) (lo1 hi1 lo2 hi2 e : Option Q2), vs = [.ref p, .ref L1, .ref L2, v] ∧ H p = some (.ins CG dx []) ∧ LadAt K CM CL H L1 k zs r1 lo1 hi1 ∧ LadAt K CM CL H L2 k ys r2 lo2 hi2 ∧ QO CM H j v e ∧ 0 < j ∧ j ≤ 4000 ∧
  ∀ (q : Addr) (H' : Hp), H' p = some (.ins CG dx (gf (.ref L1) (.ref L2) (.ref q))) → QAt CM H' q j (e.getD (0, 1)) → (∀ b o, H b = some o → b ≠ p → H' b = some o) → Q .non H'
theorem grd_made {K : PySem.W.Frag} {CM CL CG L1 L2 : Addr} {H : Hp} {Qa : Addr → Hp → Prop} {E : XK} {v : V} {k j : Nat} {zs ys : List Q2} {r1 r2 : Str} {lo1 hi1 lo2 hi2 e : Option Q2} (a1 : LadAt K CM CL H L1 k zs r1 lo1 hi1) (a2 : LadAt K CM CL H L2 k ys r2 lo2 hi2) (q1 : QO CM H j v e) (j0 : 0 < j) (j1 : j ≤ 4000)
    (f : ∀ (p : Addr) (H' : Hp), H p = none → Same H H' → GrdAt K CM CL CG H' p j L1 L2 (e.getD (0, 1)) → Qa p H') :
    ∀ x dx, H x = none → H dx = none → dx ≠ x → sp_ginit K CM CL CG [.ref x, .ref L1, .ref L2, v] (upd (upd H dx (.own x)) x (.ins CG dx [])) (fun v H2 => v = .non ∧ Qa x H2) E := by
  intro x dx nx nd ne
  have s0 : Same H (upd (upd H dx (.own x)) x (.ins CG dx [])) := fun c o e => by
    rw [upd_ne (ne_of_none e nx)]
    exact up1 nd e
  refine ⟨x, dx, L1, L2, v, k, j, zs, ys, r1, r2, lo1, hi1, lo2, hi2, e, rfl, upd_same, a1.same s0, a2.same s0, q1.same s0, j0, j1, fun q H' hx hq kp => ⟨rfl, ?_⟩⟩
  exact f x H' nx (made_same nx nd kp) ⟨⟨dx, q, hx, hq⟩⟩
/-- the i-th breadth's mark, graded -/
def grdQ (b g : Q2) (i : Nat) : Q2 := qadd b (qmul g ((i : Int), 1))
def sp_longm (K : PySem.W.Frag) (CM CL CG : Addr) : Sp := fun vs H Q _ => ∃ (p t L1 L2 : Addr) (i w k j : Nat) (g a : Q2) (zs : List Q2), vs = [.ref p, .ref t] ∧ GrdAt K CM CL CG H p j L1 L2 g ∧ LadE K CM CL H L1 k zs ∧ SqT K H t [.int (i : Int), .int (w : Int)] ∧ zs[i]? = some a ∧ ∀ q, QAt CM H q k a → Q (.ref q) H
def sp_graded (K : PySem.W.Frag) (CM CL CG : Addr) : Sp := fun vs H Q _ => ∃ (p L1 L2 : Addr) (i j : Nat) (g : Q2), vs = [.ref p, .int (i : Int)] ∧ GrdAt K CM CL CG H p j L1 L2 g ∧ i ≤ 24 ∧ 0 < j ∧ j ≤ 4000 ∧ ∀ (q : Addr) (H' : Hp), Same H H' → QAt CM H' q (j + 6 + 1) (qmul g ((i : Int), 1)) → Q (.ref q) H'
def sp_broadm (K : PySem.W.Frag) (CM CL CG : Addr) : Sp := fun vs H Q _ => ∃ (p t L1 L2 : Addr) (i w k j : Nat) (g b : Q2) (ys : List Q2), vs = [.ref p, .ref t] ∧ GrdAt K CM CL CG H p j L1 L2 g ∧ LadE K CM CL H L2 k ys ∧ SqT K H t [.int (i : Int), .int (w : Int)] ∧ ys[w]? = some b ∧ i ≤ 24 ∧ 0 < j ∧ j ≤ 1000 ∧ 0 < k ∧ k ≤ 1000 ∧ ∀ (q : Addr) (H' : Hp), Same H H' → QAt CM H' q (k + (j + 6 + 1) + 1) (grdQ b g i) → Q (.ref q) H'
/-- the rules that a pair breaks -/
def brkW (a b x1 x2 s : Q2) : List Str :=
  [(("broad" : Str), ltq (qadd x2 s) b), ("long", ltq (qadd x1 s) a), ("narrow", ltq b x2), ("short", ltq a x1)].filterMap fun z => if z.2 then some z.1 else none
theorem grdQ_eq (b g : Q2) (i : Nat) : grdQ b g i = qadd b ((i : Int) * g.1, g.2) := by
  unfold grdQ qmul
  show qadd b (g.1 * (i : Int), g.2 * 1) = _
  rw [Int.mul_one, Int.mul_comm]
def sp_broken (K : PySem.W.Frag) (CM CL CG : Addr) : Sp := fun vs H Q _ => ∃ (p t f s L1 L2 : Addr) (f1 f2 : Addr) (i w k j m : Nat) (g a b x1 x2 y : Q2) (zs ys : List Q2), vs = [.ref p, .ref t, .ref f, .ref s] ∧ GrdAt K CM CL CG H p j L1 L2 g ∧ LadE K CM CL H L1 k zs ∧ LadE K CM CL H L2 k ys ∧ SqT K H t [.int (i : Int), .int (w : Int)] ∧ zs[i]? = some a ∧ ys[w]? = some b ∧ SqT K H f [.ref f1, .ref f2] ∧ QAt CM H f1 m x1 ∧ QAt CM H f2 m x2 ∧ QAt CM H s m y ∧
  i ≤ 24 ∧ 0 < j ∧ j ≤ 1000 ∧ 0 < k ∧ k ≤ 1000 ∧ 0 < m ∧ m ≤ 1000 ∧ ∀ (T : Addr) (H' : Hp), Same H H' → H' T = some (.tup ((brkW a (grdQ b g i) x1 x2 y).map V.str)) → Q (.ref T) H'
/-! ### the laws' sides of a grid -/
structure SidesAt (H : Hp) (h p : Addr) (k : Nat) (zs ys : List Q2) (g : Q2) : Prop where
  ob : ∃ l1 l2 v us ws, H p = some (.lst [.ref l1, .ref l2, v]) ∧ H l1 = some (.lst us) ∧ H l2 = some (.lst ws) ∧ Tqs H k us zs ∧ Tqs H k ws ys ∧ TQ H v 20 g ∧ p ≠ h ∧ l1 ≠ h ∧ l2 ≠ h
  l0 : 0 < zs.length
  l1 : zs.length ≤ 8
  m0 : 0 < ys.length
  m1 : ys.length ≤ 8
theorem SidesAt.same {H H' : Hp} {h p : Addr} {k : Nat} {zs ys : List Q2} {g : Q2} (a : SidesAt H h p k zs ys g) (s : Same H H') : SidesAt H' h p k zs ys g := by
  obtain ⟨⟨l1, l2, v, us, ws, a1, a2, a3, a4, a5, a6, a7⟩, b1, b2, b3, b4⟩ := a
  exact ⟨⟨l1, l2, v, us, ws, s _ _ a1, s _ _ a2, s _ _ a3, a4.same s, a5.same s, a6.same s, a7⟩, b1, b2, b3, b4⟩
theorem SidesAt.kp {H H' : Hp} {h p : Addr} {k n : Nat} {zs ys : List Q2} {g : Q2} (a : SidesAt H h p k zs ys g) (hh : HandAt H h n) (s : Kp h H H') : SidesAt H' h p k zs ys g := by
  obtain ⟨⟨l1, l2, v, us, ws, a1, a2, a3, a4, a5, a6, a7, a8, a9⟩, b1, b2, b3, b4⟩ := a
  exact ⟨⟨l1, l2, v, us, ws, s _ _ a1 a7, s _ _ a2 a8, s _ _ a3 a9, a4.kp hh s, a5.kp hh s, a6.kp hh s, a7, a8, a9⟩, b1, b2, b3, b4⟩
def sp_gr : Sp := fun vs H Q _ => ∃ (h : Addr) (n : Nat), vs = [.ref h] ∧ HandAt H h n ∧ n < 90000 ∧ ∀ (v : V) (z : Q2) (H' : Hp), HandAt H' h (n + 3) → Kp h H H' → TQ H' v 20 z → Q v H'
def sp_lbroad : Sp := fun vs H Q _ => ∃ (h p : Addr) (i w k : Nat) (zs ys : List Q2) (g b : Q2), vs = [.ref p, .int (i : Int), .int (w : Int)] ∧ SidesAt H h p k zs ys g ∧ ys[w]? = some b ∧ i ≤ 24 ∧ 0 < k ∧ k ≤ 1000 ∧ ∀ (v : V) (z : Q2) (H' : Hp), Same H H' → TQ H' v (k + 26) z → Re z (grdQ b g i) → Q v H'
def sp_footof (K : PySem.W.Frag) : Sp := fun vs H Q _ => ∃ (h p t : Addr) (s : V) (i w k n : Nat) (zs ys : List Q2) (g a b y : Q2), vs = [.ref h, .ref p, .ref t, s] ∧ HandAt H h n ∧ n < 10000 ∧ SidesAt H h p k zs ys g ∧ SqT K H t [.int (i : Int), .int (w : Int)] ∧ zs[i]? = some a ∧ ys[w]? = some b ∧ i ≤ 24 ∧ TQ H s 20 y ∧ 0 < k ∧ k ≤ 1000 ∧
  ∀ (T : Addr) (v1 v2 : V) (x1 x2 : Q2) (H' : Hp), HandAt H' h (n + 4) → Kp h H H' → H' T = some (.tup [v1, v2]) → TQ H' v1 (k + 80) x1 → TQ H' v2 (k + 80) x2 → Q (.ref T) H'
theorem ne_fields {H : Hp} {q p C D dq dp : Addr} {t u : Int} (hq : H q = some (.ins C dq (mf t u))) (hp : H p = some (.ins D dp [])) : q ≠ p := by
  intro e
  subst e
  rw [hq] at hp
  cases hp
theorem ne_fields2 {H : Hp} {q p C D dq dp : Addr} {t u : Int} {a b : V} (hq : H q = some (.ins C dq (mf t u))) (hp : H p = some (.ins D dp (putF "breadths" b (putF "lengths" a [])))) : q ≠ p := by
  intro e
  subst e
  rw [hq] at hp
  have e2 : mf t u = putF "breadths" b (putF "lengths" a []) := by cases hp
  have h1 := mf_top t u
  rw [e2, lookup_putF, if_neg (by decide +kernel), lookup_putF, if_neg (by decide +kernel)] at h1
  cases h1
/-- four words, each told or not -/
def wordsO (b1 b2 b3 b4 : Bool) : List (Option V) := [if b1 then some (.str "broad") else none, if b2 then some (.str "long") else none, if b3 then some (.str "narrow") else none, if b4 then some (.str "short") else none]
theorem words_len (b1 b2 b3 b4 : Bool) : (wordsO b1 b2 b3 b4).length = 4 := rfl
theorem words_fm {a b x1 x2 s : Q2} : (wordsO (ltq (qadd x2 s) b) (ltq (qadd x1 s) a) (ltq b x2) (ltq a x1)).filterMap _root_.id = (brkW a b x1 x2 s).map V.str := by
  unfold wordsO brkW
  cases ltq (qadd x2 s) b <;> cases ltq (qadd x1 s) a <;> cases ltq b x2 <;> cases ltq a x1 <;> rfl
theorem words4 {K : PySem.W.Frag} {H : Hp} {t1 t2 t3 t4 : Addr} {b1 b2 b3 b4 : Bool} (h1 : H t1 = some (.tup [.str "broad", .bl b1])) (h2 : H t2 = some (.tup [.str "long", .bl b2])) (h3 : H t3 = some (.tup [.str "narrow", .bl b3])) (h4 : H t4 = some (.tup [.str "short", .bl b4])) :
    ∀ (n : Nat) (v : V) (o : Option V), [V.ref t1, V.ref t2, V.ref t3, V.ref t4][n]? = some v → (wordsO b1 b2 b3 b4)[n]? = some o → ∃ t wd b, v = .ref t ∧ H t = some (.tup [.str wd, .bl b]) ∧ o = if b then some (.str wd) else none := by
  intro n v o hv ho
  match n, hv, ho with
  | 0, hv, ho => cases hv; cases ho; exact ⟨_, _, _, rfl, h1, rfl⟩
  | 1, hv, ho => cases hv; cases ho; exact ⟨_, _, _, rfl, h2, rfl⟩
  | 2, hv, ho => cases hv; cases ho; exact ⟨_, _, _, rfl, h3, rfl⟩
  | 3, hv, ho => cases hv; cases ho; exact ⟨_, _, _, rfl, h4, rfl⟩
  | n + 4, hv, ho => simp at hv
theorem sqt_nl {K : PySem.W.Frag} {H H' : Hp} {a : Addr} {xs : List V} (s : SqT K H a xs) (k : Nl H H') : SqT K H' a xs := by
  rcases s with (s | ⟨o, s⟩) | s
  · exact .inl (.inl (k _ _ s rfl))
  · exact .inl (.inr ⟨o, k _ _ s rfl⟩)
  · exact .inr s
end My
namespace My
open PySem PySem.Spec PyProof.Rows L2
/-! ### sizes by fractions -/
/-- f holds of the first ones alone -/
def DownQ (f : Q2 → Bool) (zs : List Q2) : Prop := ∀ (i j : Nat) (a b : Q2), i < j → zs[i]? = some a → zs[j]? = some b → f b = true → f a = true
theorem DownQ.tail {f : Q2 → Bool} {x : Q2} {zs : List Q2} (h : DownQ f (x :: zs)) : DownQ f zs := fun i j a b hij ha hb hf => h (i + 1) (j + 1) a b (by omega) (by simpa using ha) (by simpa using hb) hf
section
variable {zs : List Q2} {r : Str} {lo hi : Option Q2} {x : Q2}
end
end My
namespace My
open PySem PySem.Spec PyProof.Rows L2
/-! ### what stood ahead, wanted at a later heap: the step first -/
section
variable {K : PySem.W.Frag} {C CM CL CG p q h a L1 L2 : Addr} {H H' H1 : Hp} {v : V} {k j n : Nat} {z : Q2} {vs : List V} {zs ys : List Q2} {o : HO} {e : Option Q2} {r : Str} {lo hi : Option Q2}
theorem TQ.s (s : Same H H') (t : TQ H v k z) : TQ H' v k z := t.same s
theorem TQ.kq (s : Kp h H H') (hh : HandAt H h n) (t : TQ H v k z) : TQ H' v k z := t.kp hh s
theorem TQ.nq (s : Nl H H') (t : TQ H v k z) : TQ H' v k z := t.nl s
theorem Tqs.s (s : Same H H') (t : Tqs H k vs zs) : Tqs H' k vs zs := t.same s
theorem Tqs.kq (s : Kp h H H') (hh : HandAt H h n) (t : Tqs H k vs zs) : Tqs H' k vs zs := t.kp hh s
theorem QAt.s (s : Same H H') (t : QAt C H p k z) : QAt C H' p k z := t.same s
theorem QAt.kq (s : Kp h H H') (hh : HandAt H h n) (t : QAt C H p k z) : QAt C H' p k z := t.kp hh s
theorem Mks.s (s : Same H H') (t : Mks C H k vs zs) : Mks C H' k vs zs := t.same s
theorem Mks.kq (s : Kp h H H') (hh : HandAt H h n) (t : Mks C H k vs zs) : Mks C H' k vs zs := t.kp hh s
theorem QO.s (s : Same H H') (t : QO C H k v e) : QO C H' k v e := t.same s
theorem QO.kq (s : Kp h H H') (hh : HandAt H h n) (t : QO C H k v e) : QO C H' k v e := t.kp hh s
theorem TOq.s (s : Same H H') (t : TOq H k v e) : TOq H' k v e := t.same s
theorem TOq.kq (s : Kp h H H') (hh : HandAt H h n) (t : TOq H k v e) : TOq H' k v e := t.kp hh s
theorem TOq.mono (l : k ≤ j) : ∀ {e : Option Q2}, TOq H k v e → TOq H j v e
  | none, h => h
  | some _, h => TQ.mono h l
theorem LadAt.s (s : Same H H') (t : LadAt K CM CL H p k zs r lo hi) : LadAt K CM CL H' p k zs r lo hi := t.same s
theorem LadAt.kq (s : Kp h H H') (hh : HandAt H h n) (t : LadAt K CM CL H p k zs r lo hi) : LadAt K CM CL H' p k zs r lo hi := t.kp hh s
theorem LadAt.mono (t : LadAt K CM CL H p k zs r lo hi) (l : k ≤ j) : LadAt K CM CL H p j zs r lo hi := by
  obtain ⟨⟨dx, T, ps, u, w, h1, h2, h3, h4, h5⟩, a1, a2, a3, a4, a5⟩ := t
  exact ⟨⟨dx, T, ps, u, w, h1, h2, h3.mono l, h4.mono l, h5.mono l⟩, a1, a2, a3, a4, a5⟩
theorem GrdAt.s (s : Same H H') (t : GrdAt K CM CL CG H p k L1 L2 z) : GrdAt K CM CL CG H' p k L1 L2 z := t.same s
theorem GrdAt.kq (s : Kp h H H') (hh : HandAt H h n) (t : GrdAt K CM CL CG H p k L1 L2 z) : GrdAt K CM CL CG H' p k L1 L2 z := t.kp hh s
theorem SidesAt.s (s : Same H H') (t : SidesAt H h p k zs ys z) : SidesAt H' h p k zs ys z := t.same s
theorem SidesAt.kq (s : Kp h H H') (hh : HandAt H h n) (t : SidesAt H h p k zs ys z) : SidesAt H' h p k zs ys z := t.kp hh s
theorem HandAt.s (s : Same H H') (t : HandAt H h n) : HandAt H' h n := t.same s
theorem sqt_s (s : Same H H') (t : SqT K H a vs) : SqT K H' a vs := s.sqt t
theorem sqt_k (s : Kp h H H') (hh : HandAt H h n) (t : SqT K H a vs) : SqT K H' a vs := sqt_kp t hh s
theorem sql_s (s : Same H H') (t : SqL K H a vs) : SqL K H' a vs := s.seq t
theorem sql_k (s : Kp h H H') (ne : a ≠ h) (t : SqL K H a vs) : SqL K H' a vs := s.seq ne t
theorem hp_u {u : HO} {b : Addr} (np : H b = none) (t : H p = some o) : upd H b u p = some o := My.up1 np t
theorem hp_s (s : Same H H') (t : H p = some o) : H' p = some o := s _ _ t
theorem hp_k (s : Kp h H H') (hh : HandAt H h n) (no : notHand o = true) (t : H p = some o) : H' p = some o := s.get hh t no
theorem hp_l (s : Kp h H H') (ne : p ≠ h) (t : H p = some o) : H' p = some o := s _ _ t ne
theorem TQ.u {u : HO} {b : Addr} (np : H b = none) (t : TQ H v k z) : TQ (upd H b u) v k z := t.same (same1 np)
theorem Tqs.u {u : HO} {b : Addr} (np : H b = none) (t : Tqs H k vs zs) : Tqs (upd H b u) k vs zs := t.same (same1 np)
theorem QAt.u {u : HO} {b : Addr} (np : H b = none) (t : QAt C H p k z) : QAt C (upd H b u) p k z := t.same (same1 np)
theorem Mks.u {u : HO} {b : Addr} (np : H b = none) (t : Mks C H k vs zs) : Mks C (upd H b u) k vs zs := t.same (same1 np)
theorem QO.u {u : HO} {b : Addr} (np : H b = none) (t : QO C H k v e) : QO C (upd H b u) k v e := t.same (same1 np)
theorem TOq.u {u : HO} {b : Addr} (np : H b = none) (t : TOq H k v e) : TOq (upd H b u) k v e := t.same (same1 np)
theorem LadAt.u {u : HO} {b : Addr} (np : H b = none) (t : LadAt K CM CL H p k zs r lo hi) : LadAt K CM CL (upd H b u) p k zs r lo hi := t.same (same1 np)
theorem GrdAt.u {u : HO} {b : Addr} (np : H b = none) (t : GrdAt K CM CL CG H p k L1 L2 z) : GrdAt K CM CL CG (upd H b u) p k L1 L2 z := t.same (same1 np)
theorem SidesAt.u {u : HO} {b : Addr} (np : H b = none) (t : SidesAt H h p k zs ys z) : SidesAt (upd H b u) h p k zs ys z := t.same (same1 np)
theorem HandAt.u {u : HO} {b : Addr} (np : H b = none) (t : HandAt H h n) : HandAt (upd H b u) h n := t.same (same1 np)
theorem sqt_u {u : HO} {b : Addr} (np : H b = none) (t : SqT K H a vs) : SqT K (upd H b u) a vs := (same1 np).sqt t
theorem sql_u {u : HO} {b : Addr} (np : H b = none) (t : SqL K H a vs) : SqL K (upd H b u) a vs := (same1 np).seq t
theorem QO.monoR (t : QO C H k v e) (l : k ≤ j) : QO C H j v e := QO.mono l t
theorem TOq.monoR (t : TOq H k v e) (l : k ≤ j) : TOq H j v e := TOq.mono l t
theorem hand_ne (np : H p = none) (a : HandAt H h n) : p ≠ h := a.ne np
theorem same_k (k : Kp h H1 H') (nh : H h = none) (s : Same H H1) : Same H H' := s.ofKp nh k
end
theorem TQ.lit {H : Hp} {p : Addr} {a b : Int} (h : H p = some (.tup [.int a, .int b])) (hb : 0 < b) (s1 : Sz 31 a) (s2 : Sz 31 b) : TQ H (.ref p) 31 (a, b) := ⟨p, rfl, h, hb, s1, s2⟩
theorem eqv_nil : PyData.eqv (.list (([] : List Int).map PyData.int)) (.list []) = true := by
  simp [PyData.eqv, PyData.eqvAll]
theorem dpL {K : PySem.W.Frag} {H : Hp} {p : Addr} {zs : List Int} (h : H p = some (.lst (zs.map V.int))) : Dp K H (.ref p) (.list (zs.map PyData.int)) := .lst (SqL.of h) (dpI zs)
theorem layI : ∀ zs : List Int, PyData.canLayAll0 (zs.map PyData.int) = true
  | [] => rfl
  | z :: zs => by
    show (true && PyData.canLayAll0 (zs.map PyData.int)) = true
    rw [layI zs]; rfl
theorem shL (zs : List Int) : SeqAt.shaped (.list (zs.map PyData.int)) = true := by
  have h := ints_depth zs
  have e1 : (PyData.list (zs.map PyData.int)).depth ≤ 64 := by
    show PyData.depthAll (zs.map PyData.int) + 1 ≤ 64
    omega
  have e2 : (PyData.list (zs.map PyData.int)).canLay0 = true := layI zs
  unfold SeqAt.shaped
  rw [e2, decide_eq_true e1]
  rfl
/-- each of these values is a fraction -/
def AllTQ (H : Hp) (k : Nat) (vs : List V) : Prop := ∀ x ∈ vs, ∃ z, TQ H x k z
theorem AllTQ.nil {H : Hp} {k : Nat} : AllTQ H k [] := fun x hx => by simp at hx
theorem AllTQ.cons {H : Hp} {k : Nat} {v : V} {z : Q2} {vs : List V} (t : TQ H v k z) (m : AllTQ H k vs) : AllTQ H k (v :: vs) := fun x hx => by
  rcases List.mem_cons.mp hx with e | e
  · rw [e]; exact ⟨z, t⟩
  · exact m x e
theorem AllTQ.app {H : Hp} {k : Nat} {vs ws : List V} (m : AllTQ H k vs) (m' : AllTQ H k ws) : AllTQ H k (vs ++ ws) := fun x hx => by
  rcases List.mem_append.mp hx with e | e
  · exact m x e
  · exact m' x e
theorem of_tq {K : PySem.W.Frag} {H : Hp} {Q : VK} {E : XK} {h l : Addr} {n k : Nat} {xs : List V} (hh : HandAt H h n) (hn : n < 100000) (hl : SqL K H l xs) (ne : l ≠ h) (l0 : 0 < xs.length) (l1 : xs.length ≤ 1000) (all : AllTQ H k xs)
    (f : ∀ (v : V) (z : Q2) (H' : Hp), HandAt H' h (n + 1) → Kp h H H' → TQ H' v k z → Q v H') : sp_of K [.ref h, .ref l] H Q E :=
  ⟨h, l, n, xs, rfl, hh, hn, hl, ne, l0, l1, fun i x H' hx hh' k' => by
    obtain ⟨z, t⟩ := all x (List.mem_of_getElem? hx)
    exact f x z H' hh' k' (t.kp hh k')⟩
/-! ### a rule, a least and a most, as the laws draw them in fractions -/
structure ChartAt (H : Hp) (T : Addr) (k : Nat) (r : Str) (lo hi : Option Q2) : Prop where
  ob : ∃ u w, H T = some (.tup [.str r, u, w]) ∧ TOq H k u lo ∧ TOq H k w hi
  rule : IsRule r
  span : spanB lo hi = true
section
variable {H H' : Hp} {T h : Addr} {k n : Nat} {r : Str} {lo hi : Option Q2}
theorem ChartAt.same (c : ChartAt H T k r lo hi) (s : Same H H') : ChartAt H' T k r lo hi := by
  obtain ⟨⟨u, w, h1, h2, h3⟩, h4, h5⟩ := c
  exact ⟨⟨u, w, s _ _ h1, h2.same s, h3.same s⟩, h4, h5⟩
theorem ChartAt.kp (c : ChartAt H T k r lo hi) (hh : HandAt H h n) (s : Kp h H H') : ChartAt H' T k r lo hi := by
  obtain ⟨⟨u, w, h1, h2, h3⟩, h4, h5⟩ := c
  exact ⟨⟨u, w, s.get hh h1 rfl, h2.kp hh s, h3.kp hh s⟩, h4, h5⟩
theorem ChartAt.u {u : HO} {b : Addr} (np : H b = none) (c : ChartAt H T k r lo hi) : ChartAt (upd H b u) T k r lo hi := c.same (same1 np)
theorem ChartAt.s (s : Same H H') (c : ChartAt H T k r lo hi) : ChartAt H' T k r lo hi := c.same s
theorem ChartAt.kq (s : Kp h H H') (hh : HandAt H h n) (c : ChartAt H T k r lo hi) : ChartAt H' T k r lo hi := c.kp hh s
end
/-- a pair of sizes, or None -/
def OwnV (H : Hp) (v : V) : Option (Nat × Nat) → Prop
  | none => v = .non
  | some x => ∃ T, v = .ref T ∧ H T = some (.tup [.int (x.1 : Int), .int (x.2 : Int)])
theorem OwnV.s {H H' : Hp} {v : V} (s : Same H H') : ∀ {o : Option (Nat × Nat)}, OwnV H v o → OwnV H' v o
  | none, h => h
  | some _, ⟨T, h1, h2⟩ => ⟨T, h1, s _ _ h2⟩
theorem OwnV.alike {K : PySem.W.Frag} {H : Hp} {v w : V} : ∀ {o : Option (Nat × Nat)}, OwnV H v o → OwnV H w o → SameV K H 1 v w
  | none, h, g => by
    cases h; cases g
    exact SameV.atom (.inr (.inr (.inl rfl))) 1
  | some x, ⟨T, h1, h2⟩, ⟨T', g1, g2⟩ => by
    subst h1 g1
    exact SameV.ints (ss := [(x.1 : Int), (x.2 : Int)]) 0 (SqT.of h2) (SqT.of g2) (Nat.le_of_ble_eq_true rfl)
/-! ### the numbers of the marks, first and last -/
end My
namespace My
open PySem PySem.Spec PyProof.Rows L2
/-! ### cuts of three stretches -/
theorem Alike.of {x y : Q2} {i j : Bool} (h : Re x y) (e : i = j) : Alike (some x, i) (some y, j) := ⟨h, fun _ => e⟩
theorem Alike.refl {x : Option Q2 × Bool} (h : PosO x.1) : Alike x x := ⟨ReO.refl h, fun _ => rfl⟩
theorem Alike.symm {x y : Option Q2 × Bool} (h : Alike x y) : Alike y x := ⟨h.1.symm, fun e => (h.2 (by rw [h.1.isS]; exact e)).symm⟩

/-- a Measure whose numbers are not too great -/
def PtM (CM : Addr) (H : Hp) (y : V) : Prop := ∃ (q : Addr) (x : Q2), y = .ref q ∧ MAt CM H q x.1 x.2 ∧ 0 < x.2 ∧ Sz 20000 x.1 ∧ Sz 20000 x.2
theorem PtM.nl {CM : Addr} {H H' : Hp} {y : V} (h : PtM CM H y) (s : Nl H H') : PtM CM H' y := by
  obtain ⟨q, x, e, ⟨d, m⟩, r⟩ := h
  exact ⟨q, x, e, ⟨d, s _ _ m rfl⟩, r⟩
theorem PtM.same {CM : Addr} {H H' : Hp} {y : V} (h : PtM CM H y) (s : Same H H') : PtM CM H' y := h.nl (Nl.of s)
end My
namespace My
open PySem PySem.Spec PyProof.Rows L2
/-! ### which measures a size's stretch holds -/
/-- whether there is such a stretch -/
def sizB (zs : List Q2) (r : Str) (lo hi : Option Q2) (n : Nat) : Bool := someB (sizE zs r lo hi n).1.1 (sizE zs r lo hi n).2.1 (sizE zs r lo hi n).1.2 (sizE zs r lo hi n).2.2
end My
namespace My
open PySem PySem.Spec PyProof.Rows L2
/-! ### lists of numbers -/
theorem idx_none {n : Nat} {c : Nat → Bool} (h : ∀ i, i < n → c i = false) : idx n c = [] := by
  unfold idx
  rw [List.map_eq_nil_iff, List.filter_eq_nil_iff]
  intro i hi
  rw [h i (List.mem_range.mp hi)]
  simp
/-- numbers that follow one another -/
theorem idx_run {n : Nat} {c : Nat → Bool} (conv : ∀ a b d, a < b → b < d → d < n → c a = true → c d = true → c b = true) : idx n c = [] ∨ ∃ a m : Nat, a + m + 1 ≤ n ∧ idx n c = (List.range' a (m + 1)).map (fun k : Nat => (k : Int)) ∧ ∀ i, i < n → (c i = true ↔ a ≤ i ∧ i ≤ a + m) := by
  by_cases h : ∃ i, i < n ∧ c i = true
  · obtain ⟨i0, hi0, ci0⟩ := h
    have hex1 : ∃ a, a < n ∧ c a = true ∧ ∀ j, j < a → c j = false := by
      have : ∀ k, k ≤ i0 → (∃ a, a < n ∧ c a = true ∧ ∀ j, j < a → c j = false) ∨ ∀ j, j < k → c j = false := by
        intro k
        induction k with
        | zero => intro _; exact .inr fun j hj => by omega
        | succ k ih =>
          intro hk
          rcases ih (by omega) with h | h
          · exact .inl h
          · cases e : c k with
            | true => exact .inl ⟨k, by omega, e, h⟩
            | false =>
              refine .inr fun j hj => ?_
              by_cases q : j = k
              · subst q; exact e
              · exact h j (by omega)
      rcases this i0 (Nat.le_refl _) with h | h
      · exact h
      · exact ⟨i0, hi0, ci0, h⟩
    obtain ⟨a, ha, ca, la⟩ := hex1
    have hex2 : ∀ k, ∃ m, a + m < n ∧ c (a + m) = true ∧ ∀ j, a + m < j → j < n → k + j ≥ n + 0 → c j = false := by
      intro k
      induction k with
      | zero => exact ⟨0, by omega, ca, fun j h1 h2 h3 => by omega⟩
      | succ k ih =>
        obtain ⟨m, h1, h2, h3⟩ := ih
        by_cases q : a + m < n - (k + 1) ∧ k + 1 ≤ n
        · cases e : c (n - (k + 1)) with
          | true =>
            by_cases z : ∃ j, n - (k + 1) < j ∧ j < n ∧ c j = true
            · obtain ⟨j, z1, z2, z3⟩ := z
              have := h3 j (by omega) z2 (by omega)
              rw [this] at z3; cases z3
            · refine ⟨n - (k + 1) - a, by omega, by rw [show a + (n - (k + 1) - a) = n - (k + 1) by omega]; exact e, fun j z1 z2 _ => ?_⟩
              cases e2 : c j with
              | false => rfl
              | true => exact absurd ⟨j, by omega, z2, e2⟩ z
          | false =>
            refine ⟨m, h1, h2, fun j z1 z2 z3 => ?_⟩
            by_cases z : j = n - (k + 1)
            · rw [z]; exact e
            · exact h3 j z1 z2 (by omega)
        · exact ⟨m, h1, h2, fun j z1 z2 z3 => h3 j z1 z2 (by omega)⟩
    obtain ⟨m, h1, h2, h3⟩ := hex2 n
    have key : ∀ i, i < n → (c i = true ↔ a ≤ i ∧ i ≤ a + m) := fun i hi => by
      constructor
      · intro ci
        constructor
        · apply Nat.le_of_not_lt
          intro q
          rw [la i q] at ci; cases ci
        · apply Nat.le_of_not_lt
          intro q
          rw [h3 i q hi (by omega)] at ci; cases ci
      · rintro ⟨q1, q2⟩
        by_cases z1 : i = a
        · rw [z1]; exact ca
        · by_cases z2 : i = a + m
          · rw [z2]; exact h2
          · exact conv a i (a + m) (by omega) (by omega) h1 ca h2
    refine .inr ⟨a, m, by omega, ?_, key⟩
    unfold idx
    congr 1
    have e1 : List.range n = List.range' 0 a ++ (List.range' a (m + 1) ++ List.range' (a + (m + 1)) (n - (a + (m + 1)))) := by
      rw [List.range'_append_1, List.range_eq_range']
      have := List.range'_append_1 (s := 0) (m := a) (n := m + 1 + (n - (a + (m + 1))))
      rw [Nat.zero_add] at this
      rw [this]
      congr 1
      omega
    rw [e1, List.filter_append, List.filter_append]
    have z1 : (List.range' 0 a).filter c = [] := by
      rw [List.filter_eq_nil_iff]
      intro i hi
      have := List.mem_range'_1.mp hi
      rw [la i (by omega)]
      simp
    have z2 : (List.range' a (m + 1)).filter c = List.range' a (m + 1) := by
      rw [List.filter_eq_self]
      intro i hi
      have := List.mem_range'_1.mp hi
      exact (key i (by omega)).mpr ⟨by omega, by omega⟩
    have z3 : (List.range' (a + (m + 1)) (n - (a + (m + 1)))).filter c = [] := by
      rw [List.filter_eq_nil_iff]
      intro i hi
      have := List.mem_range'_1.mp hi
      rw [h3 i (by omega) (by omega) (by omega)]
      simp
    rw [z1, z2, z3, List.nil_append, List.append_nil]
  · refine .inl (idx_none fun i hi => ?_)
    cases e : c i with
    | false => rfl
    | true => exact absurd ⟨i, hi, e⟩ h
/-! ### the sizes that fit some feet -/
structure FitsL (H : Hp) (D : Addr) (ls : List (List Int)) : Prop where
  ob : ∃ ts : List V, H D = some (.lst ts) ∧ ts.length = ls.length ∧ ∀ (i : Nat) (v : V) (l : List Int), ts[i]? = some v → ls[i]? = some l → ∃ T, v = .ref T ∧ H T = some (.tup (l.map V.int))
theorem FitsL.same {H H' : Hp} {D : Addr} {ls : List (List Int)} (a : FitsL H D ls) (s : Same H H') : FitsL H' D ls := by
  obtain ⟨ts, h1, h2, h3⟩ := a.ob
  refine ⟨ts, s _ _ h1, h2, fun i v l e1 e2 => ?_⟩
  obtain ⟨T, e, h⟩ := h3 i v l e1 e2
  exact ⟨T, e, s _ _ h⟩
theorem FitsL.at {H : Hp} {D : Addr} {ls : List (List Int)} {ts : List V} (h2 : ts.length = ls.length) (h3 : ∀ (i : Nat) (v : V) (l : List Int), ts[i]? = some v → ls[i]? = some l → ∃ T, v = .ref T ∧ H T = some (.tup (l.map V.int))) {i : Nat} {l : List Int} (h : ls[i]? = some l) : ∃ T, ts[i]? = some (.ref T) ∧ H T = some (.tup (l.map V.int)) := by
  have hi : i < ts.length := by rw [h2]; exact (List.getElem?_eq_some_iff.mp h).1
  obtain ⟨T, e, k⟩ := h3 i _ l (List.getElem?_eq_getElem hi) h
  exact ⟨T, by rw [List.getElem?_eq_getElem hi, e], k⟩
def fitL (zs xs : List Q2) (s t : Q2) : List (List Int) := xs.map fun x => idx zs.length (fitQ zs x s t)
/-- the first one of which there is none -/
def BareAt (ls : List (List Int)) : Option Nat → Prop
  | none => ∀ l ∈ ls, l ≠ []
  | some n => ls[n]? = some [] ∧ ∀ j l, j < n → ls[j]? = some l → l ≠ []
theorem BareAt.uniq {ls : List (List Int)} : ∀ {o o' : Option Nat}, BareAt ls o → BareAt ls o' → o = o'
  | none, none, _, _ => rfl
  | none, some n, h, g => absurd rfl (h _ (List.mem_of_getElem? g.1))
  | some n, none, h, g => absurd rfl (g _ (List.mem_of_getElem? h.1))
  | some n, some m, h, g => by
    rcases Nat.lt_trichotomy n m with q | q | q
    · exact absurd rfl (g.2 n _ q h.1)
    · rw [q]
    · exact absurd rfl (h.2 m _ q g.1)
def firstI (ls : List (List Int)) (a : Int) : Int := ((ls.getD a.toNat []).head?).getD 0
def lastI (ls : List (List Int)) (a : Int) : Int := ((ls.getD a.toNat []).getLast?).getD 0
/-- runs: none is bare, each begins no later than it ends -/
def RunsI (ls : List (List Int)) : Prop := ∀ i : Nat, i < ls.length → ls.getD i [] ≠ [] ∧ firstI ls i ≤ lastI ls i
/-- as few sizes as can be, and as many feet apart -/
structure Few (ls : List (List Int)) (ss as : List Int) : Prop where
  len : ss.length = as.length
  rise : RiseI ss
  arise : RiseI as
  mem : ∀ a ∈ as, ∃ i : Nat, a = (i : Int) ∧ i < ls.length
  own : ∀ s ∈ ss, ∃ i : Nat, i < ls.length ∧ s = lastI ls i
  hit : ∀ i : Nat, i < ls.length → ∃ s ∈ ss, firstI ls i ≤ s ∧ s ≤ lastI ls i
  apart : ∀ a ∈ as, ∀ b ∈ as, a ≠ b → lastI ls a < firstI ls b ∨ lastI ls b < firstI ls a
structure GInv (ls : List (List Int)) (done : List (Int × Int)) (ss as : List Int) : Prop where
  len : ss.length = as.length
  hits : ∀ q ∈ done, ∃ s ∈ ss, firstI ls q.2 ≤ s ∧ s ≤ q.1
  own : ∀ (j : Nat) (s a : Int), ss[j]? = some s → as[j]? = some a → (s, a) ∈ done
  ap : ∀ (j j' : Nat) (s a : Int), j < j' → ss[j]? = some s → as[j']? = some a → s < firstI ls a
theorem GInv.nil {ls : List (List Int)} : GInv ls [] [] [] := ⟨rfl, fun q h => by simp at h, fun j s a h => by simp at h, fun j j' s a _ h => by simp at h⟩
/-- the pairs of last sizes and numbers -/
structure PairsOf (ls : List (List Int)) (ps : List (Int × Int)) : Prop where
  perm : ps.Perm ((List.range ls.length).map fun i : Nat => (lastI ls i, (i : Int)))
  srt : ∀ (i j : Nat) (p q : Int × Int), i < j → ps[i]? = some p → ps[j]? = some q → p.1 ≤ q.1
theorem PairsOf.mem {ls : List (List Int)} {ps : List (Int × Int)} (h : PairsOf ls ps) {q : Int × Int} : q ∈ ps ↔ ∃ i : Nat, i < ls.length ∧ q = (lastI ls i, (i : Int)) := by
  rw [h.perm.mem_iff, List.mem_map]
  constructor
  · rintro ⟨i, hi, e⟩; exact ⟨i, List.mem_range.mp hi, e.symm⟩
  · rintro ⟨i, hi, e⟩; exact ⟨i, List.mem_range.mpr hi, e.symm⟩
theorem GInv.rise {ls : List (List Int)} {ps : List (Int × Int)} {k : Nat} {ss as : List Int} (P : PairsOf ls ps) (R : RunsI ls) (g : GInv ls (ps.take k) ss as) : ∀ (j j' : Nat) (s s' : Int), j < j' → ss[j]? = some s → ss[j']? = some s' → s < s' := fun j j' s s' hj h h' => by
  have l := (List.getElem?_eq_some_iff.mp h').1
  obtain ⟨a', ha'⟩ := geI (zs := as) (n := j') (by rw [← g.len]; exact l)
  have h1 := g.ap j j' s a' hj h ha'
  have h2 := g.own j' s' a' h' ha'
  obtain ⟨i, hi, e⟩ := P.mem.mp (List.mem_of_mem_take h2)
  obtain ⟨rfl, rfl⟩ := Prod.mk.inj e
  have := (R i hi).2
  omega
theorem GInv.skip {ls : List (List Int)} {ps : List (Int × Int)} {k : Nat} {ss as : List Int} {b n s : Int} (P : PairsOf ls ps) (R : RunsI ls) (hk : ps[k]? = some (b, n)) (g : GInv ls (ps.take k) ss as) (hl : ss.getLast? = some s) (h : firstI ls n ≤ s) : GInv ls (ps.take (k + 1)) ss as := by
  have e : ps.take (k + 1) = ps.take k ++ [(b, n)] := by rw [List.take_add_one, hk]; rfl
  refine ⟨g.len, fun q hq => ?_, fun j s' a h1 h2 => ?_, g.ap⟩
  · rw [e] at hq
    rcases List.mem_append.mp hq with hq | hq
    · exact g.hits q hq
    · have : q = (b, n) := by simpa using hq
      subst this
      refine ⟨s, List.mem_of_getLast? hl, h, ?_⟩
      have l0 : 0 < ss.length := by cases ss with | nil => simp at hl | cons => simp
      have hs : ss[ss.length - 1]? = some s := by rw [← List.getLast?_eq_getElem?]; exact hl
      obtain ⟨a, ha⟩ := geI (zs := as) (n := ss.length - 1) (by rw [← g.len]; omega)
      have hm := g.own _ s a hs ha
      obtain ⟨i, hi⟩ := List.mem_iff_getElem?.mp hm
      have li := (List.getElem?_eq_some_iff.mp hi).1
      rw [List.length_take] at li
      rw [List.getElem?_take_of_lt (by omega)] at hi
      exact P.srt i k (s, a) (b, n) (by omega) hi hk
  · rw [e]
    exact List.mem_append.mpr (.inl (g.own j s' a h1 h2))
theorem GInv.take {ls : List (List Int)} {ps : List (Int × Int)} {k : Nat} {ss as : List Int} {b n : Int} (P : PairsOf ls ps) (R : RunsI ls) (hk : ps[k]? = some (b, n)) (g : GInv ls (ps.take k) ss as) (h : ∀ s, ss.getLast? = some s → s < firstI ls n) : GInv ls (ps.take (k + 1)) (ss ++ [b]) (as ++ [n]) := by
  have e : ps.take (k + 1) = ps.take k ++ [(b, n)] := by rw [List.take_add_one, hk]; rfl
  obtain ⟨i, hi, ei⟩ := P.mem.mp (List.mem_of_getElem? hk)
  obtain ⟨rfl, rfl⟩ := Prod.mk.inj ei
  refine ⟨by rw [List.length_append, List.length_append, g.len]; rfl, fun q hq => ?_, fun j s' a h1 h2 => ?_, fun j j' s' a hj h1 h2 => ?_⟩
  · rw [e] at hq
    rcases List.mem_append.mp hq with hq | hq
    · obtain ⟨s, hs, q1⟩ := g.hits q hq
      exact ⟨s, List.mem_append.mpr (.inl hs), q1⟩
    · have : q = (lastI ls (i : Int), (i : Int)) := by simpa using hq
      subst this
      exact ⟨lastI ls i, by simp, (R i hi).2, Int.le_refl _⟩
  · rw [e]
    by_cases hlt : j < ss.length
    · rw [List.getElem?_append_left hlt] at h1
      rw [List.getElem?_append_left (by rw [← g.len]; exact hlt)] at h2
      exact List.mem_append.mpr (.inl (g.own j s' a h1 h2))
    · have l1 := (List.getElem?_eq_some_iff.mp h1).1
      rw [List.length_append, List.length_singleton] at l1
      have ej : j = ss.length := by omega
      rw [ej, List.getElem?_append_right (Nat.le_refl _), Nat.sub_self] at h1
      rw [ej, g.len, List.getElem?_append_right (Nat.le_refl _), Nat.sub_self] at h2
      have h1 : lastI ls i = s' := by simpa using h1
      have h2 : (i : Int) = a := by simpa using h2
      rw [← h1, ← h2]
      simp
  · have l2 := (List.getElem?_eq_some_iff.mp h2).1
    rw [List.length_append, List.length_singleton, ← g.len] at l2
    have h1' : ss[j]? = some s' := by
      rw [List.getElem?_append_left (by omega)] at h1; exact h1
    by_cases hlt : j' < ss.length
    · rw [List.getElem?_append_left (by rw [← g.len]; exact hlt)] at h2
      exact g.ap j j' s' a hj h1' h2
    · have ej : j' = ss.length := by omega
      rw [ej, g.len, List.getElem?_append_right (Nat.le_refl _), Nat.sub_self] at h2
      have h2 : (i : Int) = a := by simpa using h2
      rw [← h2]
      have hs : ss[ss.length - 1]? = ss.getLast? := List.getLast?_eq_getElem?.symm
      obtain ⟨s, hs2⟩ := geI (zs := ss) (n := ss.length - 1) (by omega)
      have hlast := h s (by rw [← hs]; exact hs2)
      by_cases q : j = ss.length - 1
      · rw [q, hs2] at h1'
        cases h1'
        exact hlast
      · have := g.rise P R j (ss.length - 1) s' s (by omega) h1' hs2
        omega
theorem few_of {ls : List (List Int)} {ps : List (Int × Int)} {ss as as' : List Int} (P : PairsOf ls ps) (R : RunsI ls) (g : GInv ls ps ss as) (hp : as'.Perm as) (hs : as'.Pairwise (· ≤ ·)) : Few ls ss as' := by
  have g' : GInv ls (ps.take ps.length) ss as := by rw [List.take_length]; exact g
  have ri := g'.rise P R
  have key : ∀ a ∈ as, ∃ (j : Nat) (s : Int), ss[j]? = some s ∧ as[j]? = some a ∧ ∃ i : Nat, i < ls.length ∧ a = (i : Int) ∧ s = lastI ls a := fun a ha => by
    obtain ⟨j, hj⟩ := List.mem_iff_getElem?.mp ha
    have lj := (List.getElem?_eq_some_iff.mp hj).1
    obtain ⟨s, hs⟩ := geI (zs := ss) (n := j) (by rw [g.len]; exact lj)
    obtain ⟨i, hi, e⟩ := P.mem.mp (g.own j s a hs hj)
    obtain ⟨rfl, rfl⟩ := Prod.mk.inj e
    exact ⟨j, _, hs, hj, i, hi, rfl, rfl⟩
  have nd : as.Nodup := by
    refine List.pairwise_iff_getElem.mpr fun i j hi0 hj hij q => ?_
    obtain ⟨a, ha⟩ := geI (zs := as) (n := i) (by omega)
    have hb : as[j]? = some a := by rw [List.getElem?_eq_getElem hj, ← q, ← List.getElem?_eq_getElem hi0]; exact ha
    obtain ⟨s, hs1⟩ := geI (zs := ss) (n := i) (by rw [g.len]; omega)
    obtain ⟨s', hs2⟩ := geI (zs := ss) (n := j) (by rw [g.len]; omega)
    have h1 := g.ap i j s a hij hs1 hb
    obtain ⟨i2, hi2, e⟩ := P.mem.mp (g.own i s a hs1 ha)
    obtain ⟨rfl, rfl⟩ := Prod.mk.inj e
    have := (R i2 hi2).2
    omega
  have nd' : as'.Nodup := hp.nodup_iff.mpr nd
  refine ⟨g.len.trans hp.length_eq.symm, fun i a b h1 h2 => ri i (i + 1) a b (by omega) h1 h2, fun i a b h1 h2 => ?_, fun a ha => ?_, fun s hs' => ?_, fun i hi => ?_, fun a ha b hb ne => ?_⟩
  · have l2 := (List.getElem?_eq_some_iff.mp h2).1
    have e1 := (List.getElem?_eq_some_iff.mp h1).2
    have e2 := (List.getElem?_eq_some_iff.mp h2).2
    have le := List.pairwise_iff_getElem.mp hs i (i + 1) (by omega) l2 (by omega)
    have ne : as'[i] ≠ as'[i + 1] := List.pairwise_iff_getElem.mp nd' i (i + 1) (by omega) l2 (by omega)
    rw [e1, e2] at le ne
    omega
  · obtain ⟨j, s, _, _, i, hi, e, _⟩ := key a (hp.mem_iff.mp ha)
    exact ⟨i, e, hi⟩
  · obtain ⟨j, hj⟩ := List.mem_iff_getElem?.mp hs'
    have lj := (List.getElem?_eq_some_iff.mp hj).1
    obtain ⟨a, ha⟩ := geI (zs := as) (n := j) (by rw [← g.len]; exact lj)
    obtain ⟨i, hi, e⟩ := P.mem.mp (g.own j s a hj ha)
    obtain ⟨rfl, rfl⟩ := Prod.mk.inj e
    exact ⟨i, hi, rfl⟩
  · exact g.hits (lastI ls i, (i : Int)) (P.mem.mpr ⟨i, hi, rfl⟩)
  · obtain ⟨j, s, h1, h2, i, hi, e, es⟩ := key a (hp.mem_iff.mp ha)
    obtain ⟨j', s', h1', h2', i', hi', e', es'⟩ := key b (hp.mem_iff.mp hb)
    rcases Nat.lt_trichotomy j j' with q | q | q
    · exact .inl (by rw [← es]; exact g.ap j j' s b q h1 h2')
    · subst q
      rw [h2] at h2'
      exact absurd (Option.some.inj h2') ne
    · exact .inr (by rw [← es']; exact g.ap j' j s' a q h1' h2)
theorem idx_sorted {n : Nat} {c : Nat → Bool} : (idx n c).Pairwise (· < ·) := by
  unfold idx
  rw [List.pairwise_map]
  refine List.Pairwise.imp ?_ (List.Pairwise.filter c List.pairwise_lt_range)
  intro a b h
  omega
theorem head_last : ∀ {l : List Int}, l.Pairwise (· < ·) → ∀ {f b : Int}, l.head? = some f → l.getLast? = some b → f ≤ b
  | [], _, f, b, h, _ => by simp at h
  | x :: l, hp, f, b, h, g => by
    have e : x = f := by simpa using h
    subst e
    have hb := List.mem_of_getLast? g
    rcases List.mem_cons.mp hb with q | q
    · omega
    · have := (List.pairwise_cons.mp hp).1 b q
      omega
theorem runs_fitL {zs xs : List Q2} {s t : Q2} {i : Nat} {l : List Int} (h : (fitL zs xs s t)[i]? = some l) (ne : l ≠ []) : firstI (fitL zs xs s t) (i : Int) ≤ lastI (fitL zs xs s t) (i : Int) := by
  have e : (fitL zs xs s t).getD i [] = l := by rw [List.getD_eq_getElem?_getD, h]; rfl
  have hl : l.Pairwise (· < ·) := by
    unfold fitL at h
    rw [List.getElem?_map] at h
    cases q : xs[i]? with
    | none => rw [q] at h; cases h
    | some x => rw [q] at h; cases h; exact idx_sorted
  unfold firstI lastI
  rw [Int.toNat_natCast, e]
  cases e1 : l.head? with
  | none => exact absurd (List.head?_eq_none_iff.mp e1) ne
  | some f =>
    cases e2 : l.getLast? with
    | none => exact absurd (List.getLast?_eq_none_iff.mp e2) ne
    | some b => exact head_last hl e1 e2
/-! ### tuples of the heap: sums and slices -/
section
variable {X : Cx}
def rCatH : R2 := fun x y H Q => ∃ (a b : Addr) (xs ys : List V), x = .ref a ∧ y = .ref b ∧ H a = some (.tup xs) ∧ H b = some (.tup ys) ∧ xs.length + ys.length ≤ sizeLine ∧ ∀ (p : Addr) (H' : Hp), Same H H' → H' p = some (.tup (xs ++ ys)) → Q (.ref p) H'
theorem catH : OpR X (binaryOp .Add) rCatH := by
  intro pins s σ H x y v u Q I rx ry h
  obtain ⟨a, b, xs, ys, e1, e2, ha, hb, hz, q⟩ := h
  refine op_catA pins s σ H x y v u Q I rx ry ⟨a, b, xs, ys, e1, e2, SqT.of ha, SqT.of hb, hz, fun e => q b H (Same.refl _) ?_, fun _ e => q a H (Same.refl _) ?_, fun _ _ p np => q p _ (same1 np) upd_same⟩
  · rw [e]; exact hb
  · rw [e, List.append_nil]; exact ha
def rSlH : V → Option Int → Option Int → Hp → VK → Prop := fun x lo hi H Q => ∃ (a : Addr) (xs : List V), x = .ref a ∧ H a = some (.tup xs) ∧ ∀ (p : Addr) (H' : Hp), Same H H' → H' p = some (.tup (cutV xs lo hi)) → Q (.ref p) H'
theorem slH : SlR X rSlH := by
  intro pins s σ H x v vl vu lo hi sl Q I rx hs pl pu h
  obtain ⟨a, xs, e1, hx, q⟩ := h
  refine sl_tupA pins s σ H x v vl vu lo hi sl Q I rx hs pl pu ⟨a, xs, e1, SqT.of hx, fun e => q a H (Same.refl _) ?_, fun _ p np => q p _ (same1 np) upd_same⟩
  have e2 : cutV xs lo hi = xs := by
    unfold cutV
    rw [e.1, e.2, List.drop_zero, Nat.sub_zero, List.take_length]
  rw [e2]
  exact hx
end
/-! ### fractions as rational numbers -/
def toR (z : Q2) : Rat := (z.1 : Rat) / (z.2 : Rat)
theorem posR {n : Int} (h : 0 < n) : (0 : Rat) < (n : Rat) := by
  have := Rat.intCast_lt_intCast.mpr h
  simpa using this
section
variable {a b z w x y : Q2}
theorem div_ltR {a b c d : Int} (hb : 0 < b) (hd : 0 < d) : ((a : Rat) / b < (c : Rat) / d) ↔ (a : Rat) * d < c * b := by
  have hb := posR hb
  have hd := posR hd
  constructor
  · intro h
    have e1 : (a : Rat) * d = (a / b) * (b * d) := by grind
    have e2 : (c : Rat) * b = (c / d) * (b * d) := by grind
    rw [e1, e2]
    exact Rat.mul_lt_mul_of_pos_right h (Rat.mul_pos hb hd)
  · intro h
    by_cases g : (c : Rat) / d ≤ (a : Rat) / b
    · have := Rat.mul_le_mul_of_nonneg_right g (Rat.le_of_lt (Rat.mul_pos hb hd))
      have e1 : (a : Rat) * d = (a / b) * (b * d) := by grind
      have e2 : (c : Rat) * b = (c / d) * (b * d) := by grind
      grind
    · grind
theorem ltq_R (ha : 0 < a.2) (hb : 0 < b.2) : ltq a b = true ↔ toR a < toR b := by
  unfold toR
  rw [div_ltR ha hb]
  unfold ltq
  rw [decide_eq_true_iff, ← Rat.intCast_mul, ← Rat.intCast_mul, Rat.intCast_lt_intCast]
theorem leq_R (ha : 0 < a.2) (hb : 0 < b.2) : leq a b = true ↔ toR a ≤ toR b := by
  rw [leq_not]
  cases e : ltq b a with
  | true =>
    have := (ltq_R hb ha).mp e
    constructor
    · intro h; simp at h
    · intro h; grind
  | false =>
    have : ¬ toR b < toR a := fun q => by rw [(ltq_R hb ha).mpr q] at e; cases e
    constructor
    · intro _; grind
    · intro _; rfl
theorem re_R (h : Re z w) : toR z = toR w := by
  obtain ⟨h1, h2, h3⟩ := h
  unfold toR
  have p1 := posR h1
  have p2 := posR h2
  have e : (z.1 : Rat) * (w.2 : Rat) = (w.1 : Rat) * (z.2 : Rat) := by rw [← Rat.intCast_mul, ← Rat.intCast_mul, h3]
  grind
theorem add_R (ha : 0 < a.2) (hb : 0 < b.2) : toR (qadd a b) = toR a + toR b := by
  unfold toR qadd
  have p1 := posR ha
  have p2 := posR hb
  simp only [Rat.intCast_add, Rat.intCast_mul]
  grind
theorem sub_R (ha : 0 < a.2) (hb : 0 < b.2) : toR (qsub a b) = toR a - toR b := by
  unfold toR qsub
  have p1 := posR ha
  have p2 := posR hb
  simp only [Rat.intCast_sub, Rat.intCast_mul]
  grind
theorem nn_R (ha : 0 < a.2) : 0 ≤ a.1 ↔ 0 ≤ toR a := by
  have p : 0 < ((0, 1) : Q2).2 := by decide
  have h := leq_R (a := (0, 1)) (b := a) p ha
  have e : toR (0, 1) = 0 := by unfold toR; grind
  rw [e] at h
  rw [← h, leq_not]
  unfold ltq
  simp
theorem qadd_pos (ha : 0 < a.2) (hb : 0 < b.2) : 0 < (qadd a b).2 := Int.mul_pos ha hb
theorem qsub_pos (ha : 0 < a.2) (hb : 0 < b.2) : 0 < (qsub a b).2 := Int.mul_pos ha hb
end
theorem Re.nn {z w : Q2} (r : Re z w) (h : 0 ≤ w.1) : 0 ≤ z.1 := by
  rw [nn_R r.1, re_R r]
  exact (nn_R r.2.1).mp h
theorem fitQ_R {zs : List Q2} {a z x y : Q2} {i : Nat} (h : zs[i]? = some a) (pa : 0 < a.2) (pz : 0 < z.2) (px : 0 < x.2) (py : 0 < y.2) : fitQ zs z x y i = true ↔ toR z - toR y ≤ toR a ∧ toR a ≤ toR z + toR x := by
  unfold fitQ
  rw [h]
  show (leq (qsub z y) a && leq a (qadd z x)) = true ↔ _
  rw [Bool.and_eq_true, leq_R (qsub_pos pz py) pa, leq_R pa (qadd_pos pz px), sub_R pz py, add_R pz px]
section
variable {zs : List Q2} {a z x y e w : Q2} {i : Nat}
end
/-! ### lists of tuples of numbers as data -/
theorem rm65 {k : Nat} {A : Around} (r : Room k A) : A.units + 65 < cLine := by have := r.un; omega
section
variable {X : Cx} {K : PySem.W.Frag}
theorem inDK (hu : X.A.units + 65 < cLine) (hK : X.K = K := by rfl) : OpR X (compareOp .In) (rInD K) := by subst hK; exact op_inD hu
theorem indexDK (hu : X.A.units + 65 < cLine) (hK : X.K = K := by rfl) : MtR X "list.index" (rIndexD K) := by subst hK; exact mt_indexD hu
end
theorem eqvAll_ints : ∀ a b : List Int, PyData.eqvAll (a.map PyData.int) (b.map PyData.int) = decide (a = b)
  | [], [] => by simp [PyData.eqvAll]
  | [], _ :: _ => by simp [PyData.eqvAll]
  | _ :: _, [] => by simp [PyData.eqvAll]
  | x :: a, y :: b => by
    have e : (x == y) = decide (x = y) := by rw [Bool.eq_iff_iff]; simp
    simp [PyData.eqvAll, PyData.eqv, eqvAll_ints a b, e]
theorem eqv_intsD (a b : List Int) : PyData.eqv (intsD a) (intsD b) = decide (a = b) := by
  unfold intsD
  simp [PyData.eqv, eqvAll_ints]
theorem dpAll_of {α : Type} {K : PySem.W.Frag} {H : Hp} (f : α → PyData) : ∀ {ts : List V} {ls : List α}, ts.length = ls.length → (∀ (i : Nat) (v : V) (l : α), ts[i]? = some v → ls[i]? = some l → Dp K H v (f l)) → DpAll K H ts (ls.map f)
  | [], [], _, _ => .nil
  | [], _ :: _, h, _ => by simp at h
  | _ :: _, [], h, _ => by simp at h
  | t :: ts, l :: ls, h, g => .cons (g 0 t l rfl rfl) (dpAll_of f (by simpa using h) fun i v l' h1 h2 => g (i + 1) v l' (by simpa using h1) (by simpa using h2))
theorem rows_lay {α : Type} (f : α → List Int) : ∀ ls : List α, PyData.canLayAll0 (ls.map fun l => intsD (f l)) = true
  | [] => rfl
  | l :: ls => by
    show ((intsD (f l)).canLay0 && PyData.canLayAll0 (ls.map fun l => intsD (f l))) = true
    rw [rows_lay f ls, Bool.and_true]
    exact layI (f l)
theorem rows_depth {α : Type} (f : α → List Int) : ∀ ls : List α, PyData.depthAll (ls.map fun l => intsD (f l)) ≤ 3
  | [] => by simp [PyData.depthAll]
  | l :: ls => by
    have h := rows_depth f ls
    have h1 := ints_depth (f l)
    have e : PyData.depthAll ((l :: ls).map fun l => intsD (f l)) = max (intsD (f l)).depth (PyData.depthAll (ls.map fun l => intsD (f l))) := by simp [PyData.depthAll]
    have e2 : (intsD (f l)).depth = PyData.depthAll ((f l).map PyData.int) + 1 := rfl
    omega
theorem shRows {α : Type} (f : α → List Int) (ls : List α) : SeqAt.shaped (.list (ls.map fun l => intsD (f l))) = true := by
  have h := rows_depth f ls
  have e1 : (PyData.list (ls.map fun l => intsD (f l))).depth ≤ 64 := by
    show PyData.depthAll (ls.map fun l => intsD (f l)) + 1 ≤ 64
    omega
  have e2 : (PyData.list (ls.map fun l => intsD (f l))).canLay0 = true := rows_lay f ls
  unfold SeqAt.shaped
  rw [e2, decide_eq_true e1]
  rfl
theorem shInts (zs : List Int) : SeqAt.shaped (intsD zs) = true := by
  have h := ints_depth zs
  have e1 : (intsD zs).depth ≤ 64 := by
    show PyData.depthAll (zs.map PyData.int) + 1 ≤ 64
    omega
  have e2 : (intsD zs).canLay0 = true := layI zs
  unfold SeqAt.shaped
  rw [e2, decide_eq_true e1]
  rfl
theorem FitsL.dp {K : PySem.W.Frag} {H : Hp} {D : Addr} {ls : List (List Int)} (a : FitsL H D ls) : Dp K H (.ref D) (.list (ls.map fun l => intsD l)) := by
  obtain ⟨ts, h1, h2, h3⟩ := a.ob
  refine .lst (SqL.of h1) (dpAll_of (fun l => intsD l) h2 fun i v l e1 e2 => ?_)
  obtain ⟨T, rfl, h⟩ := h3 i v l e1 e2
  exact dpT h
theorem any_bare (ls : List (List Int)) : ((ls.map fun l => intsD l).any fun z => PyData.eqv z (intsD [])) = true ↔ ∃ l ∈ ls, l = [] := by
  rw [List.any_eq_true]
  constructor
  · rintro ⟨z, hz, e⟩
    obtain ⟨l, hl, rfl⟩ := List.mem_map.mp hz
    rw [eqv_intsD] at e
    exact ⟨l, hl, of_decide_eq_true e⟩
  · rintro ⟨l, hl, e⟩
    exact ⟨intsD l, List.mem_map.mpr ⟨l, hl, rfl⟩, by rw [eqv_intsD]; exact decide_eq_true e⟩
/-! ### a set of a tuple of numbers -/
/-! ### looked at ahead of a step (apply fails at once where exact, refine and show take seconds) -/
theorem eq_id {α : Sort _} {a b : α} (h : a = b) : a = b := h
theorem ile_id {a b : Int} (h : a ≤ b) : a ≤ b := h
theorem ilt_id {a b : Int} (h : a < b) : a < b := h
theorem nle_id {a b : Nat} (h : a ≤ b) : a ≤ b := h
theorem nlt_id {a b : Nat} (h : a < b) : a < b := h
section
variable {K : PySem.W.Frag} {C CM CL CG p h a L1 L2 : Addr} {H H' : Hp} {v : V} {k n : Nat} {z : Q2} {vs : List V} {zs ys : List Q2} {e : Option Q2} {r : Str} {lo hi : Option Q2} {o : Option HO} {x : HO} {P Q : Prop}
theorem TQ_id (t : TQ H v k z) : TQ H v k z := t
theorem Tqs_id (t : Tqs H k vs zs) : Tqs H k vs zs := t
theorem QAt_id (t : QAt C H p k z) : QAt C H p k z := t
theorem Mks_id (t : Mks C H k vs zs) : Mks C H k vs zs := t
theorem QO_id (t : QO C H k v e) : QO C H k v e := t
theorem TOq_id (t : TOq H k v e) : TOq H k v e := t
theorem LadAt_id (t : LadAt K CM CL H p k zs r lo hi) : LadAt K CM CL H p k zs r lo hi := t
theorem GrdAt_id (t : GrdAt K CM CL CG H p k L1 L2 z) : GrdAt K CM CL CG H p k L1 L2 z := t
theorem SidesAt_id (t : SidesAt H h p k zs ys z) : SidesAt H h p k zs ys z := t
theorem ChartAt_id (t : ChartAt H p k r lo hi) : ChartAt H p k r lo hi := t
theorem HandAt_id (t : HandAt H h n) : HandAt H h n := t
theorem SqT_id (t : SqT K H a vs) : SqT K H a vs := t
theorem SqL_id (t : SqL K H a vs) : SqL K H a vs := t
theorem Kp_id (t : Kp h H H') : Kp h H H' := t
theorem Same_id (t : Same H H') : Same H H' := t
theorem AllTQ_id (t : AllTQ H k vs) : AllTQ H k vs := t
theorem ho_id (t : o = some x) : o = some x := t
theorem sq2_id (t : SqL K H a vs ∨ SqT K H a vs) : SqL K H a vs ∨ SqT K H a vs := t
theorem exT_id (t : ∃ xs, SqT K H a xs) : ∃ xs, SqT K H a xs := t
theorem exL_id (t : ∃ xs, SqL K H a xs) : ∃ xs, SqL K H a xs := t
end
/-! ### what follows a statement, kept out of sight while it is read -/
/-! ### a comprehension over a list that draws, some left out -/
theorem AllTQ.nl {H H' : Hp} {k : Nat} {vs : List V} (m : AllTQ H k vs) (s : Nl H H') : AllTQ H' k vs := fun x hx => by
  obtain ⟨z, t⟩ := m x hx
  exact ⟨z, t.nl s⟩
theorem AllTQ.same {H H' : Hp} {k : Nat} {vs : List V} (m : AllTQ H k vs) (s : Same H H') : AllTQ H' k vs := m.nl (Nl.of s)
theorem AllTQ.mono {H : Hp} {k j : Nat} {vs : List V} (m : AllTQ H k vs) (l : k ≤ j) : AllTQ H j vs := fun x hx => by
  obtain ⟨z, t⟩ := m x hx
  exact ⟨z, t.mono l⟩
theorem Kp.up2 {h D : Addr} {H H1 : Hp} {u : HO} (k : Kp h H H1) (hD : H D = none) : Kp h H (upd H1 D u) := fun c o e n => by
  rw [upd_ne (ne_of_none e hD)]
  exact k c o e n
end My
namespace My
open PySem PySem.Spec PyProof.Rows L2
/-! ### the stretches of a ladder's sizes, held -/
theorem MAt.nl {C p : Addr} {H H' : Hp} {t u : Int} (a : MAt C H p t u) (s : Nl H H') : MAt C H' p t u := by
  obtain ⟨dx, h⟩ := a
  exact ⟨dx, s _ _ h rfl⟩
theorem MsV.nl {C : Addr} {H H' : Hp} {v : V} (s : Nl H H') : ∀ {e : Option Q2}, MsV C H v e → MsV C H' v e
  | none, h => h
  | some _, ⟨p, h1, h2⟩ => ⟨p, h1, h2.nl s⟩
theorem StAt.nl {CM CS p : Addr} {H H' : Hp} {lo hi : Option Q2} {li hj : Bool} (a : StAt CM CS H p lo hi li hj) (s : Nl H H') : StAt CM CS H' p lo hi li hj := by
  obtain ⟨⟨dx, l, h, h1, h2, h3⟩, a1, a2, a3, a4⟩ := a
  exact ⟨⟨dx, l, h, s _ _ h1 rfl, h2.nl s, h3.nl s⟩, a1, a2, a3, a4⟩
theorem StQ.nl {CM CS p : Addr} {H H' : Hp} {x y : Option Q2 × Bool} (a : StQ CM CS H p x y) (s : Nl H H') : StQ CM CS H' p x y := by
  obtain ⟨lo, hi, h1, h2, h3⟩ := a
  exact ⟨lo, hi, h1.nl s, h2, h3⟩
/-- the stretch of a size, or None -/
def RunV (CM CS : Addr) (H : Hp) (v : V) (zs : List Q2) (r : Str) (lo hi : Option Q2) (n : Nat) : Prop :=
  (sizB zs r lo hi n = true ∧ ∃ p, v = .ref p ∧ StQ CM CS H p (sizE zs r lo hi n).1 (sizE zs r lo hi n).2) ∨ (sizB zs r lo hi n = false ∧ v = .non)
section
variable {CM CS : Addr} {H H' : Hp} {v : V} {zs : List Q2} {r : Str} {lo hi : Option Q2} {n : Nat}
theorem RunV.same (a : RunV CM CS H v zs r lo hi n) (s : Same H H') : RunV CM CS H' v zs r lo hi n := by
  rcases a with ⟨h, p, e, q⟩ | h
  · exact .inl ⟨h, p, e, q.same s⟩
  · exact .inr h
theorem RunV.nl (a : RunV CM CS H v zs r lo hi n) (s : Nl H H') : RunV CM CS H' v zs r lo hi n := by
  rcases a with ⟨h, p, e, q⟩ | h
  · exact .inl ⟨h, p, e, q.nl s⟩
  · exact .inr h
end
section
variable {CM CS : Addr} {H : Hp} {p q : Addr} {x y x2 y2 : Option Q2 × Bool}
theorem StQ.raw (a : StQ CM CS H p x y) {m : Str} (h1 : ¬ m = "low") (h2 : ¬ m = "high") (h3 : ¬ m = "low_in") (h4 : ¬ m = "high_in") {R : Prop} (h : R) : ∃ a dx fs, V.ref p = .ref a ∧ H a = some (.ins CS dx fs) ∧ fs.lookup m = none ∧ R := by
  obtain ⟨lo, hi, s, _⟩ := a
  exact meth_s s h1 h2 h3 h4 h
/-- an end of so many bits -/
def SzE (k : Nat) : Option Q2 → Prop
  | none => True
  | some a => Sz k a.1 ∧ Sz k a.2
end
theorem SzE.mono {k j : Nat} (l : k ≤ j) : ∀ {o : Option Q2}, SzE k o → SzE j o
  | none, _ => trivial
  | some _, h => ⟨h.1.mono l, h.2.mono l⟩
def SzL (k : Nat) (zs : List Q2) : Prop := ∀ z ∈ zs, Sz k z.1 ∧ Sz k z.2
theorem SzL.get {k : Nat} {zs : List Q2} (h : SzL k zs) (i : Nat) : SzE k zs[i]? := by
  cases e : zs[i]? with
  | none => trivial
  | some a => exact h a (List.mem_of_getElem? e)
theorem SzL.end {k : Nat} {zs : List Q2} (h : SzL k zs) (i : Int) : SzE k (endQ zs i) := by
  unfold endQ
  split
  · exact h.get _
  · trivial
theorem LawL.szs {H : Hp} {p : Addr} {part : Int} {ms : List Int} {r : Str} {lo hi : Option Int} (a : LawL H p part ms r lo hi) : SzL 40 (zq (4 * part) ms) ∧ SzE 40 (oq (4 * part) lo) ∧ SzE 40 (oq (4 * part) hi) := by
  have p0 := a.p0
  have p1 := a.p1
  have sp : Sz 40 (4 * part) := by show (4 * part).natAbs < 2 ^ 40; omega
  have sz : ∀ z : Int, -4000040 ≤ z → z ≤ 4000040 → Sz 40 z := fun z h1 h2 => by show z.natAbs < 2 ^ 40; omega
  refine ⟨fun z hz => ?_, ?_, ?_⟩
  · obtain ⟨m, hm, rfl⟩ := List.mem_map.mp hz
    have := a.bnd m hm
    exact ⟨sz m (by omega) (by omega), sp⟩
  · cases lo with
    | none => trivial
    | some z => have := a.blo z rfl; exact ⟨sz z this.1 this.2, sp⟩
  · cases hi with
    | none => trivial
    | some z => have := a.bhi z rfl; exact ⟨sz z this.1 this.2, sp⟩
theorem LadAt.up {K : PySem.W.Frag} {CM CL : Addr} {H : Hp} {p : Addr} {k j : Nat} {zs : List Q2} {r : Str} {lo hi : Option Q2} (a : LadAt K CM CL H p k zs r lo hi) (l : k ≤ j) : LadAt K CM CL H p j zs r lo hi := a.mono l
/-! ### measures that a stretch holds -/
def GoodM (CM : Addr) (x y : Option Q2 × Bool) (H : Hp) (ys : List V) : Prop := ∀ v ∈ ys, ∃ q z, v = .ref q ∧ QAt CM H q 300 z ∧ (loIn x.1 x.2 z && hiIn y.1 y.2 z) = true
theorem GoodM.nl {CM : Addr} {x y : Option Q2 × Bool} {H H' : Hp} {ys : List V} (g : GoodM CM x y H ys) (s : Nl H H') : GoodM CM x y H' ys := fun v hv => by
  obtain ⟨q, z, e, a, h⟩ := g v hv
  exact ⟨q, z, e, a.nl s, h⟩
theorem GoodM.snoc {CM : Addr} {x y : Option Q2 × Bool} {H : Hp} {ys : List V} {q : Addr} {z : Q2} (g : GoodM CM x y H ys) (a : QAt CM H q 300 z) (h : (loIn x.1 x.2 z && hiIn y.1 y.2 z) = true) : GoodM CM x y H (ys ++ [.ref q]) := fun v hv => by
  rcases List.mem_append.mp hv with hv | hv
  · exact g v hv
  · have : v = .ref q := by simpa using hv
    exact ⟨q, z, this, a, h⟩
section
variable {a b : Q2} {i j : Bool} {yo xo : Option Q2}
end
end My
namespace My
open PySem PySem.Spec PyProof.Rows L2
/-! ### comprehensions within comprehensions: the readings of the inner ones are found ahead -/
section
variable {X : Cx}
theorem pi_listK {K : PySem.W.Frag} {tg l : Expr} {tl : TE} (hl : PE X l tl) (hK : X.K = K := by rfl) : PI X tg l (iList K tl) := by subst hK; exact pi_list hl
theorem pi_tupK {K : PySem.W.Frag} {tg l : Expr} {tl : TE} (hl : PE X l tl) (hK : X.K = K := by rfl) : PI X tg l (iTup K tl) := by subst hK; exact pi_tup hl
theorem pe_lcD {s0 : Shared} {H0 : Hp} {elt tg iter : Expr} {ifs : List Expr} {scope : Scope} {own : List (Str × Nat)} {pos : Pos} {wi : TI} {g : TG} {tt : TT} {te : TE} (hc : X.calm = true) (hN : X.N.Nodup) (hi : PI X tg iter wi) (ok : BlkOk X.N X.env.scope scope own)
    (_ : PTs (X.blk s0 H0 scope (compEnvC scope [] 0 X.env) []) ifs tt) (_ : PE (X.blk s0 H0 scope (compEnvC scope [] 0 X.env) []) elt te)
    (hg : ∀ (s : Shared) (H : Hp) (C : Addr) (cl : List (Str × Addr)) (fp : List Addr), PG (X.blk s H scope (compEnvC scope cl C X.env) fp) tg g) (ht : ∀ (s : Shared) (H : Hp) (C : Addr) (cl : List (Str × Addr)) (fp : List Addr), PTs (X.blk s H scope (compEnvC scope cl C X.env) fp) ifs tt)
    (he : ∀ (s : Shared) (H : Hp) (C : Addr) (cl : List (Str × Addr)) (fp : List Addr), PE (X.blk s H scope (compEnvC scope cl C X.env) fp) elt te) (hs : ∀ x, foldedSetIterable iter X.env x = pure x := by intro _; rfl) :
    PE X (.ListComp elt [⟨tg, iter, ifs, 0⟩] scope pos) (tLc wi g tt te (own.map (·.2))) := pe_lc hc hN hi ok hg ht he hs
theorem ps_setLcD {s0 : Shared} {H0 : Hp} {i : Nat} {y : Str} {py : Pos} {elt tg iter : Expr} {ifs : List Expr} {scope : Scope} {own : List (Str × Nat)} {pos spos : Pos} {wi : TI} {g : TG} {tt : TT} {te : TE} (hc : X.calm = true) (hN : X.N.Nodup) (hy : X.N[i]? = some y) (hyl : X.env.scope.names.lookup y = some .local)
    (hsw : swapsWith (.ListComp elt [⟨tg, iter, ifs, 0⟩] scope pos) (some (.Name y py)) spos.line X.env = pure true) (hi : PI X tg iter wi) (ok : BlkOk X.N X.env.scope scope own)
    (_ : PTs (X.blk s0 H0 scope (compEnvC scope [] 0 X.env) []) ifs tt) (_ : PE (X.blk s0 H0 scope (compEnvC scope [] 0 X.env) []) elt te)
    (hg : ∀ (s : Shared) (H : Hp) (C : Addr) (cl : List (Str × Addr)) (fp : List Addr), PG (X.blk s H scope (compEnvC scope cl C X.env) fp) tg g) (ht : ∀ (s : Shared) (H : Hp) (C : Addr) (cl : List (Str × Addr)) (fp : List Addr), PTs (X.blk s H scope (compEnvC scope cl C X.env) fp) ifs tt)
    (he : ∀ (s : Shared) (H : Hp) (C : Addr) (cl : List (Str × Addr)) (fp : List Addr), PE (X.blk s H scope (compEnvC scope cl C X.env) fp) elt te) (hs : ∀ x, foldedSetIterable iter X.env x = pure x := by intro _; rfl) :
    PS X (.Assign [.Name y py] (.ListComp elt [⟨tg, iter, ifs, 0⟩] scope pos) spos) (tAsg (tLc wi g tt te (own.map (·.2))) (gName i)) := ps_setLc hc hN hy hyl hsw hi ok hg ht he hs
end
end My
namespace My
open PySem PySem.Spec PyProof.Rows L2
/-! ### repr of a tuple that holds own objects -/
section
variable {X : Cx} {n : Nat} {CX : CXT} {C f : Addr} {fd : FuncData} {ps : List Str} {sp : Sp} {E : XK}
end
/-! ### == of tuples, item by item -/
section
open GQ
open AutoSeq1 (wpAny_loadPart')
variable {prog : Program} {w : World} {A : Around} {R : Result → Shared → Prop}
end
section
variable {X : Cx} {n : Nat} {D : Eqb}
end
/-! ### {x} of an own object, repr of one whose own def shows a tuple -/
section
variable {X : Cx} {n : Nat} {CX : CXT} {C f : Addr} {fd : FuncData} {ps : List Str} {sp : Sp} {E : XK}
end
end My
namespace My
open PySem PySem.Spec PyProof.Rows L2
/-! ### signs of texts; dicts beside own == -/
/-! ### own == within comprehensions: K by name -/
end My
/-! ### own errors whose __init__ calls super().__init__(..): over any built-in base -/
namespace My
open PySem PySem.Spec PyProof.Rows L2 NdefX Builtin Builtin.ObjectAttr
/-- own classes, then T -/
def refsT (T : List Value) : List Value → Bool
  | .ref _ :: r => refsT T r
  | l => l == T
/-- what is asked of the built-in base -/
structure BaseX (B newId initId : String) (T : List Value) : Prop where
  F : ExcBaseFacts B newId initId T
  KF : PySem.W.KxsFacts B initId
  pass : ∀ self, refuseLoop self "__setattr__" T = pure ()
  ob : T.contains (.type "object") = true
  ne : T ≠ []
  nr : ∀ c r, T ≠ .ref c :: r
theorem refsT_cases {T : List Value} : ∀ l : List Value, refsT T l = true → (∃ c r, l = .ref c :: r ∧ refsT T r = true) ∨ l = T
  | [], e => .inr (beq_iff_eq.mp e)
  | .ref c :: r, e => .inl ⟨c, r, rfl, e⟩
  | .none :: _, e => .inr (beq_iff_eq.mp e)
  | .ellipsis :: _, e => .inr (beq_iff_eq.mp e)
  | .notImplemented :: _, e => .inr (beq_iff_eq.mp e)
  | .bool _ :: _, e => .inr (beq_iff_eq.mp e)
  | .int _ _ :: _, e => .inr (beq_iff_eq.mp e)
  | .float _ _ :: _, e => .inr (beq_iff_eq.mp e)
  | .str _ _ :: _, e => .inr (beq_iff_eq.mp e)
  | .bytes _ _ :: _, e => .inr (beq_iff_eq.mp e)
  | .type _ :: _, e => .inr (beq_iff_eq.mp e)
  | .builtin _ :: _, e => .inr (beq_iff_eq.mp e)
section
variable {B newId initId : String} {T : List Value} (bx : BaseX B newId initId T)
include bx
theorem BaseX.contains (X : String) : ∀ l : List Value, refsT T l = true → l.contains (.type X) = T.contains (.type X) := by
  intro l
  induction l with
  | nil => intro e; exact absurd (beq_iff_eq.mp e).symm bx.ne
  | cons a r ih =>
    intro e
    rcases refsT_cases (a :: r) e with ⟨c, r', q, h⟩ | q
    · obtain ⟨rfl, rfl⟩ := List.cons.inj q
      rw [List.contains_cons, ih h]; rfl
    · rw [q]
end
section
open PySem.HandSPX (store_in_new)
variable {prog : Program} {w : World} {A : Around} {E : Value → Shared → Prop} {R : Result → Shared → Prop} {hp : Heap} {g : Array GenState} {d : Drawn} {t : Nat} {os : OsState}
end
section
variable {Bn newId initId : String} {T : List Value} (bx : BaseX Bn newId initId T) {X : Cx} {pins : List (Addr × Obj)} {σ : L2.St} {H : Hp} {s : Shared} {a C dx : Addr} {f : Str} {y : V} {u : Value} {fs : List (Str × V)} {Q : Unit → Shared → Prop} {E : Value → Shared → Prop} {A : Around}
include bx
end
/-! ### super().__init__(..), then the fields -/
/-- an own __init__ as it stands behind the top: its closure one cell that holds its class; f its address, cc the cell, cda its code object, told by the file fl -/
structure SupD (K : PySem.W.Frag) (C : Addr) (name qual : Str) (params : Arguments) (body : List Stmt) (scope : Scope) (dvs : List V) (f cc cda : Addr) (fl : Str) (fd : FuncData) : Prop where
  ex : ∃ (oc : Value) (od : Option Addr) (dV kV doc pm : Value) (an : Option Addr) (ct : Value) (osl : Array (Option Value)),
    fd = PySem.W.fnX name qual params body scope [("__class__", cc)] dV kV doc pm an (.ref cda) ct ∧ K.lookup f = some ⟨oc, od, .func fd, osl⟩ ∧ DflV K dV dvs ∧ KwdV K kV []
  cell : ∃ (c0 : Value) (d0 : Option Addr) (s0 : Array (Option Value)), K.lookup cc = some ⟨c0, d0, .cell (some (.ref C)), s0⟩
  code : ∃ (c0 : Value) (d0 : Option Addr) (vs : Array Value) (s0 : Array (Option Value)) (tf : Tok), K.lookup cda = some ⟨c0, d0, .fields vs, s0⟩ ∧ vs[2]? = some (.str fl tf)
  cin : PySem.W.codeIn K (.ref cda) qual = true
  kp : PySem.W.keepIn K (.ref f) = true
section
variable {Bn newId initId : String} {T : List Value} (bx : BaseX Bn newId initId T) {X : Cx} {pins : List (Addr × Obj)} {σ : L2.St} {H : Hp} {s : Shared} {e C : Addr} {Q : Value → Shared → Prop}
include bx
end
section
variable {Bn newId initId : String} {T : List Value} (bx : BaseX Bn newId initId T) {X : Cx} {pins : List (Addr × Obj)} {σ : L2.St} {H : Hp} {s : Shared} {a C cc cda f : Addr}
include bx
end
section
variable {Bn newId initId : String} {T : List Value} (bx : BaseX Bn newId initId T) {CX : CXT} {P : Program} {w : World} {K : PySem.W.Frag} {mg : Str → Option Value} {base : Heap} {k : Nat} {C : Addr}
include bx
end
end My
/-! ### errors with fields: made, caught, kept -/
namespace My
open PySem PySem.Spec PyProof.Rows L2 NdefX
/-! #### what the top has written of them -/
/-! #### the head with such __init__ -/
theorem SupD.bindsA {K : PySem.W.Frag} {C : Addr} {name qual : Str} {params : Arguments} {body : List Stmt} {scope : Scope} {f cc cda : Addr} {fl : Str} {fd : FuncData} {ps : List Str} (D : SupD K C name qual params body scope [] f cc cda fl fd)
    (h : ∀ (kV doc pm : Value) (an : Option Addr) (ct : Value) (us : List Value), us.length = ps.length → bindArgs (PySem.W.fnX name qual params body scope [("__class__", cc)] .none kV doc pm an (.ref cda) ct) ⟨us, []⟩ = pure (ps.zip us)) : Binds K fd ps [] := by
  obtain ⟨oc, od, dV, kV, doc, pm, an, ct, osl, rfl, lk, hD, hK⟩ := D.ex
  rcases hD with ⟨_, rfl⟩ | ⟨e, _⟩
  · exact .all (h kV doc pm an ct)
  · exact absurd rfl e
/-! #### self.f = e -/
/-! #### C(e, ..) -/
section
variable {Bn newId initId : String} {T : List Value} {X : Cx} {e : Expr} {es : List Expr} {ta : TA} {p pos : Pos} {CX : CXT} {x : Str} {C fI : Addr} {k : Nat} {fd : FuncData} {ps : List Str} {ds : List Value} {dvs : List V} {f g : Str}
end
/-! #### an error that was caught and is kept -/
/-! #### what is asked of a kept error -/
end My
namespace PySem.W
open PySem PySem.Spec PySem.Calls PyProof.Rows
section
variable {prog : Program} {w : World} {A : Around} {E : Value → Shared → Prop} {s : Shared} {K : Frag} {x D : Addr} {ox : Obj} {od : Option Obj}
end
end PySem.W
namespace My
open PySem PySem.Spec PyProof.Rows L2 NdefX
end My
/-! ### repr of plain dicts; things of any kind -/
namespace My
open PySem PySem.Spec PyProof.Rows L2 NdefX
def encK : Key → PyData
  | .inl i => .int i
  | .inr x => .str x
/-- a plain value: none, a truth, a whole number, a text -/
inductive Plain : V → PyData → Prop
  | non : Plain .non .none
  | bl (b : Bool) : Plain (.bl b) (.bool b)
  | int (i : Int) : Plain (.int i) (.int i)
  | str (x : Str) : Plain (.str x) (.str x)
inductive Flat : List (Key × V) → List (PyData × PyData) → Prop
  | nil : Flat [] []
  | cons {k : Key} {v : V} {d : PyData} {kvs : List (Key × V)} {D : List (PyData × PyData)} : Plain v d → Flat kvs D → Flat ((k, v) :: kvs) ((encK k, d) :: D)
/-- what repr shows of it -/
inductive Shw (K : PySem.W.Frag) (H : Hp) : V → Str → Prop
  | data {v : V} {d : PyData} : Dp K H v d → d.showable = true → d.hasDict = false → d.depth ≤ 60 → d.shown.length ≤ sizeLine → Shw K H v d.shown
  | dict {a : Addr} {kvs : List (Key × V)} {D : List (PyData × PyData)} : H a = some (.dK kvs) → Flat kvs D → (PyData.dict D).showable = true → (PyData.dict D).depth ≤ 60 → (PyData.dict D).shown.length ≤ sizeLine → Shw K H (.ref a) (PyData.dict D).shown
mutual
theorem Dp.same {K : PySem.W.Frag} {H H' : Hp} (s : Same H H') : ∀ {v : V} {d : PyData}, Dp K H v d → Dp K H' v d
  | _, _, .non => .non
  | _, _, .bl b => .bl b
  | _, _, .int i => .int i
  | _, _, .str x => .str x
  | _, _, .lst h a => .lst (s.seq h) (DpAll.same s a)
  | _, _, .tup h a => .tup (s.sqt h) (DpAll.same s a)
theorem DpAll.same {K : PySem.W.Frag} {H H' : Hp} (s : Same H H') : ∀ {vs : List V} {ds : List PyData}, DpAll K H vs ds → DpAll K H' vs ds
  | _, _, .nil => .nil
  | _, _, .cons h r => .cons (Dp.same s h) (DpAll.same s r)
end
theorem Shw.same {K : PySem.W.Frag} {H H' : Hp} {v : V} {z : Str} (h : Shw K H v z) (s : Same H H') : Shw K H' v z := by
  cases h with
  | data d a b c e => exact .data (Dp.same s d) a b c e
  | dict ha hf a b c => exact .dict (s _ _ ha) hf a b c
/-- its kind: one of the seven built-in ones -/
def Kd (H : Hp) (v : V) (kn : String) : Prop := (v = .non ∧ kn = "NoneType") ∨ (∃ b, v = .bl b ∧ kn = "bool") ∨ (∃ i, v = .int i ∧ kn = "int") ∨ (∃ z, v = .str z ∧ kn = "str") ∨ (∃ a xs, v = .ref a ∧ H a = some (.lst xs) ∧ kn = "list") ∨ (∃ a xs, v = .ref a ∧ H a = some (.tup xs) ∧ kn = "tuple") ∨ (∃ a xs, v = .ref a ∧ H a = some (.dK xs) ∧ kn = "dict")
theorem Kd.same {H H' : Hp} {v : V} {kn : String} (h : Kd H v kn) (s : Same H H') : Kd H' v kn := by
  rcases h with h | h | h | h | ⟨a, xs, e, h, n⟩ | ⟨a, xs, e, h, n⟩ | ⟨a, xs, e, h, n⟩
  · exact .inl h
  · exact .inr (.inl h)
  · exact .inr (.inr (.inl h))
  · exact .inr (.inr (.inr (.inl h)))
  · exact .inr (.inr (.inr (.inr (.inl ⟨a, xs, e, s _ _ h, n⟩))))
  · exact .inr (.inr (.inr (.inr (.inr (.inl ⟨a, xs, e, s _ _ h, n⟩)))))
  · exact .inr (.inr (.inr (.inr (.inr (.inr ⟨a, xs, e, s _ _ h, n⟩)))))
theorem Kd.ty {K : PySem.W.Frag} {H : Hp} {v : V} {kn : String} (h : Kd H v kn) : TyX K H v (.type kn) := by
  rcases h with ⟨rfl, rfl⟩ | ⟨b, rfl, rfl⟩ | ⟨i, rfl, rfl⟩ | ⟨z, rfl, rfl⟩ | ⟨a, xs, rfl, h, rfl⟩ | ⟨a, xs, rfl, h, rfl⟩ | ⟨a, xs, rfl, h, rfl⟩
  · exact .base .non
  · exact .base (.bl b)
  · exact .base (.int i)
  · exact .base (.str z)
  · exact .base (.lst h)
  · exact .base (.tup h)
  · exact .base (.dK h)
theorem Kd.names {H : Hp} {v : V} {kn : String} (h : Kd H v kn) : kn = "NoneType" ∨ kn = "bool" ∨ kn = "int" ∨ kn = "str" ∨ kn = "list" ∨ kn = "tuple" ∨ kn = "dict" := by
  rcases h with ⟨_, h⟩ | ⟨_, _, h⟩ | ⟨_, _, h⟩ | ⟨_, _, h⟩ | ⟨_, _, _, _, h⟩ | ⟨_, _, _, _, h⟩ | ⟨_, _, _, _, h⟩
  · exact .inl h
  · exact .inr (.inl h)
  · exact .inr (.inr (.inl h))
  · exact .inr (.inr (.inr (.inl h)))
  · exact .inr (.inr (.inr (.inr (.inl h))))
  · exact .inr (.inr (.inr (.inr (.inr (.inl h)))))
  · exact .inr (.inr (.inr (.inr (.inr (.inr h)))))
/-! ### o.m(e, ..) in a body from which an error may come -/
section
variable {X : Cx} {CX : CXT} {k : Nat} {f C : Addr} {fd : FuncData} {ps : List Str} {sp : Sp} {dvs : List V} {ds : List Value} {E : L2.St → XK} {x m : Str} {p pos apos : Pos} {e o : Expr} {es : List Expr} {ta : TE} {t : TA}
end
end My
namespace My
open PySem PySem.Spec PyProof.Rows L2
/-! ### comprehensions with two walks -/
/-- what the inner walk is asked -/
def Inn2 (g1 : TG) (tt1 : TT) (te : TE) (vs1 : List Nat) (D : Addr) (NX : Hp → Prop) (σ2 : L2.St) (J1 : It) (H4 : Hp) : Prop :=
  ∃ W1 : Nat → Nat → Hp → Prop, (∃ m, W1 0 m H4) ∧ ∀ j k H, W1 j k H →
      (J1.stop j H ∧ NX H) ∨ (J1.go j H ∧ ∃ Nx1 : Hp → Prop, (∀ H', Nx1 H' → ∃ k', k' < k ∧ W1 (j + 1) k' H') ∧ ∀ x H', J1.yld j H x H' → g1 x (wipe σ2 vs1) H' fun σ3 H5 => wipe σ3 vs1 = wipe σ2 vs1 ∧ tt1 σ3 H5 fun b H6 =>
        if b = true then te σ3 H6 fun y H7 => ∃ acc, H7 D = some (.lst acc) ∧ acc.length < sizeLine ∧ Nx1 (upd H7 D (.lst (acc ++ [y]))) else Nx1 H6)
theorem inn2 {J1 : It} {m : Nat} {G1 : Hp → Prop} {Y1 : Nat → Hp → V → Hp → Prop} (w : Walk J1 m G1 Y1) {g1 : TG} {tt1 : TT} {te : TE} {vs1 : List Nat} {D : Addr} {NX : Hp → Prop} {σ2 : L2.St} {H4 : Hp} (Pv : Nat → Hp → Prop) (h0 : Pv 0 H4) (hG : ∀ j H, j ≤ m → Pv j H → G1 H)
    (hs : ∀ j x H H', j < m → Pv j H → Y1 j H x H' → g1 x (wipe σ2 vs1) H' fun σ3 H5 => wipe σ3 vs1 = wipe σ2 vs1 ∧ tt1 σ3 H5 fun b H6 =>
        if b = true then te σ3 H6 fun y H7 => ∃ acc, H7 D = some (.lst acc) ∧ acc.length < sizeLine ∧ Pv (j + 1) (upd H7 D (.lst (acc ++ [y]))) else Pv (j + 1) H6) (hd : ∀ H, Pv m H → NX H) : Inn2 g1 tt1 te vs1 D NX σ2 J1 H4 := by
  refine ⟨fun j k H => k = m - j ∧ j ≤ m ∧ Pv j H, ⟨m, by simp, Nat.zero_le _, h0⟩, ?_⟩
  rintro i k H ⟨rfl, hi, p⟩
  have q := hG i H hi p
  by_cases hlt : i < m
  · refine .inr ⟨w.goes i H hlt q, Pv (i + 1), fun H' p' => ⟨m - (i + 1), by omega, rfl, hlt, p'⟩, fun x H' y => hs i x H H' hlt p (w.yields i H x H' hlt q y)⟩
  · have e : i = m := by omega
    subst e
    exact .inl ⟨w.stops H q, hd H p⟩
/-- n times m elements; the i m + j -th by what holds of it -/
theorem lc2s {J : It} {n m : Nat} {G : Hp → Prop} {Y : Nat → Hp → V → Hp → Prop} {g g1 : TG} {tt tt1 : TT} {wi1 : TI} {te : TE} {vs vs1 : List Nat} {σ : L2.St} {H1 : Hp} {D : Addr} {Qd : Hp → Prop}
    (w : Walk J n G Y) (hGs : ∀ H H', G H → Same H H' → G H') (R : Nat → Hp → V → Prop) (hR : ∀ k H H' y, R k H y → Nl H H' → R k H' y) (hz : n * m < sizeLine) (hG : G H1) (hD : H1 D = none)
    (hs : ∀ (i : Nat) (x : V) (H H' : Hp) (NX : Hp → Prop), i < n → Same H1 H → Y i H x H' →
      (∀ (J1 : It) (H4 : Hp) (σ2 : L2.St) (G1 : Hp → Prop) (Y1 : Nat → Hp → V → Hp → Prop), Same H H4 → Walk J1 m G1 Y1 → (∀ H5, Same H1 H5 → G1 H5) →
        (∀ (j : Nat) (x : V) (H5 H6 : Hp) (N : VK) (M : Hp → Prop), j < m → Same H1 H5 → Y1 j H5 x H6 → (∀ y H7, Same H5 H7 → R (i * m + j) H7 y → N y H7) →
          g1 x (wipe σ2 vs1) H6 fun σ3 H8 => wipe σ3 vs1 = wipe σ2 vs1 ∧ tt1 σ3 H8 fun b H9 => if b = true then te σ3 H9 N else M H9) → Inn2 g1 tt1 te vs1 D NX σ2 J1 H4) →
      g x (wipe σ vs) H' fun σ2 H2 => wipe σ2 vs = wipe σ vs ∧ tt σ2 H2 fun b H3 => if b = true then wi1 σ2 H3 fun J1 H4 => Inn2 g1 tt1 te vs1 D NX σ2 J1 H4 else NX H3)
    (hd : ∀ H ys, Same H1 H → H D = some (.lst ys) → ys.length = n * m → (∀ k y, ys[k]? = some y → R k H y) → Qd H) :
    ∃ W : Nat → Nat → Hp → Prop, (∃ m, W 0 m (upd H1 D (.lst []))) ∧ ∀ i m H, W i m H →
  (J.stop i H ∧ Qd H) ∨ (J.go i H ∧ ∃ Nx : Hp → Prop, (∀ H', Nx H' → ∃ m', m' < m ∧ W (i + 1) m' H') ∧ ∀ x H', J.yld i H x H' → g x (wipe σ vs) H' fun σ2 H2 => wipe σ2 vs = wipe σ vs ∧ tt σ2 H2 fun b H3 =>
    if b = true then wi1 σ2 H3 fun J1 H4 => Inn2 g1 tt1 te vs1 D Nx σ2 J1 H4
    else Nx H3) := by
  let Pv : Nat → Hp → Prop := fun k H => Same H1 H ∧ ∃ ys, H D = some (.lst ys) ∧ ys.length = k ∧ ∀ j y, ys[j]? = some y → R j H y
  refine ⟨fun i k H => k = n - i ∧ i ≤ n ∧ Pv (i * m) H, ⟨n, by simp, Nat.zero_le _, by rw [Nat.zero_mul]; exact ⟨same1 hD, [], upd_same, rfl, fun j y hy => by simp at hy⟩⟩, ?_⟩
  rintro i k H ⟨rfl, hi, p⟩
  have q := hGs _ _ hG p.1
  by_cases hlt : i < n
  · refine .inr ⟨w.goes i H hlt q, Pv ((i + 1) * m), fun H' p' => ⟨n - (i + 1), by omega, rfl, hlt, p'⟩, fun x H' y => ?_⟩
    refine hs i x H H' _ hlt p.1 (w.yields i H x H' hlt q y) (fun J1 H4 σ2 G1 Y1 s4 w1 hG1 hin => ?_)
    refine inn2 w1 (fun j H => Pv (i * m + j) H) ?_ (fun j H _ p => hG1 _ p.1) (fun j x H5 H6 hj p5 y5 => ?_) (fun H p => ?_)
    · obtain ⟨s1, ys, h1, h2, h3⟩ := p
      exact ⟨s1.trans s4, ys, s4 _ _ h1, by omega, fun j y hy => hR _ _ _ _ (h3 j y hy) (Nl.of s4)⟩
    · obtain ⟨s1, ys, h1, h2, h3⟩ := p5
      have lt : i * m + j < n * m := by
        have : (i + 1) * m ≤ n * m := Nat.mul_le_mul_right _ hlt
        rw [Nat.add_mul, Nat.one_mul] at this
        omega
      refine hin j x H5 H6 (fun y H7 => ∃ acc, H7 D = some (.lst acc) ∧ acc.length < sizeLine ∧ Pv (i * m + (j + 1)) (upd H7 D (.lst (acc ++ [y])))) (Pv (i * m + (j + 1))) hj s1 y5 (fun v H7 s7 r7 => ⟨ys, s7 _ _ h1, by omega, ?_, ys ++ [v], upd_same, by rw [List.length_append, h2]; rfl, ?_⟩)
      · intro c o ec
        rw [upd_ne (ne_of_none ec hD)]
        exact s7 _ _ (s1 _ _ ec)
      · intro j' z hj'
        have n4 : Nl H7 (upd H7 D (.lst (ys ++ [v]))) := Nl.put (s7 _ _ h1)
        by_cases hlt' : j' < ys.length
        · rw [List.getElem?_append_left hlt'] at hj'
          exact hR _ _ _ _ (hR _ _ _ _ (h3 j' z hj') (Nl.of s7)) n4
        · have hj2 : j' = ys.length := by
            have := (List.getElem?_eq_some_iff.mp hj').1
            rw [List.length_append, List.length_singleton] at this
            omega
          subst hj2
          rw [List.getElem?_append_right (Nat.le_refl _), Nat.sub_self] at hj'
          cases hj'
          rw [h2]
          exact hR _ _ _ _ r7 n4
    · have e : (i + 1) * m = i * m + m := by rw [Nat.add_mul, Nat.one_mul]
      show Pv ((i + 1) * m) H
      rw [e]
      exact p
  · have e : i = n := by omega
    subst e
    obtain ⟨s1, ys, h1, h2, h3⟩ := p
    exact .inl ⟨w.stops H q, hd H ys s1 h1 h2 h3⟩

/-! ### pairs of sizes, feet, rules broken -/
/-- the k-th pair of n times m, in order -/
def prs (n m : Nat) : List (Nat × Nat) := (List.range (n * m)).map fun k => (k / m, k % m)
theorem prs_len (n m : Nat) : (prs n m).length = n * m := by unfold prs; simp
theorem prs_at {n m k : Nat} (h : k < n * m) : (prs n m)[k]? = some (k / m, k % m) := by
  unfold prs
  rw [List.getElem?_map, List.getElem?_range h]
  rfl
theorem prs_ij {n m i j : Nat} (hi : i < n) (hj : j < m) : (prs n m)[i * m + j]? = some (i, j) := by
  have lt : i * m + j < n * m := by
    have : (i + 1) * m ≤ n * m := Nat.mul_le_mul_right _ hi
    rw [Nat.add_mul, Nat.one_mul] at this
    omega
  rw [prs_at lt]
  have e1 : (i * m + j) / m = i := by rw [Nat.mul_comm, Nat.mul_add_div (by omega), Nat.div_eq_of_lt hj, Nat.add_zero]
  have e2 : (i * m + j) % m = j := by rw [Nat.mul_comm, Nat.mul_add_mod, Nat.mod_eq_of_lt hj]
  rw [e1, e2]
theorem prs_lt {n m k : Nat} {p : Nat × Nat} (h : (prs n m)[k]? = some p) : p.1 < n ∧ p.2 < m := by
  have hk := (List.getElem?_eq_some_iff.mp h).1
  rw [prs_len] at hk
  rw [prs_at hk] at h
  cases h
  have m0 : 0 < m := by
    rcases Nat.eq_zero_or_pos m with e | e
    · subst e; simp at hk
    · exact e
  exact ⟨Nat.div_lt_of_lt_mul (by rw [Nat.mul_comm]; exact hk), Nat.mod_lt _ m0⟩
def PrV (H : Hp) (v : V) (p : Nat × Nat) : Prop := ∃ T, v = .ref T ∧ H T = some (.tup [.int (p.1 : Int), .int (p.2 : Int)])
theorem PrV.same {H H' : Hp} {v : V} {p : Nat × Nat} (a : PrV H v p) (s : Same H H') : PrV H' v p := by
  obtain ⟨T, e, h⟩ := a
  exact ⟨T, e, s _ _ h⟩
theorem PrV.nl {H H' : Hp} {v : V} {p : Nat × Nat} (a : PrV H v p) (s : Nl H H') : PrV H' v p := by
  obtain ⟨T, e, h⟩ := a
  exact ⟨T, e, s _ _ h rfl⟩
theorem PrV.kp {H H' : Hp} {h : Addr} {n : Nat} {v : V} {p : Nat × Nat} (a : PrV H v p) (hh : HandAt H h n) (s : Kp h H H') : PrV H' v p := by
  obtain ⟨T, e, h⟩ := a
  exact ⟨T, e, s.get hh h rfl⟩
/-- a grid, its ladders, their bits -/
structure GC (K : PySem.W.Frag) (CM CL CG : Addr) (H : Hp) (p : Addr) (j k : Nat) (L1 L2 : Addr) (zs ys : List Q2) (g : Q2) : Prop where
  ag : GrdAt K CM CL CG H p j L1 L2 g
  a1 : LadE K CM CL H L1 k zs
  a2 : LadE K CM CL H L2 k ys
  j0 : 0 < j
  j1 : j ≤ 1000
  k0 : 0 < k
  k1 : k ≤ 1000
  l0 : 0 < zs.length
  l1 : zs.length ≤ 24
  m0 : 0 < ys.length
  m1 : ys.length ≤ 24
section
variable {K : PySem.W.Frag} {CM CL CG p h L1 L2 : Addr} {H H' : Hp} {j k n : Nat} {zs ys : List Q2} {g : Q2}
theorem GC.same (a : GC K CM CL CG H p j k L1 L2 zs ys g) (s : Same H H') : GC K CM CL CG H' p j k L1 L2 zs ys g := by
  obtain ⟨r1, lo1, hi1, a1⟩ := a.a1
  obtain ⟨r2, lo2, hi2, a2⟩ := a.a2
  exact { a with ag := a.ag.same s, a1 := ⟨_, _, _, a1.same s⟩, a2 := ⟨_, _, _, a2.same s⟩ }
theorem GC.kp (a : GC K CM CL CG H p j k L1 L2 zs ys g) (hh : HandAt H h n) (s : Kp h H H') : GC K CM CL CG H' p j k L1 L2 zs ys g := by
  obtain ⟨r1, lo1, hi1, a1⟩ := a.a1
  obtain ⟨r2, lo2, hi2, a2⟩ := a.a2
  exact { a with ag := a.ag.kp hh s, a1 := ⟨_, _, _, a1.kp hh s⟩, a2 := ⟨_, _, _, a2.kp hh s⟩ }
end
/-- a foot: two Measures -/
def FtV (K : PySem.W.Frag) (CM : Addr) (H : Hp) (m : Nat) (v : V) (f : Q2 × Q2) : Prop := ∃ t f1 f2, v = .ref t ∧ SqT K H t [.ref f1, .ref f2] ∧ QAt CM H f1 m f.1 ∧ QAt CM H f2 m f.2
theorem FtV.same {K : PySem.W.Frag} {CM : Addr} {H H' : Hp} {m : Nat} {v : V} {f : Q2 × Q2} (a : FtV K CM H m v f) (s : Same H H') : FtV K CM H' m v f := by
  obtain ⟨t, f1, f2, e, h1, h2, h3⟩ := a
  exact ⟨t, f1, f2, e, s.sqt h1, h2.same s, h3.same s⟩
theorem FtV.nl {K : PySem.W.Frag} {CM : Addr} {H H' : Hp} {m : Nat} {v : V} {f : Q2 × Q2} (a : FtV K CM H m v f) (s : Nl H H') : FtV K CM H' m v f := by
  obtain ⟨t, f1, f2, e, h1, h2, h3⟩ := a
  exact ⟨t, f1, f2, e, sqt_nl h1 s, h2.nl s, h3.nl s⟩
theorem FtV.kp {K : PySem.W.Frag} {CM : Addr} {H H' : Hp} {h : Addr} {n m : Nat} {v : V} {f : Q2 × Q2} (a : FtV K CM H m v f) (hh : HandAt H h n) (s : Kp h H H') : FtV K CM H' m v f := by
  obtain ⟨t, f1, f2, e, h1, h2, h3⟩ := a
  exact ⟨t, f1, f2, e, sqt_kp h1 hh s, h2.kp hh s, h3.kp hh s⟩
/-- several feet -/
structure Fts (K : PySem.W.Frag) (CM : Addr) (H : Hp) (m : Nat) (us : List V) (fs : List (Q2 × Q2)) : Prop where
  len : us.length = fs.length
  all : ∀ (i : Nat) (v : V) (f : Q2 × Q2), us[i]? = some v → fs[i]? = some f → FtV K CM H m v f
section
variable {K : PySem.W.Frag} {CM h : Addr} {H H' : Hp} {m n : Nat} {us : List V} {fs : List (Q2 × Q2)}
theorem Fts.same (a : Fts K CM H m us fs) (s : Same H H') : Fts K CM H' m us fs := ⟨a.len, fun i v f h1 h2 => (a.all i v f h1 h2).same s⟩
theorem Fts.nl (a : Fts K CM H m us fs) (s : Nl H H') : Fts K CM H' m us fs := ⟨a.len, fun i v f h1 h2 => (a.all i v f h1 h2).nl s⟩
theorem Fts.kp (a : Fts K CM H m us fs) (hh : HandAt H h n) (s : Kp h H H') : Fts K CM H' m us fs := ⟨a.len, fun i v f h1 h2 => (a.all i v f h1 h2).kp hh s⟩
theorem Fts.of (a : Fts K CM H m us fs) {i : Nat} {v : V} (h1 : us[i]? = some v) : ∃ f, fs[i]? = some f ∧ FtV K CM H m v f := by
  have hi : i < fs.length := by rw [← a.len]; exact (List.getElem?_eq_some_iff.mp h1).1
  exact ⟨_, List.getElem?_eq_getElem hi, a.all i v _ h1 (List.getElem?_eq_getElem hi)⟩
theorem Fts.at (a : Fts K CM H m us fs) {i : Nat} {f : Q2 × Q2} (h1 : fs[i]? = some f) : ∃ v, us[i]? = some v ∧ FtV K CM H m v f := by
  have hi : i < us.length := by rw [a.len]; exact (List.getElem?_eq_some_iff.mp h1).1
  exact ⟨_, List.getElem?_eq_getElem hi, a.all i _ f (List.getElem?_eq_getElem hi) h1⟩
end
/-- the rules that a pair breaks for a foot -/
def brkP (zs ys : List Q2) (g y : Q2) (p : Nat × Nat) (f : Q2 × Q2) : List Str := match zs[p.1]?, ys[p.2]? with
  | some a, some b => brkW a (grdQ b g p.1) f.1 f.2 y
  | _, _ => []
theorem brkP_at {zs ys : List Q2} {g y a b : Q2} {p : Nat × Nat} {f : Q2 × Q2} (h1 : zs[p.1]? = some a) (h2 : ys[p.2]? = some b) : brkP zs ys g y p f = brkW a (grdQ b g p.1) f.1 f.2 y := by
  unfold brkP
  rw [h1, h2]
/-- the first that is not empty, its number, its first word -/
def fstB : Nat → List (List Str) → Option (Nat × Str)
  | _, [] => none
  | n, [] :: r => fstB (n + 1) r
  | n, (w :: _) :: _ => some (n, w)
theorem fstB_none : ∀ {rs : List (List Str)} {n : Nat}, fstB n rs = none ↔ ∀ r ∈ rs, r = []
  | [], _ => by simp [fstB]
  | [] :: r, n => by rw [fstB, fstB_none]; simp
  | (w :: ws) :: r, n => by simp [fstB]
theorem fstB_some : ∀ {rs : List (List Str)} {n k : Nat} {w : Str}, fstB n rs = some (k, w) → ∃ i r, k = n + i ∧ rs[i]? = some r ∧ r.head? = some w
  | [], _, _, _, h => by simp [fstB] at h
  | [] :: r, n, k, w, h => by
    rw [fstB] at h
    obtain ⟨i, r', e, h1, h2⟩ := fstB_some h
    exact ⟨i + 1, r', by omega, by simpa using h1, h2⟩
  | (x :: xs) :: r, n, k, w, h => by
    rw [fstB] at h
    cases h
    exact ⟨0, x :: xs, rfl, rfl, rfl⟩
theorem fstB_go : ∀ {rs : List (List Str)} {n i : Nat} {r : List Str}, (∀ j < i, rs[j]? = some []) → rs[i]? = some r → r ≠ [] → ∀ w, r.head? = some w → fstB n rs = some (n + i, w)
  | [], _, _, _, _, h, _, _, _ => by simp at h
  | x :: rs, n, 0, r, _, h, hn, w, hw => by
    cases h
    cases x with
    | nil => exact absurd rfl hn
    | cons a b => cases hw; rw [fstB]; rfl
  | x :: rs, n, i + 1, r, hj, h, hn, w, hw => by
    have h0 := hj 0 (by omega)
    cases h0
    rw [fstB, fstB_go (i := i) (fun j hj' => by have := hj (j + 1) (by omega); simpa using this) (by simpa using h) hn w hw]
    congr 2
    omega
/-- what breaks a pair -/
def frstB (zs ys : List Q2) (g y : Q2) (fs : List (Q2 × Q2)) (p : Nat × Nat) : Option (Nat × Str) := fstB 0 (fs.map (brkP zs ys g y p))
def FoV (H : Hp) (v : V) : Option (Nat × Str) → Prop
  | none => v = .non
  | some q => ∃ T, v = .ref T ∧ H T = some (.tup [.int (q.1 : Int), .str q.2])
theorem FoV.same {H H' : Hp} {v : V} (s : Same H H') : ∀ {o : Option (Nat × Str)}, FoV H v o → FoV H' v o
  | none, h => h
  | some _, ⟨T, h1, h2⟩ => ⟨T, h1, s _ _ h2⟩
/-- a paper -/
def PpV (H : Hp) (v : V) (p : Nat × Nat) (q : Nat × Str) : Prop := ∃ T, v = .ref T ∧ H T = some (.tup [.int (p.1 : Int), .int (p.2 : Int), .int (q.1 : Int), .str q.2])
theorem PpV.same {H H' : Hp} {v : V} {p : Nat × Nat} {q : Nat × Str} (a : PpV H v p q) (s : Same H H') : PpV H' v p q := by
  obtain ⟨T, e, h⟩ := a
  exact ⟨T, e, s _ _ h⟩
theorem PpV.nl {H H' : Hp} {v : V} {p : Nat × Nat} {q : Nat × Str} (a : PpV H v p q) (s : Nl H H') : PpV H' v p q := by
  obtain ⟨T, e, h⟩ := a
  exact ⟨T, e, s _ _ h rfl⟩
theorem PpV.kp {H H' : Hp} {h : Addr} {n : Nat} {v : V} {p : Nat × Nat} {q : Nat × Str} (a : PpV H v p q) (hh : HandAt H h n) (s : Kp h H H') : PpV H' v p q := by
  obtain ⟨T, e, h⟩ := a
  exact ⟨T, e, s.get hh h rfl⟩
/-- the papers of pairs each of which is broken -/
structure Pps (H : Hp) (us : List V) (ps : List (Nat × Nat)) (F : Nat × Nat → Option (Nat × Str)) : Prop where
  len : us.length = ps.length
  all : ∀ (i : Nat) (v : V) (p : Nat × Nat), us[i]? = some v → ps[i]? = some p → ∃ q, F p = some q ∧ PpV H v p q
section
variable {H H' : Hp} {h : Addr} {n : Nat} {us : List V} {ps : List (Nat × Nat)} {F : Nat × Nat → Option (Nat × Str)}
theorem Pps.same (a : Pps H us ps F) (s : Same H H') : Pps H' us ps F := ⟨a.len, fun i v p h1 h2 => by
  obtain ⟨q, e, h⟩ := a.all i v p h1 h2
  exact ⟨q, e, h.same s⟩⟩
theorem Pps.nl (a : Pps H us ps F) (s : Nl H H') : Pps H' us ps F := ⟨a.len, fun i v p h1 h2 => by
  obtain ⟨q, e, h⟩ := a.all i v p h1 h2
  exact ⟨q, e, h.nl s⟩⟩
theorem Pps.kp (a : Pps H us ps F) (hh : HandAt H h n) (s : Kp h H H') : Pps H' us ps F := ⟨a.len, fun i v p h1 h2 => by
  obtain ⟨q, e, h⟩ := a.all i v p h1 h2
  exact ⟨q, e, h.kp hh s⟩⟩
end
/-- the first pair that nothing breaks -/
def goodP (ps : List (Nat × Nat)) (F : Nat × Nat → Option (Nat × Str)) : Option (Nat × Nat) := ps.find? fun p => (F p).isNone
/-- what pair_for tells -/
def ToldV (H : Hp) (v : V) (ps : List (Nat × Nat)) (F : Nat × Nat → Option (Nat × Str)) : Option (Nat × Nat) → Prop
  | some p => ∃ T w, v = .ref T ∧ H T = some (.tup [.str "pair", w]) ∧ PrV H w p
  | none => ∃ T q us, v = .ref T ∧ H T = some (.tup [.str "none", .ref q]) ∧ H q = some (.tup us) ∧ Pps H us ps F
theorem ToldV.same {H H' : Hp} {v : V} {ps : List (Nat × Nat)} {F : Nat × Nat → Option (Nat × Str)} (s : Same H H') : ∀ {o : Option (Nat × Nat)}, ToldV H v ps F o → ToldV H' v ps F o
  | some _, ⟨T, w, h1, h2, h3⟩ => ⟨T, w, h1, s _ _ h2, h3.same s⟩
  | none, ⟨T, q, us, h1, h2, h3, h4⟩ => ⟨T, q, us, h1, s _ _ h2, s _ _ h3, h4.same s⟩
theorem ToldV.nl {H H' : Hp} {v : V} {ps : List (Nat × Nat)} {F : Nat × Nat → Option (Nat × Str)} (s : Nl H H') : ∀ {o : Option (Nat × Nat)}, ToldV H v ps F o → ToldV H' v ps F o
  | some _, ⟨T, w, h1, h2, h3⟩ => ⟨T, w, h1, s _ _ h2 rfl, h3.nl s⟩
  | none, ⟨T, q, us, h1, h2, h3, h4⟩ => ⟨T, q, us, h1, s _ _ h2 rfl, s _ _ h3 rfl, h4.nl s⟩
theorem ToldV.kp {H H' : Hp} {h : Addr} {n : Nat} {v : V} {ps : List (Nat × Nat)} {F : Nat × Nat → Option (Nat × Str)} (hh : HandAt H h n) (s : Kp h H H') : ∀ {o : Option (Nat × Nat)}, ToldV H v ps F o → ToldV H' v ps F o
  | some _, ⟨T, w, h1, h2, h3⟩ => ⟨T, w, h1, s.get hh h2 rfl, h3.kp hh s⟩
  | none, ⟨T, q, us, h1, h2, h3, h4⟩ => ⟨T, q, us, h1, s.get hh h2 rfl, s.get hh h3 rfl, h4.kp hh s⟩
theorem good_none {ps : List (Nat × Nat)} {F : Nat × Nat → Option (Nat × Str)} : goodP ps F = none ↔ ∀ p ∈ ps, (F p).isSome = true := by
  unfold goodP
  rw [List.find?_eq_none]
  refine forall_congr' fun p => forall_congr' fun _ => ?_
  cases F p <;> simp
def sp_pairs (K : PySem.W.Frag) (CM CL CG : Addr) : Sp := fun vs H Q _ => ∃ (p L1 L2 : Addr) (j k : Nat) (zs ys : List Q2) (g : Q2), vs = [.ref p] ∧ GC K CM CL CG H p j k L1 L2 zs ys g ∧
  ∀ (D : Addr) (us : List V) (H' : Hp), Same H H' → H' D = some (.lst us) → us.length = zs.length * ys.length → (∀ (i : Nat) (v : V), us[i]? = some v → PrV H' v (i / ys.length, i % ys.length)) → Q (.ref D) H'
def sp_firstb (K : PySem.W.Frag) (CM CL CG : Addr) : Sp := fun vs H Q _ => ∃ (p t F s L1 L2 : Addr) (i w j k m : Nat) (zs ys : List Q2) (g y : Q2) (us : List V) (fs : List (Q2 × Q2)), vs = [.ref p, .ref t, .ref F, .ref s] ∧ GC K CM CL CG H p j k L1 L2 zs ys g ∧ SqT K H t [.int (i : Int), .int (w : Int)] ∧ i < zs.length ∧ w < ys.length ∧ SqT K H F us ∧ Fts K CM H m us fs ∧ QAt CM H s m y ∧ 0 < m ∧ m ≤ 1000 ∧ fs.length ≤ 50 ∧
  ∀ (v : V) (H' : Hp), Same H H' → FoV H' v (frstB zs ys g y fs (i, w)) → Q v H'
def sp_pairfor (K : PySem.W.Frag) (CM CL CG : Addr) : Sp := fun vs H Q _ => ∃ (p F s L1 L2 : Addr) (j k m : Nat) (zs ys : List Q2) (g y : Q2) (us : List V) (fs : List (Q2 × Q2)), vs = [.ref p, .ref F, .ref s] ∧ GC K CM CL CG H p j k L1 L2 zs ys g ∧ SqT K H F us ∧ Fts K CM H m us fs ∧ QAt CM H s m y ∧ 0 < m ∧ m ≤ 1000 ∧ fs.length ≤ 50 ∧
  ∀ (v : V) (H' : Hp), Same H H' → ToldV H' v (prs zs.length ys.length) (frstB zs ys g y fs) (goodP (prs zs.length ys.length) (frstB zs ys g y fs)) → Q v H'
end My
/-! ### zip of two walks, each over a list (false) or a tuple (true) -/
namespace My
open PySem PySem.Spec PyProof.Rows L2
def KI (b : Bool) (h : Heap) (it l : Addr) (i : Nat) : Prop := if b = true then h.IsTupleIter it l i else h.IsListIter it l i
def KS (b : Bool) (h : Heap) (l : Addr) (items : Array Value) : Prop := if b = true then h.IsTuple l items else h.IsList l items
section
variable {b : Bool} {h h' : Heap} {it l c : Addr} {i : Nat} {items : Array Value}
theorem KI.ext (a : KI b h it l i) (k : Heap.ExtBut c h h') (n : it ≠ c) : KI b h' it l i := by
  cases b with
  | false => exact Heap.IsListIter.extBut (show h.IsListIter it l i from a) k n
  | true => exact Heap.IsTupleIter.extBut (show h.IsTupleIter it l i from a) k n
theorem KI.move (a : KI b h it l i) (k : ∀ o, h.get? it = some o → h'.get? it = some o) : KI b h' it l i := by
  cases b with
  | false => exact Heap.IsListIter.at (show h.IsListIter it l i from a) k
  | true => exact Heap.IsTupleIter.at (show h.IsTupleIter it l i from a) k
theorem KI.obj (a : KI b h it l i) : ∃ o, h.get? it = some o ∧ ∀ v, o.data ≠ .cell v := by
  cases b with
  | false =>
    obtain ⟨o, e, _, d⟩ := (show h.IsListIter it l i from a)
    exact ⟨o, e, fun v q => by rw [d] at q; cases q⟩
  | true =>
    obtain ⟨o, e, _, d⟩ := (show h.IsTupleIter it l i from a)
    exact ⟨o, e, fun v q => by rw [d] at q; cases q⟩
theorem KS.ext (a : KS b h l items) (k : Heap.ExtBut c h h') (n : l ≠ c) : KS b h' l items := by
  cases b with
  | false => exact Heap.IsList.extBut (show h.IsList l items from a) k n
  | true => exact Heap.IsTuple.extBut (show h.IsTuple l items from a) k n
theorem KS.lt (a : KS b h l items) : l < h.objs.size := by
  cases b with
  | false =>
    obtain ⟨o, e, _⟩ := (show h.IsList l items from a)
    exact Heap.lt_size e
  | true =>
    obtain ⟨o, e, _⟩ := (show h.IsTuple l items from a)
    exact Heap.lt_size e
end
section
variable {prog : Program} {w : World} {A : Around} {E : Value → Shared → Prop} {s : Shared} {b : Bool} {it l : Addr} {i : Nat} {items : Array Value}
theorem ki_item {x : Value} {Q : Value → Shared → Prop} (a : KI b s.heap it l i) (q : KS b s.heap l items) (hx : items[i]? = some x)
    (f : ∀ h', KI b h' it l (i + 1) → Heap.SameBut it s.heap h' → Q x { s with heap := h' }) : wpAny (model prog w) A (Builtin.SmallTypes.nextOf (.ref it)) Q E s := by
  cases b with
  | false => exact wpAny_nextOf_list_item (show s.heap.IsListIter it l i from a) (show s.heap.IsList l items from q) hx f
  | true => exact RZ.nextOf_tuple_item (show s.heap.IsTupleIter it l i from a) (show s.heap.IsTuple l items from q) hx f
theorem ki_end {Q : Value → Shared → Prop} (hh : A.handled = none) (a : KI b s.heap it l i) (q : KS b s.heap l items) (hx : items[i]? = none)
    (f : ∀ h' e, Heap.ExtBut it s.heap h' → (∃ o, h'.get? e = some o ∧ o.cls = .type "StopIteration") → E (.ref e) { s with heap := h' }) : wpAny (model prog w) A (Builtin.SmallTypes.nextOf (.ref it)) Q E s := by
  cases b with
  | false => exact wpAny_nextOf_list_end hh (show s.heap.IsListIter it l i from a) (show s.heap.IsList l items from q) hx f
  | true => exact RZ.nextOf_tuple_end hh (show s.heap.IsTupleIter it l i from a) (show s.heap.IsTuple l items from q) hx f
end

/-- all but four places keep their objects -/
def Kept4 (z TO i1 i2 : Addr) (h h' : Heap) : Prop := ∀ c o, c ≠ z → c ≠ TO → c ≠ i1 → c ≠ i2 → h.get? c = some o → h'.get? c = some o
/-- a zip in the midst: what stands -/
structure ZAt (b1 b2 : Bool) (h : Heap) (z TI TO i1 i2 l1 l2 : Addr) (k1 k2 : Nat) (f0 a b : Value) : Prop where
  hz : IsZip h z TI TO f0
  ti : IsPair h TI (.ref i1) (.ref i2)
  to : IsPair h TO a b
  i1 : KI b1 h i1 l1 k1
  i2 : KI b2 h i2 l2 k2
section
variable {prog : Program} {w : World} {A : Around} {E : Value → Shared → Prop} {s : Shared} {b1 b2 : Bool} {z TI TO i1 i2 l1 l2 : Addr} {k1 k2 : Nat} {xs ys : Array Value} {x y a b : Value}
theorem zn_item {Q : Value → Shared → Prop} (D : ZipApart z TI TO i1 i2 l1 l2) (Z : ZAt b1 b2 s.heap z TI TO i1 i2 l1 l2 k1 k2 .none a b) (s1 : KS b1 s.heap l1 xs) (s2 : KS b2 s.heap l2 ys) (hx : xs[k1]? = some x) (hy : ys[k2]? = some y)
    (f : ∀ h', ZAt b1 b2 h' z TI TO i1 i2 l1 l2 (k1 + 1) (k2 + 1) (rawInt s.heap.objs.size) x y → IsPair h' s.heap.objs.size x y → h'.objs.size = s.heap.objs.size + 1 → Kept4 z TO i1 i2 s.heap h' → Q (.ref s.heap.objs.size) { s with heap := h' }) :
    wpAny (model prog w) A (Builtin.«zip.__next__» ⟨[.ref z], []⟩) (fun fin s' => ∃ v, fin = .done (.ret v) ∧ Q v s') E s := by
  obtain ⟨z0, t0, o0, a0, c0⟩ := Z
  show wpAny _ _ (field (.ref z) 2 >>= _) _ _ _
  apply wpAny_bind
  apply wpAny_field z0 rfl (x := .bool false) rfl
  show wpAny _ _ (field (.ref z) 3 >>= _) _ _ _
  apply wpAny_bind
  apply wpAny_field z0 rfl (x := .ref TI) rfl
  apply wpAny_bind
  apply wpAny_seqItems t0 rfl
  show wpAny _ _ (Builtin.SmallTypes.ownedTupleIsFree (.ref z) >>= _) _ _ _
  apply wpAny_bind
  unfold Builtin.SmallTypes.ownedTupleIsFree
  apply wpAny_bind
  apply wpAny_field z0 rfl (x := .none) rfl
  apply wpAny_pure
  simp only [if_true]
  apply wpAny_bind
  apply wpAny_rule
  apply wpAny_bind
  apply wpAny_field z0 rfl (x := .ref TO) rfl
  apply wpAny_bind
  refine wpAny_setField_rec z0 (by simp) fun g1 z1 e1 => ?_
  replace z1 : IsZip g1 z TI TO .ellipsis := z1
  have x1 := e1.extBut
  apply wpAny_bind
  simp only [List.zipIdx_cons, List.zipIdx_nil, List.forIn_cons, List.forIn_nil]
  apply wpAny_bind
  apply wpAny_bind
  apply wpAny_onRaise
  show wpAny _ _ (Builtin.SmallTypes.nextOf (.ref i1) >>= _) _ _ _
  apply wpAny_bind
  refine ki_item (a0.ext x1 D.i1z) (s1.ext x1 D.l1z) hx fun g2 a2 e2 => wpAny_pure ?_
  have x2 := e2.extBut
  have o2 : IsPair g2 TO a b := x2 _ _ D.TOi1 (x1 _ _ D.TOz o0)
  apply wpAny_bind
  apply wpAny_seqItems o2 rfl
  apply wpAny_bind
  refine wpAny_updateSeq_pair o2 fun g3 o3 e3 => ?_
  replace o3 : IsPair g3 TO x b := o3
  have x3 := e3.extBut
  apply wpAny_bind
  apply wpAny_letGo
  apply wpAny_pure
  apply wpAny_bind
  apply wpAny_bind
  apply wpAny_onRaise
  show wpAny _ _ (Builtin.SmallTypes.nextOf (.ref i2) >>= _) _ _ _
  apply wpAny_bind
  refine ki_item (((c0.ext x1 D.i2z).ext x2 D.i12.symm).ext x3 D.TOi2.symm) (((s2.ext x1 D.l2z).ext x2 D.l2i1).ext x3 D.l2TO) hy fun g4 c4 e4 => wpAny_pure ?_
  have x4 := e4.extBut
  have o4 : IsPair g4 TO x b := x4 _ _ D.TOi2 o3
  apply wpAny_bind
  apply wpAny_seqItems o4 rfl
  apply wpAny_bind
  refine wpAny_updateSeq_pair o4 fun g5 o5 e5 => ?_
  replace o5 : IsPair g5 TO x y := o5
  have x5 := e5.extBut
  apply wpAny_bind
  apply wpAny_letGo
  apply wpAny_pure
  apply wpAny_pure
  apply wpAny_bind
  apply wpAny_seqItems o5 rfl
  apply wpAny_bind
  refine wpAny_newTuple ?_
  have sz5 : g5.objs.size = s.heap.objs.size := by rw [e5.1, e4.1, e3.1, e2.1, e1.1]
  have z5 : IsZip g5 z TI TO .ellipsis := x5 _ _ D.TOz.symm (x4 _ _ D.i2z.symm (x3 _ _ D.TOz.symm (x2 _ _ D.i1z.symm z1)))
  have kp5 : Kept4 z TO i1 i2 s.heap g5 := fun c o n1 n2 n3 n4 q => x5 _ _ n2 (x4 _ _ n4 (x3 _ _ n2 (x2 _ _ n3 (x1 _ _ n1 q))))
  have a5 := ((a2.ext x3 D.TOi1.symm).ext x4 D.i12).ext x5 D.TOi1.symm
  have c5 := c4.ext x5 D.TOi2.symm
  have zl : z < g5.objs.size := Heap.lt_size z5
  show wpAny _ _ (Builtin.SmallTypes.ownedTupleHandOut (.ref z) (.ref g5.objs.size) >>= _) _ _ _
  apply wpAny_bind
  unfold Builtin.SmallTypes.ownedTupleHandOut
  have z6 : IsZip (g5.push { cls := .type "tuple", data := .seq #[x, y] }) z TI TO .ellipsis := Heap.get?_push_of_some _ z5
  apply wpAny_bind
  refine wpAny_setField_rec z6 (by simp) fun g7 z7 e7 => ?_
  replace z7 : IsZip g7 z TI TO (rawInt g5.objs.size) := z7
  refine wpAny_setField_rec z7 (by simp) fun g8 z8 e8 => ?_
  replace z8 : IsZip g8 z TI TO (rawInt g5.objs.size) := z8
  have up : ∀ c o, c ≠ z → g5.get? c = some o → g8.get? c = some o := fun c o n q => e8.extBut _ _ n (e7.extBut _ _ n (Heap.get?_push_of_some _ q))
  have new : IsPair g8 g5.objs.size x y := e8.extBut _ _ (Nat.ne_of_gt zl) (e7.extBut _ _ (Nat.ne_of_gt zl) (Heap.get?_push_size _ rfl))
  have sz8 : g8.objs.size = g5.objs.size + 1 := by rw [e8.1, e7.1, Heap.size_push]
  rw [sz5] at z8 new sz8
  refine wpAny_pure ⟨_, rfl, ?_⟩
  show Q (.ref g5.objs.size) _
  rw [sz5]
  refine f g8 ⟨z8, up _ _ D.TIz (kp5 _ _ D.TIz D.TITO D.TIi1 D.TIi2 t0), up _ _ D.TOz o5, a5.move fun o q => up _ o D.i1z q, c5.move fun o q => up _ o D.i2z q⟩ new sz8 fun c o n1 n2 n3 n4 q => up c o n1 (kp5 c o n1 n2 n3 n4 q)
theorem zn_end {Q : Fin → Shared → Prop} (hh : A.handled = none) (D : ZipApart z TI TO i1 i2 l1 l2) (Z : ZAt b1 b2 s.heap z TI TO i1 i2 l1 l2 k1 k2 .none a b) (s1 : KS b1 s.heap l1 xs) (s2 : KS b2 s.heap l2 ys) (he : xs[k1]? = none ∨ ys[k2]? = none)
    (f : ∀ h' e, Kept4 z TO i1 i2 s.heap h' → (∃ o, h'.get? e = some o ∧ o.cls = .type "StopIteration") → E (.ref e) { s with heap := h' }) :
    wpAny (model prog w) A (Builtin.«zip.__next__» ⟨[.ref z], []⟩) Q E s := by
  obtain ⟨z0, t0, o0, a0, c0⟩ := Z
  show wpAny _ _ (field (.ref z) 2 >>= _) _ _ _
  apply wpAny_bind
  apply wpAny_field z0 rfl (x := .bool false) rfl
  show wpAny _ _ (field (.ref z) 3 >>= _) _ _ _
  apply wpAny_bind
  apply wpAny_field z0 rfl (x := .ref TI) rfl
  apply wpAny_bind
  apply wpAny_seqItems t0 rfl
  show wpAny _ _ (Builtin.SmallTypes.ownedTupleIsFree (.ref z) >>= _) _ _ _
  apply wpAny_bind
  unfold Builtin.SmallTypes.ownedTupleIsFree
  apply wpAny_bind
  apply wpAny_field z0 rfl (x := .none) rfl
  apply wpAny_pure
  simp only [if_true]
  apply wpAny_bind
  apply wpAny_rule
  apply wpAny_bind
  apply wpAny_field z0 rfl (x := .ref TO) rfl
  apply wpAny_bind
  refine wpAny_setField_rec z0 (by simp) fun g1 z1 e1 => ?_
  replace z1 : IsZip g1 z TI TO .ellipsis := z1
  have x1 := e1.extBut
  apply wpAny_bind
  simp only [List.zipIdx_cons, List.zipIdx_nil, List.forIn_cons, List.forIn_nil]
  apply wpAny_bind
  apply wpAny_bind
  apply wpAny_onRaise
  show wpAny _ _ (Builtin.SmallTypes.nextOf (.ref i1) >>= _) _ _ _
  cases hx : xs[k1]? with
  | none =>
    apply wpAny_bind
    refine ki_end hh (a0.ext x1 D.i1z) (s1.ext x1 D.l1z) hx fun g2 e e2 he2 => ?_
    obtain ⟨oe, h1, h2⟩ := he2
    have z2 : IsZip g2 z TI TO .ellipsis := e2 _ _ D.i1z.symm z1
    have ne : e ≠ z := fun q => by subst q; rw [z2] at h1; cases h1; simp at h2
    refine wpAny_setField_rec z2 (by simp) fun g3 _ e3 => f g3 e (fun c o n1 _ n3 _ q => e3.extBut _ _ n1 (e2 _ _ n3 (x1 _ _ n1 q))) ⟨oe, e3.extBut _ _ ne h1, h2⟩
  | some x =>
    have hy : ys[k2]? = none := by
      rcases he with q | q
      · rw [hx] at q; cases q
      · exact q
    apply wpAny_bind
    refine ki_item (a0.ext x1 D.i1z) (s1.ext x1 D.l1z) hx fun g2 a2 e2 => wpAny_pure ?_
    have x2 := e2.extBut
    have o2 : IsPair g2 TO a b := x2 _ _ D.TOi1 (x1 _ _ D.TOz o0)
    apply wpAny_bind
    apply wpAny_seqItems o2 rfl
    apply wpAny_bind
    refine wpAny_updateSeq_pair o2 fun g3 o3 e3 => ?_
    have x3 := e3.extBut
    apply wpAny_bind
    apply wpAny_letGo
    apply wpAny_pure
    apply wpAny_bind
    apply wpAny_bind
    apply wpAny_onRaise
    show wpAny _ _ (Builtin.SmallTypes.nextOf (.ref i2) >>= _) _ _ _
    apply wpAny_bind
    refine ki_end hh (((c0.ext x1 D.i2z).ext x2 D.i12.symm).ext x3 D.TOi2.symm) (((s2.ext x1 D.l2z).ext x2 D.l2i1).ext x3 D.l2TO) hy fun g4 e e4 he4 => ?_
    obtain ⟨oe, h1, h2⟩ := he4
    have z4 : IsZip g4 z TI TO .ellipsis := e4 _ _ D.i2z.symm (x3 _ _ D.TOz.symm (x2 _ _ D.i1z.symm z1))
    have ne : e ≠ z := fun q => by subst q; rw [z4] at h1; cases h1; simp at h2
    refine wpAny_setField_rec z4 (by simp) fun g5 _ e5 => f g5 e (fun c o n1 n2 n3 n4 q => e5.extBut _ _ n1 (e4 _ _ n4 (x3 _ _ n2 (x2 _ _ n3 (x1 _ _ n1 q))))) ⟨oe, e5.extBut _ _ ne h1, h2⟩
theorem zp_item {Q : Option Value → Shared → Prop} (D : ZipApart z TI TO i1 i2 l1 l2) (Z : ZAt b1 b2 s.heap z TI TO i1 i2 l1 l2 k1 k2 .none a b) (s1 : KS b1 s.heap l1 xs) (s2 : KS b2 s.heap l2 ys) (hx : xs[k1]? = some x) (hy : ys[k2]? = some y)
    (f : ∀ h', ZAt b1 b2 h' z TI TO i1 i2 l1 l2 (k1 + 1) (k2 + 1) (rawInt s.heap.objs.size) x y → IsPair h' s.heap.objs.size x y → h'.objs.size = s.heap.objs.size + 1 → Kept4 z TO i1 i2 s.heap h' → Q (some (.ref s.heap.objs.size)) { s with heap := h' }) :
    wpAny (model prog w) A (pyNext (.ref z)) Q E s := by
  have hT : s.TypeIs (.ref z) "zip" := ⟨_, Z.hz, rfl⟩
  unfold pyNext
  apply wpAny_bind
  apply wpAny_attempt
  apply wpAny_callSpecial?_slot (name := Str.ofString "__next__") hT F.slot_zip_next
  apply wpAny_call_entry F.slot_zip_next hT F.entry_zip_next ?_ (F.args_zip_next_1 _)
  refine zn_item D Z s1 s2 hx hy fun h' p1 p2 p3 p4 => wpAny_pure (f h' p1 p2 p3 p4)
theorem zp_end {Q : Option Value → Shared → Prop} (hh : A.handled = none) (D : ZipApart z TI TO i1 i2 l1 l2) (Z : ZAt b1 b2 s.heap z TI TO i1 i2 l1 l2 k1 k2 .none a b) (s1 : KS b1 s.heap l1 xs) (s2 : KS b2 s.heap l2 ys) (he : xs[k1]? = none ∨ ys[k2]? = none)
    (f : ∀ h', Kept4 z TO i1 i2 s.heap h' → Q none { s with heap := h' }) : wpAny (model prog w) A (pyNext (.ref z)) Q E s := by
  have hT : s.TypeIs (.ref z) "zip" := ⟨_, Z.hz, rfl⟩
  unfold pyNext
  apply wpAny_bind
  apply wpAny_attempt
  apply wpAny_callSpecial?_slot (name := Str.ofString "__next__") hT F.slot_zip_next
  apply wpAny_call_entry F.slot_zip_next hT F.entry_zip_next ?_ (F.args_zip_next_1 _)
  refine zn_end hh D Z s1 s2 he fun h' e k q => ?_
  obtain ⟨o, h1, h2⟩ := q
  apply wpAny_bind
  exact wpAny_isInstance (T := "StopIteration") (b := true) ⟨o, h1, h2⟩ isSubtype_stop (wpAny_pure (f _ k))
end

/-- a list and a tuple as they stand at each turn -/
def ItzM (K : PySem.W.Frag) (a b : Addr) : It :=
  ⟨fun i H => ∃ (xs ys : List V) (x y : V), SqL K H a xs ∧ SqT K H b ys ∧ xs[i]? = some x ∧ ys[i]? = some y,
    fun i H v H' => ∃ T x y, v = .ref T ∧ H T = none ∧ H' = upd H T (.tup [x, y]) ∧ (∀ xs, SqL K H a xs → xs[i]? = some x) ∧ ∀ ys, SqT K H b ys → ys[i]? = some y,
    fun i H => ∃ xs ys : List V, SqL K H a xs ∧ SqT K H b ys ∧ (xs.length ≤ i ∨ ys.length ≤ i)⟩
theorem turn_zipM {P : Program} {w : World} {K : PySem.W.Frag} {elts : List Expr} {kk : Nat} {tpos : Pos} {a b z TI TO i1 i2 : Addr} (D : ZipApart z TI TO i1 i2 a b) :
    Turn P w K (.Tuple elts kk tpos) (ItzM K a b) [z, TI, TO, i1, i2] z (fun i h => ∃ x y, ZAt false true h z TI TO i1 i2 a b i i .none x y) where
  mem := by simp
  obj := fun i h st c hc => by
    obtain ⟨x, y, Z⟩ := st
    have e' : c = z ∨ c = TI ∨ c = TO ∨ c = i1 ∨ c = i2 := by simpa using hc
    rcases e' with rfl | rfl | rfl | rfl | rfl
    · exact ⟨_, Z.hz, fun v q => nomatch q⟩
    · exact ⟨_, Z.ti, fun v q => nomatch q⟩
    · exact ⟨_, Z.to, fun v q => nomatch q⟩
    · exact Z.i1.obj
    · exact Z.i2.obj
  keep := fun i h h' st k => by
    obtain ⟨x, y, Z⟩ := st
    exact ⟨x, y, k z (by simp) _ Z.hz, k TI (by simp) _ Z.ti, k TO (by simp) _ Z.to, Z.i1.move fun o q => k i1 (by simp) o q, Z.i2.move fun o q => k i2 (by simp) o q⟩
  item := by
    intro X hP hw hK hc i pins s σ H E I hf st hg
    subst hP hw hK
    obtain ⟨x0, y0, Z⟩ := st
    obtain ⟨xs, ys, x, y, qx, qy, hx, hy⟩ := hg
    obtain ⟨its, rv, p, _⟩ := I.list qx
    obtain ⟨its2, rv2, p2, _⟩ := I.tuple qy
    obtain ⟨u, hu, ru⟩ := rv.get hx
    obtain ⟨u2, hu2, ru2⟩ := rv2.get hy
    have zl : z < s.heap.objs.size := Heap.lt_size Z.hz
    refine zp_item D Z (show s.heap.IsList a _ from p.isList) (show s.heap.IsTuple b _ from p2) (x := u) (y := u2) (by simpa using hu) (by simpa using hu2) fun h1 Z1 new sz kp => ?_
    refine ⟨_, rfl, wpAny_letOwnedTupleGo_zip (s := { s with heap := h1 }) Z1.hz fun h2 z2 sb => ?_⟩
    have new2 : h2.get? s.heap.objs.size = some { cls := .type "tuple", data := .seq #[u, u2] } := (sb.2 _ (Nat.ne_of_gt zl)).trans new
    have ok : ObjOk X.prog X.w (upd H s.heap.objs.size (.tup [x, y])) h2 s.heap.objs.size (.tup [x, y]) :=
      ⟨by show 2 ≤ sizeLine; decide, [u, u2], .cons ru (.cons ru2 .nil), ⟨_, new2, rfl, _, rfl⟩⟩
    have I1 : Inv X pins σ (upd H s.heap.objs.size (.tup [x, y])) { s with heap := h2 } := by
      refine I.turnedNew (t' := s.toks) (ch := [z, TI, TO, i1, i2]) (fun c o hb q => ?_) hf (Nat.le_refl _) ok
      simp only [List.mem_cons, List.not_mem_nil, or_false, not_or] at hb
      exact (sb.2 c hb.1).trans (kp c o hb.1 hb.2.2.1 hb.2.2.2.1 hb.2.2.2.2 q)
    refine ⟨.ref s.heap.objs.size, _, I1, rfl, ⟨_, x, y, rfl, I.hok.fresh (Nat.le_refl _), rfl, fun l hl => by rw [I.list_inj hl qx]; exact hx, fun l hl => by rw [I.tuple_inj hl qy]; exact hy⟩, ⟨u, u2, z2, ?_, ?_, ?_, ?_⟩, fun c hcm => ?_⟩
    · exact (sb.2 _ D.TIz).trans Z1.ti
    · exact (sb.2 _ D.TOz).trans Z1.to
    · exact Z1.i1.move fun o q => (sb.2 _ D.i1z).trans q
    · exact Z1.i2.move fun o q => (sb.2 _ D.i2z).trans q
    · have lt : c < s.heap.objs.size := by
        have e' : c = z ∨ c = TI ∨ c = TO ∨ c = i1 ∨ c = i2 := by simpa using hcm
        rcases e' with rfl | rfl | rfl | rfl | rfl
        · exact zl
        · exact Heap.lt_size Z.ti
        · exact Heap.lt_size Z.to
        · obtain ⟨_, e1, _⟩ := Z.i1.obj; exact Heap.lt_size e1
        · obtain ⟨_, e1, _⟩ := Z.i2.obj; exact Heap.lt_size e1
      rw [upd_ne (Nat.ne_of_lt lt)]
      exact (hf c hcm).1
  done := by
    intro X hP hw hK hc i pins s σ H E I hf st hg
    subst hP hw hK
    obtain ⟨x0, y0, Z⟩ := st
    obtain ⟨xs, ys, qx, qy, he⟩ := hg
    obtain ⟨its, rv, p, _⟩ := I.list qx
    obtain ⟨its2, rv2, p2, _⟩ := I.tuple qy
    have l1 := rv.length
    have l2 := rv2.length
    have he2 : its.toArray[i]? = none ∨ its2.toArray[i]? = none := by
      rcases he with q | q
      · exact .inl (by simp; omega)
      · exact .inr (by simp; omega)
    refine zp_end (I.ok.hd hc) D Z (show s.heap.IsList a _ from p.isList) (show s.heap.IsTuple b _ from p2) he2 fun h1 kp => ⟨rfl, I.turnedL (t' := s.toks) (ch := [z, TI, TO, i1, i2]) (fun c o hb q => ?_) hf⟩
    simp only [List.mem_cons, List.not_mem_nil, or_false, not_or] at hb
    exact kp c o hb.1 hb.2.2.1 hb.2.2.2.1 hb.2.2.2.2 q
  self := fun A i s Q E st h => by
    obtain ⟨x, y, Z⟩ := st
    exact wpAny_pyIter_zip Z.hz h
/-- the heaps of zip(list, tuple) being made -/
abbrev zm1 (h : Heap) (l1 : Addr) : Heap := h.push { cls := .type "list_iterator", data := .fields #[.ref l1, .int 0 0] }
abbrev zm2 (h : Heap) (l1 l2 : Addr) : Heap := Heap.push (zm1 h l1) { cls := .type "tuple_iterator", data := .fields #[.ref l2, .int 0 0] }
abbrev zm3 (h : Heap) (l1 l2 : Addr) : Heap := Heap.push (zm2 h l1 l2) { cls := .type "tuple", data := .seq #[.ref h.objs.size, .ref (zm1 h l1).objs.size] }
abbrev zm4 (h : Heap) (l1 l2 : Addr) : Heap := Heap.push (zm3 h l1 l2) { cls := .type "tuple", data := .seq #[.none, .none] }
abbrev zm5 (h : Heap) (l1 l2 : Addr) : Heap := Heap.push (zm4 h l1 l2) { cls := .type "zip", data := .fields #[.none, .bool false, .bool false, .ref (zm2 h l1 l2).objs.size, .ref (zm3 h l1 l2).objs.size] }
theorem meets_zipM (l1 l2 : Addr) (xs ys : Array Value) :
    Meets (Builtin.«zip.__new__» ⟨[.type "zip", .ref l1, .ref l2], []⟩) (fun _ R s => s.heap.IsList l1 xs ∧ s.heap.IsTuple l2 ys ∧ R (.ok (.ret (.ref (zm4 s.heap l1 l2).objs.size))) { s with heap := zm5 s.heap l1 l2 }) := by
  refine .of_wp fun prog w A R s h => ?_
  obtain ⟨hp, g, d, tk, os⟩ := s
  obtain ⟨p1, p2, h⟩ := h
  have sz := sub_zip
  have q1 : Heap.IsList (Shared.heap ⟨hp, g, d, tk, os⟩) l1 xs := p1
  have q2 : Heap.IsTuple (Shared.heap ⟨zm1 hp l1, g, d, tk, os⟩) l2 ys := Heap.IsTuple.push p2 _
  wp_walk using wpAny_pyIter_list q1, wpAny_pyIter_tuple q2
  exact ⟨_, rfl, h⟩
theorem call_zipM {prog : Program} {w : World} {A : Around} {E : Value → Shared → Prop} {s : Shared} {l1 l2 : Addr} {xs ys : Array Value} {Q : Value → Shared → Prop} (p1 : s.heap.IsList l1 xs) (p2 : s.heap.IsTuple l2 ys)
    (f : ∀ h', ZAt false true h' (s.heap.objs.size + 4) (s.heap.objs.size + 2) (s.heap.objs.size + 3) s.heap.objs.size (s.heap.objs.size + 1) l1 l2 0 0 .none .none .none → (∀ c o, s.heap.get? c = some o → h'.get? c = some o) → Q (.ref (s.heap.objs.size + 4)) { s with heap := h' }) :
    wpAny (model prog w) A (call (.type "zip") [.ref l1, .ref l2]) Q E s := by
  refine callType_new F.called_zip (by decide) (F.typeCall_zip_2 _ _) (F.newCall_zip_2 _ _) (fun obj => F.args_object_init_3 obj _ _) F.entry_zip_new (meets_zipM l1 l2 xs ys) ⟨p1, p2, ?_⟩
  obtain ⟨hp, g, d, tk, os⟩ := s
  have n1 : (zm1 hp l1).objs.size = hp.objs.size + 1 := by simp [zm1, Heap.size_push]
  have n2 : (zm2 hp l1 l2).objs.size = hp.objs.size + 2 := by rw [Heap.size_push, n1]
  have n3 : (zm3 hp l1 l2).objs.size = hp.objs.size + 3 := by rw [Heap.size_push, n2]
  have n4 : (zm4 hp l1 l2).objs.size = hp.objs.size + 4 := by rw [Heap.size_push, n3]
  have keep : ∀ {h : Heap} {o o' : Obj} {c : Addr}, h.get? c = some o' → (h.push o).get? c = some o' := fun e => Heap.get?_push_of_some _ e
  have o5 : (zm5 hp l1 l2).get? (zm4 hp l1 l2).objs.size = some { cls := .type "zip", data := .fields #[.none, .bool false, .bool false, .ref (zm2 hp l1 l2).objs.size, .ref (zm3 hp l1 l2).objs.size] } := Heap.get?_push_size _ rfl
  have o4 : (zm5 hp l1 l2).get? (zm3 hp l1 l2).objs.size = some { cls := .type "tuple", data := .seq #[.none, .none] } := keep (Heap.get?_push_size _ rfl)
  have o3 : (zm5 hp l1 l2).get? (zm2 hp l1 l2).objs.size = some { cls := .type "tuple", data := .seq #[.ref hp.objs.size, .ref (zm1 hp l1).objs.size] } := keep (keep (Heap.get?_push_size _ rfl))
  have o2 : (zm5 hp l1 l2).get? (zm1 hp l1).objs.size = some { cls := .type "tuple_iterator", data := .fields #[.ref l2, .int 0 0] } := keep (keep (keep (Heap.get?_push_size _ rfl)))
  have o1 : (zm5 hp l1 l2).get? hp.objs.size = some { cls := .type "list_iterator", data := .fields #[.ref l1, .int 0 0] } := keep (keep (keep (keep (Heap.get?_push_size _ rfl))))
  show _ ∧ Q (.ref (zm4 hp l1 l2).objs.size) _
  rw [n2, n3, n4] at o5
  rw [n1, n2] at o3
  rw [n3] at o4
  rw [n1] at o2
  rw [n4]
  exact ⟨⟨_, o5, rfl⟩, f (zm5 hp l1 l2) ⟨o5, o3, o4, ⟨_, o1, rfl, rfl⟩, ⟨_, o2, rfl, rfl⟩⟩ fun c o q => keep (keep (keep (keep (keep q))))⟩
def iZipM (K : PySem.W.Frag) (ta : TA) : TI := fun σ H R => ta σ H fun vs H1 => ∃ a b xs ys, vs = [.ref a, .ref b] ∧ SqL K H1 a xs ∧ SqT K H1 b ys ∧ R (ItzM K a b) H1
theorem pi_zipM {X : Cx} {e e2 : Expr} {ta : TA} {p pos tpos : Pos} {elts : List Expr} {kk : Nat} (hg : Gl X "zip") (hm : X.mg "zip" = none) (ha : PA X [e, e2] ta)
    (hs : starEach [e, e2] X.env = (false, eval e X.env) :: starEach [e2] X.env := by rfl) (hpl : (backTo pos (starEach [e2] X.env)).any (·.1) = false := by rfl) :
    PI X (.Tuple elts kk tpos) (.Call (.Name "zip" p) [e, e2] [] pos) (iZipM X.K ta) := by
  constructor
  intro pins s σ H R I h
  refine Call_ (ld_blt I hg hm PyProof.Rows.boot_zip (PyProof.Rows.callWith_type1 (thn (ha.run pos pins s σ H _ I h) fun us s1 ⟨vs, H1, I1, r1, q1⟩ => ?_) hs hpl))
  obtain ⟨a, b, xs, ys, rfl, qx, qy, q⟩ := q1
  obtain ⟨u1, u2, rfl, ra, rb⟩ := vals2 r1
  cases ra
  cases rb
  obtain ⟨its, rv, p1, _⟩ := I1.list qx
  obtain ⟨its2, rv2, p2, _⟩ := I1.tuple qy
  have la : a < s1.heap.objs.size := KS.lt (b := false) (show KS false s1.heap a _ from p1.isList)
  have lb : b < s1.heap.objs.size := KS.lt (b := true) (show KS true s1.heap b _ from p2)
  refine call_zipM p1.isList p2 fun h1 Z kp => wpAny_pyIter_zip Z.hz ?_
  refine ⟨s1.heap.objs.size + 4, [s1.heap.objs.size + 4, s1.heap.objs.size + 2, s1.heap.objs.size + 3, s1.heap.objs.size, s1.heap.objs.size + 1], _, _, H1, rfl, I1.kept (t' := s1.toks) kp, turn_zipM (PySem.W.ktu_apart s1.heap.objs.size a b la lb), ⟨_, _, Z⟩, fun c hc => ?_, q⟩
  have le : s1.heap.objs.size ≤ c := by
    simp only [List.mem_cons, List.not_mem_nil, or_false] at hc
    rcases hc with rfl | rfl | rfl | rfl | rfl
    · exact Nat.le_add_right _ _
    · exact Nat.le_add_right _ _
    · exact Nat.le_add_right _ _
    · exact Nat.le_refl _
    · exact Nat.le_add_right _ _
  exact I1.fpOk le (I1.hok.fresh le)
theorem pi_zipMK {X : Cx} {K : PySem.W.Frag} {e e2 : Expr} {ta : TA} {p pos tpos : Pos} {elts : List Expr} {kk : Nat} (hg : Gl X "zip") (hm : X.mg "zip" = none) (ha : PA X [e, e2] ta)
    (hK : X.K = K := by rfl) (hs : starEach [e, e2] X.env = (false, eval e X.env) :: starEach [e2] X.env := by rfl) (hpl : (backTo pos (starEach [e2] X.env)).any (·.1) = false := by rfl) :
    PI X (.Tuple elts kk tpos) (.Call (.Name "zip" p) [e, e2] [] pos) (iZipM K ta) := by
  subst hK
  exact pi_zipM hg hm ha hs hpl
theorem walk_zipM {K : PySem.W.Frag} {a b : Addr} {xs ys : List V} {n : Nat} (hn : n = min xs.length ys.length) : Walk (ItzM K a b) n (fun H => SqL K H a xs ∧ SqT K H b ys) (YPair (fun i => xs[i]?) (fun i => ys[i]?)) where
  goes i H hi q := by
    have l : i < xs.length ∧ i < ys.length := by omega
    exact ⟨xs, ys, xs[i]'l.1, ys[i]'l.2, q.1, q.2, List.getElem?_eq_getElem l.1, List.getElem?_eq_getElem l.2⟩
  stops H q := ⟨xs, ys, q.1, q.2, by omega⟩
  yields i H v H' _ q y := by
    obtain ⟨T, x, z, e1, e2, e3, e4, e5⟩ := y
    exact ⟨T, x, z, e1, e2, e3, e4 xs q.1, e5 ys q.2⟩
/-! ### a > b of pairs of whole numbers -/
/-! ### t != () -/
def rNe0T (K : PySem.W.Frag) : R2 := fun x y H Q => ∃ (a b : Addr) (xs : List V), x = .ref a ∧ y = .ref b ∧ SqT K H a xs ∧ SqT K H b [] ∧ Q (.bl (!xs.isEmpty)) H
theorem ne0TK {X : Cx} {K : PySem.W.Frag} (hu : X.A.units < cLine) (hK : X.K = K := by rfl) : OpR X (compareOp .NotEq) (rNe0T K) := by
  subst hK
  intro pins s σ H x y v u Q I rx ry h
  obtain ⟨a, b, xs, rfl, rfl, ha, hb, hq⟩ := h
  cases rx; cases ry
  obtain ⟨ia, ra, pa, _⟩ := I.tuple ha
  obtain ⟨ib, rb, pb, _⟩ := I.tuple hb
  have la : ia.length = xs.length := (Paired.length ra).symm
  have lb : ib = [] := List.eq_nil_of_length_eq_zero (Paired.length rb).symm
  subst lb
  have G := SeqAt.RcNeAt.tuples (A := X.A) (s := s) (e := fun _ => true) pa pb hu (fun j h1 h2 => by simp at h2)
  have z : (!((List.range (min ia.toArray.size ([] : List Value).toArray.size)).all (fun _ => true) && ia.toArray.size == ([] : List Value).toArray.size)) = !xs.isEmpty := by
    cases xs with
    | nil =>
      have : ia = [] := List.eq_nil_of_length_eq_zero (by simpa using la)
      subst this
      rfl
    | cons x xs =>
      have : ia.toArray.size = xs.length + 1 := by rw [List.size_toArray]; simpa using la
      rw [this]
      simp
  rw [z] at G
  exact G X.prog X.w X.xe (EP X pins σ Q) ⟨.bl (!xs.isEmpty), H, I, rfl, hq⟩
end My
namespace My
open PySem PySem.Spec PyProof.Rows L2
/-- what two walks tell, by places: the first k of n times m -/
def tell2 (m : Nat) (z : Nat → Nat → Option V) (k : Nat) : List V := (List.range k).filterMap fun c => z (c / m) (c % m)
theorem tell2_succ (m : Nat) (z : Nat → Nat → Option V) (k : Nat) : tell2 m z (k + 1) = tell2 m z k ++ (z (k / m) (k % m)).toList := by
  unfold tell2
  rw [List.range_succ, List.filterMap_append]
  congr 1
theorem tell2_len (m : Nat) (z : Nat → Nat → Option V) (k : Nat) : (tell2 m z k).length ≤ k := by
  unfold tell2
  exact Nat.le_trans (List.length_filterMap_le _ _) (by rw [List.length_range]; exact Nat.le_refl _)
theorem divmod_at {m i j : Nat} (hj : j < m) : (i * m + j) / m = i ∧ (i * m + j) % m = j := by
  have e1 : (i * m + j) / m = i := by rw [Nat.mul_comm, Nat.mul_add_div (by omega), Nat.div_eq_of_lt hj, Nat.add_zero]
  have e2 : (i * m + j) % m = j := by rw [Nat.mul_comm, Nat.mul_add_mod, Nat.mod_eq_of_lt hj]
  exact ⟨e1, e2⟩
/-- a comprehension of two walks: the elements are known -/
theorem lc2z {J : It} {n m : Nat} {G : Hp → Prop} {Y : Nat → Hp → V → Hp → Prop} {g g1 : TG} {tt tt1 : TT} {wi1 : TI} {te : TE} {vs vs1 : List Nat} {σ : L2.St} {H1 : Hp} {D : Addr} {Qd : Hp → Prop}
    (w : Walk J n G Y) (hGs : ∀ H H', G H → Same H H' → G H') (z : Nat → Nat → Option V) (hz : n * m < sizeLine) (hG : G H1) (hD : H1 D = none)
    (hs : ∀ (i : Nat) (x : V) (H H' : Hp) (NX : Hp → Prop), i < n → Same H1 H → Y i H x H' →
      (∀ (J1 : It) (H4 : Hp) (σ2 : L2.St) (G1 : Hp → Prop) (Y1 : Nat → Hp → V → Hp → Prop), Same H H4 → Walk J1 m G1 Y1 → (∀ H5, Same H1 H5 → G1 H5) →
        (∀ (j : Nat) (x : V) (H5 H6 : Hp) (N : VK) (M : Hp → Prop), j < m → Same H1 H5 → Y1 j H5 x H6 → (∀ y H7, z i j = some y → Same H5 H7 → N y H7) → (∀ H7, z i j = none → Same H5 H7 → M H7) →
          g1 x (wipe σ2 vs1) H6 fun σ3 H8 => wipe σ3 vs1 = wipe σ2 vs1 ∧ tt1 σ3 H8 fun b H9 => if b = true then te σ3 H9 N else M H9) → Inn2 g1 tt1 te vs1 D NX σ2 J1 H4) →
      g x (wipe σ vs) H' fun σ2 H2 => wipe σ2 vs = wipe σ vs ∧ tt σ2 H2 fun b H3 => if b = true then wi1 σ2 H3 fun J1 H4 => Inn2 g1 tt1 te vs1 D NX σ2 J1 H4 else NX H3)
    (hd : ∀ H, Same H1 H → H D = some (.lst (tell2 m z (n * m))) → Qd H) :
    ∃ W : Nat → Nat → Hp → Prop, (∃ m, W 0 m (upd H1 D (.lst []))) ∧ ∀ i m H, W i m H →
  (J.stop i H ∧ Qd H) ∨ (J.go i H ∧ ∃ Nx : Hp → Prop, (∀ H', Nx H' → ∃ m', m' < m ∧ W (i + 1) m' H') ∧ ∀ x H', J.yld i H x H' → g x (wipe σ vs) H' fun σ2 H2 => wipe σ2 vs = wipe σ vs ∧ tt σ2 H2 fun b H3 =>
    if b = true then wi1 σ2 H3 fun J1 H4 => Inn2 g1 tt1 te vs1 D Nx σ2 J1 H4
    else Nx H3) := by
  let Pv : Nat → Hp → Prop := fun k H => Same H1 H ∧ H D = some (.lst (tell2 m z k))
  refine ⟨fun i k H => k = n - i ∧ i ≤ n ∧ Pv (i * m) H, ⟨n, by simp, Nat.zero_le _, by rw [Nat.zero_mul]; exact ⟨same1 hD, upd_same⟩⟩, ?_⟩
  rintro i k H ⟨rfl, hi, p⟩
  have q := hGs _ _ hG p.1
  by_cases hlt : i < n
  · refine .inr ⟨w.goes i H hlt q, Pv ((i + 1) * m), fun H' p' => ⟨n - (i + 1), by omega, rfl, hlt, p'⟩, fun x H' y => ?_⟩
    refine hs i x H H' _ hlt p.1 (w.yields i H x H' hlt q y) (fun J1 H4 σ2 G1 Y1 s4 w1 hG1 hin => ?_)
    refine inn2 w1 (fun j H => Pv (i * m + j) H) ⟨p.1.trans s4, s4 _ _ p.2⟩ (fun j H _ p => hG1 _ p.1) (fun j x H5 H6 hj p5 y5 => ?_) (fun H p => ?_)
    · obtain ⟨s1, h1⟩ := p5
      have lt : i * m + j < n * m := by
        have : (i + 1) * m ≤ n * m := Nat.mul_le_mul_right _ hlt
        rw [Nat.add_mul, Nat.one_mul] at this
        omega
      obtain ⟨e1, e2⟩ := divmod_at (i := i) hj
      have es := tell2_succ m z (i * m + j)
      rw [e1, e2] at es
      refine hin j x H5 H6 _ (Pv (i * m + (j + 1))) hj s1 y5 (fun v H7 ev s7 => ⟨_, s7 _ _ h1, Nat.lt_of_le_of_lt (tell2_len _ _ _) (by omega), ?_, ?_⟩) (fun H7 ev s7 => ⟨s1.trans s7, ?_⟩)
      · intro c o ec
        rw [upd_ne (ne_of_none ec hD)]
        exact s7 _ _ (s1 _ _ ec)
      · rw [upd_same, ← Nat.add_assoc, es, ev]
        rfl
      · rw [← Nat.add_assoc, es, ev, Option.toList_none, List.append_nil]
        exact s7 _ _ h1
    · have e : (i + 1) * m = i * m + m := by rw [Nat.add_mul, Nat.one_mul]
      show Pv ((i + 1) * m) H
      rw [e]
      exact p
  · have e : i = n := by omega
    subst e
    exact .inl ⟨w.stops H q, hd H p.1 p.2⟩
end My
namespace My
open PySem PySem.Spec PyProof.Rows L2
/-! ### sorted(xs, key=len), xs a list of tuples -/
def KeptBut (h0 : Heap) (a kS : Addr) (h : Heap) : Prop := ∀ b o, b ≠ a → b ≠ kS → h0.get? b = some o → h.get? b = some o
theorem KeptBut.sameA {h0 h h' : Heap} {a kS : Addr} (B : KeptBut h0 a kS h) (s : Heap.SameBut a h h') : KeptBut h0 a kS h' := fun b o n1 n2 e => (s.2 b n1).trans (B b o n1 n2 e)
theorem KeptBut.sameK {h0 h h' : Heap} {a kS : Addr} (B : KeptBut h0 a kS h) (s : Heap.SameBut kS h h') : KeptBut h0 a kS h' := fun b o n1 n2 e => (s.2 b n2).trans (B b o n1 n2 e)
section
variable {prog : Program} {w : World} {A : Around} {E : Value → Shared → Prop} {s : Shared} {h0 : Heap} {a kS : Addr} {vs : List Value} {kz : List Int} {keys : Array Value} {e e1 : Nat} {P : PySem.Fin → Shared → Prop}
theorem slk_tail {st : SortSt} (B : KeptBut h0 a kS s.heap) (nk : s.heap.get? kS = some (seqObj "list" keys e)) (na : s.heap.get? a = some (seqObj "list" #[] e1)) (hka : kS ≠ a)
    (hk : IntsAre keys.toList kz) (hlen : kz.length = vs.length) (hZ : vs.length ≤ sizeLine) (hp : (arrOf st).Perm (keys.zip vs.toArray)) (hs : SortedTo (arrOf st) (arrOf st).size) (hfl : failedOf st = none)
    (h : ∀ h' tk out c, KeptBut h0 a kS h' → h'.get? a = some (seqObj "list" out c) → KskOut false kz vs out.toList → P (.done (.ret .none)) { s with heap := h', toks := tk }) :
    wpAny (model prog w) A (ksk_tail a false e1 (.ref kS) st) P E s := by
  have hZ2 := hZ
  rw [sizeLine_eq] at hZ2
  have hsz : keys.size = vs.length := by
    have h1 := hk.length
    rw [Array.length_toList] at h1
    omega
  have hsz2 : (arrOf st).size = vs.length := by rw [hp.size_eq, Array.size_zip, hsz, List.size_toArray, Nat.min_self]
  have hout : (if false = true then ((arrOf st).map (·.2)).reverse else (arrOf st).map (·.2)).size = vs.length := by
    simp only [Bool.false_eq_true, if_false, Array.size_map]; exact hsz2
  have s1 := Heap.SameBut.update s.heap kS (Obj.mapSeq fun _ => (#[] : Array Value))
  have na1 : (s.heap.update kS (Obj.mapSeq fun _ => (#[] : Array Value))).get? a = some (seqObj "list" #[] e1) := (s1.2 a hka.symm).trans na
  have s2 := Heap.SameBut.update (s.heap.update kS (Obj.mapSeq fun _ => (#[] : Array Value))) a (Obj.mapSeq fun _ => if false = true then ((arrOf st).map (·.2)).reverse else (arrOf st).map (·.2))
  obtain ⟨c2, hc2⟩ : ∃ c2, ((s.heap.update kS (Obj.mapSeq fun _ => (#[] : Array Value))).update a (Obj.mapSeq fun _ => if false = true then ((arrOf st).map (·.2)).reverse else (arrOf st).map (·.2))).get? a = some (seqObj "list" (if false = true then ((arrOf st).map (·.2)).reverse else (arrOf st).map (·.2)) c2) :=
    ⟨_, get?_update_seq na1 fun _ => if false = true then ((arrOf st).map (·.2)).reverse else (arrOf st).map (·.2)⟩
  have B2 := (B.sameK s1).sameA s2
  unfold ksk_tail
  try dsimp only
  refine wpAny_bind (listUpdate_at nk rfl ?_ (by rw [hsz, sizeLine_eq]; omega) (Nat.zero_le _))
  refine wpAny_bind (wpAny_letGo ?_)
  refine wpAny_bind (seqEpoch_at na1 rfl ?_)
  refine wpAny_bind (listUpdate_at na1 rfl ?_ (Nat.zero_le _) (Nat.le_trans (Nat.le_of_eq hout) (by rw [sizeLine_eq]; omega)))
  rw [hfl]
  simp only [bne_self_eq_false, Bool.false_eq_true, if_false]
  exact wpAny_pure (h _ _ _ c2 B2 hc2 (ksk_out hk hp hs))
theorem slk_end (B : KeptBut h0 a kS s.heap) (nk : s.heap.get? kS = some (seqObj "list" keys e)) (na : s.heap.get? a = some (seqObj "list" #[] e1)) (hka : kS ≠ a)
    (hk : IntsAre keys.toList kz) (hlen : kz.length = vs.length) (hZ : vs.length ≤ sizeLine)
    (h : ∀ h' tk out c, KeptBut h0 a kS h' → h'.get? a = some (seqObj "list" out c) → KskOut false kz vs out.toList → P (.done (.ret .none)) { s with heap := h', toks := tk }) :
    wpAny (model prog w) A (ksk_end a false vs.toArray e1 (.ref kS) keys) P E s := by
  have hZ2 := hZ
  rw [sizeLine_eq] at hZ2
  have hsz : keys.size = vs.length := by
    have h1 := hk.length
    rw [Array.length_toList] at h1
    omega
  have hzs : (keys.zip vs.toArray).size = vs.length := by rw [Array.size_zip, hsz, List.size_toArray, Nat.min_self]
  have step : ∀ t : Sem PySem.Fin, wpAny (model prog w) A t P E s → wpAny (model prog w) A (if false = true then (do let _ ← rule "list.sort.reverse"; t) else t) P E s := by
    intro t ht
    split
    · exact wpAny_bind (wpAny_rule ht)
    · exact ht
  have hstart : (if false = true then (keys.zip vs.toArray).reverse else keys.zip vs.toArray).Perm (keys.zip vs.toArray) := Array.Perm.refl _
  unfold ksk_end
  try dsimp only
  refine step _ ?_
  by_cases h2 : vs.toArray.size < 2
  · rw [if_pos h2, if_pos h2]
    refine wpAny_bind (wpAny_pure ?_)
    rw [StateT.run_pure]
    refine wpAny_bind (wpAny_pure ?_)
    try dsimp only
    refine slk_tail (st := SortSt.mk' general' (if false = true then (keys.zip vs.toArray).reverse else keys.zip vs.toArray) #[] 7 none) B nk na hka hk hlen hZ hstart ?_ rfl h
    intro i j hij hj
    have hj2 : j < (if false = true then (keys.zip vs.toArray).reverse else keys.zip vs.toArray).size := hj
    rw [hstart.size_eq, hzs] at hj2
    rw [List.size_toArray] at h2
    have : i = j := by omega
    subst this
    exact Int.le_refl _
  · rw [if_neg h2, if_neg h2]
    rw [List.size_toArray] at h2
    rw [ksk_kind hk (by rw [hsz]; omega)]
    refine wpAny_bind (wpAny_pure ?_)
    refine wpAny_bind (wpAny_mono (wpS_sortRunsAny (κ := intKind) (a₀ := keys.zip vs.toArray) (st := SortSt.mk' oneType' (if false = true then (keys.zip vs.toArray).reverse else keys.zip vs.toArray) #[] 7 none)
      (Q := fun _ st' => (arrOf st').Perm (keys.zip vs.toArray) ∧ failedOf st' = none ∧ SortedTo (arrOf st') (keys.zip vs.toArray).size)
      intKind_oneLt (ksk_keysOfInt (ksk_intKeys hk)) ⟨hstart, rfl, rfl⟩ rfl (by rw [hzs]; omega) fun st' a1 a2 a3 => ⟨a1, a2, sortedTo_of_int a3⟩) ?_ fun _ _ e => e)
    rintro ⟨⟨⟩, st'⟩ s' ⟨rfl, hp, hf, hs⟩
    try dsimp only
    exact slk_tail B nk na hka hk hlen hZ hp (by rw [hp.size_eq]; exact hs) hf h
theorem slk_rest {f : Value} (B : KeptBut h0 a kS s.heap) (nk : s.heap.get? kS = some (seqObj "list" #[] 0)) (na : s.heap.get? a = some (seqObj "list" #[] e1)) (hka : kS ≠ a)
    (hlen : kz.length = vs.length) (hZ : vs.length ≤ sizeLine)
    (turn : ∀ (i : Nat) (v : Value) (k : Int), vs[i]? = some v → kz[i]? = some k → ∀ (h : Heap) (tk : Nat), KeptBut h0 a kS h →
      wpAny (model prog w) A (call f [v]) (fun u s'' => ∃ t tk', u = .int k t ∧ s'' = { s with heap := h, toks := tk' }) (fun _ _ => False) { s with heap := h, toks := tk })
    (h : ∀ h' tk out c, KeptBut h0 a kS h' → h'.get? a = some (seqObj "list" out c) → KskOut false kz vs out.toList → P (.done (.ret .none)) { s with heap := h', toks := tk }) :
    wpAny (model prog w) A (ksk_rest a f false vs.toArray e1 (.ref kS)) P E s := by
  have hZ2 := hZ
  rw [sizeLine_eq] at hZ2
  unfold ksk_rest
  refine wpAny_bind (wpAny_rule ?_)
  first
    | rw [List.forIn_toArray]
    | (rw [← Array.forIn_toList]; simp only [List.toList_toArray])
    | rw [← Array.forIn_toList]
  refine wpAny_bind (ksk_fold (fun i s' => ∃ h' tk kA e, s' = { s with heap := h', toks := tk } ∧ KeptBut h0 a kS h' ∧ h'.get? kS = some (seqObj "list" kA e) ∧ h'.get? a = some (seqObj "list" #[] e1) ∧ IntsAre kA.toList (kz.take i)) vs 0 s
    ⟨s.heap, s.toks, #[], 0, rfl, B, nk, na, by simpa using IntsAre.nil⟩ ?step ?done)
  case step =>
    rintro j x s' hx ⟨h', tk, kA, e, rfl, B', nk', na', hk⟩
    simp only [Nat.zero_add] at hk ⊢
    have hj : j < vs.length := (List.getElem?_eq_some_iff.mp hx).1
    obtain ⟨k, hkj⟩ : ∃ k, kz[j]? = some k := ⟨_, List.getElem?_eq_getElem (by omega)⟩
    have hz : kA.size ≤ vs.length := by
      have h1 := hk.length
      rw [Array.length_toList, List.length_take] at h1
      omega
    refine wpAny_bind (wpAny_attempt (wpAny_mono (turn j x k hx hkj h' tk B') (fun v s'' he => ?_) fun _ _ hF => hF.elim))
    obtain ⟨t2, tk2, rfl, rfl⟩ := he
    try dsimp only
    have s1 := Heap.SameBut.update h' kS (Obj.mapSeq (·.push (.int k t2)))
    obtain ⟨c2, hc2⟩ : ∃ c2, (h'.update kS (Obj.mapSeq (·.push (.int k t2)))).get? kS = some (seqObj "list" (kA.push (.int k t2)) c2) := ⟨_, get?_update_seq nk' (·.push (.int k t2))⟩
    have ek : kz.take (j + 1) = kz.take j ++ [k] := by rw [List.take_add_one, hkj]; simp
    have ea : (kA.push (Value.int k t2)).toList = kA.toList ++ [Value.int k t2] := by simp
    refine wpAny_bind (listUpdate_at nk' rfl ?_ (by rw [sizeLine_eq]; omega) (Nat.le_trans (Nat.le_of_eq (Array.size_push ..)) (by rw [sizeLine_eq]; omega)))
    exact wpAny_pure ⟨rfl, _, _, kA.push (.int k t2), c2, rfl, B'.sameK s1, hc2, (s1.2 a hka.symm).trans na', by rw [ea, ek]; exact ksk_snoc hk⟩
  case done =>
    rintro s' ⟨h', tk, kA, e, rfl, B', nk', na', hk⟩
    have hk' : IntsAre kA.toList kz := by
      have e3 : kz.take (0 + vs.length) = kz := List.take_of_length_le (by omega)
      rw [e3] at hk
      exact hk
    try dsimp only
    refine wpAny_bind (listItems_at nk' rfl ?_)
    exact slk_end B' nk' na' hka hk' hlen hZ fun h3 tk3 out c B3 n3 k3 => h h3 tk3 out c B3 n3 k3
end
section
variable {prog : Program} {w : World} {A : Around} {E : Value → Shared → Prop} {s : Shared} {l : Addr} {vs : List Value} {kz : List Int} {Q : Value → Shared → Prop}
theorem slk_sorted {i : String} (hl : s.heap.IsList l vs.toArray) (hlen : kz.length = vs.length) (hZ : vs.length ≤ sizeLine)
    (turn : ∀ (j : Nat) (v : Value) (k : Int), vs[j]? = some v → kz[j]? = some k → ∀ (h : Heap) (tk : Nat), (∀ b o, s.heap.get? b = some o → h.get? b = some o) →
      wpAny (model prog w) A.in1.in1 (call (.builtin i) [v]) (fun u s'' => ∃ t tk', u = .int k t ∧ s'' = { s with heap := h, toks := tk' }) (fun _ _ => False) { s with heap := h, toks := tk })
    (h : ∀ h' tk out c, (∀ b o, s.heap.get? b = some o → h'.get? b = some o) → h'.get? (s.heap.objs.size + 1) = some (seqObj "list" out c) → KskOut false kz vs out.toList → Q (.ref (s.heap.objs.size + 1)) { s with heap := h', toks := tk }) :
    wpAny (model prog w) A (call (.builtin "sorted") [.ref l] [(Str.ofString "key", .builtin i)]) Q E s := by
  have hZ2 := hZ
  rw [sizeLine_eq] at hZ2
  refine call_function_entry_kw kind_sorted plain_sorted entry_sorted (ksk_s1 _ _) ?_
  unfold Builtin.«sorted»
  refine wpAny_bind (m := checkCount "sorted" 1 1 _) (wpAny_pure ?_)
  refine wpAny_bind (collect_list hl ?_ (by rw [sizeLine_eq]; omega))
  refine wpAny_bind (wpAny_newList ?_ (by rw [sizeLine_eq]; omega))
  have hsz : ((s.heap.push (seqObj "list" #[] 0)).update s.heap.objs.size (Obj.mapSeq (· ++ vs.toArray))).objs.size = s.heap.objs.size + 1 := by
    rw [Heap.size_update, size_push']
  have hoL : (((s.heap.push (seqObj "list" #[] 0)).update s.heap.objs.size (Obj.mapSeq (· ++ vs.toArray))).push (seqObj "list" vs.toArray 0)).get? (s.heap.objs.size + 1) = some (seqObj "list" vs.toArray 0) := by
    rw [← hsz]; exact Heap.get?_push_size _ rfl
  have keep : ∀ b o, s.heap.get? b = some o → (((s.heap.push (seqObj "list" #[] 0)).update s.heap.objs.size (Obj.mapSeq (· ++ vs.toArray))).push (seqObj "list" vs.toArray 0)).get? b = some o := fun b o q => by
    have hlt : b < s.heap.objs.size := Heap.lt_size q
    rw [Heap.get?_push_ne _ _ _ (by rw [hsz]; exact Nat.ne_of_lt (Nat.lt_succ_of_lt hlt)), Heap.get?_update_ne _ _ _ _ (Nat.ne_of_lt hlt), Heap.get?_push_ne _ _ _ (Nat.ne_of_lt hlt)]
    exact q
  show wpAny _ _ _ _ _ { s with heap := ((s.heap.push (seqObj "list" #[] 0)).update s.heap.objs.size (Obj.mapSeq (· ++ vs.toArray))).push (seqObj "list" vs.toArray 0) }
  rw [hsz]
  generalize ((s.heap.push (seqObj "list" #[] 0)).update s.heap.objs.size (Obj.mapSeq (· ++ vs.toArray))).push (seqObj "list" vs.toArray 0) = h1 at *
  refine wpAny_bind (wpAny_holding (wpAny_call_entry_kw slot_list_sort ⟨_, hoL, rfl⟩ entry_list_sort ?body (ksk_l1 _ _)))
  case body =>
    have ht' := ksk_t4 i (s.heap.objs.size + 1)
    show wpAny (model prog w) A.in1.in1 (Builtin.«list.sort» ⟨[.ref (s.heap.objs.size + 1)], [(Str.ofString "key", .builtin i)]⟩) _ _ _
    rw [ht']
    have ha : s.heap.objs.size + 1 < h1.objs.size := Heap.lt_size hoL
    have s1 := Heap.SameBut.update h1 (s.heap.objs.size + 1) (Obj.mapSeq fun _ => (#[] : Array Value))
    obtain ⟨e1, ho1⟩ : ∃ e1, (h1.update (s.heap.objs.size + 1) (Obj.mapSeq fun _ => (#[] : Array Value))).get? (s.heap.objs.size + 1) = some (seqObj "list" #[] e1) := ⟨_, get?_update_seq hoL fun _ => #[]⟩
    have hkS : ((h1.update (s.heap.objs.size + 1) (Obj.mapSeq fun _ => (#[] : Array Value))).push (seqObj "tuple" vs.toArray 0)).objs.size = h1.objs.size + 1 := by rw [size_push', Heap.size_update]
    unfold ksk_tree
    refine wpAny_bind (listItems_at hoL rfl ?_)
    refine wpAny_bind (listUpdate_at hoL rfl ?_ (by rw [List.size_toArray, sizeLine_eq]; omega) (Nat.zero_le _))
    refine wpAny_bind (seqEpoch_at ho1 rfl ?_)
    refine wpAny_bind (wpAny_newTuple ?_ (by show vs.length ≤ _; rw [sizeLine_eq]; omega))
    refine wpAny_bind (wpAny_newList ?_ (Nat.zero_le _))
    refine wpAny_holding ?_
    have old : ∀ b o, s.heap.get? b = some o → b ≠ s.heap.objs.size + 1 ∧ b ≠ ((h1.update (s.heap.objs.size + 1) (Obj.mapSeq fun _ => (#[] : Array Value))).push (seqObj "tuple" vs.toArray 0)).objs.size := fun b o q => by
      have := Heap.lt_size q
      rw [hkS]
      exact ⟨Nat.ne_of_lt (Nat.lt_succ_of_lt this), Nat.ne_of_lt (Nat.lt_of_lt_of_le this (Nat.le_trans (Nat.le_of_lt (Nat.lt_of_succ_lt ha)) (Nat.le_succ _)))⟩
    refine slk_rest (h0 := s.heap) (s := { s with heap := ((h1.update (s.heap.objs.size + 1) (Obj.mapSeq fun _ => (#[] : Array Value))).push (seqObj "tuple" vs.toArray 0)).push (seqObj "list" #[] 0) }) (kS := ((h1.update (s.heap.objs.size + 1) (Obj.mapSeq fun _ => (#[] : Array Value))).push (seqObj "tuple" vs.toArray 0)).objs.size)
      (fun b o n1 n2 q => Heap.get?_push_of_some _ (Heap.get?_push_of_some _ ((s1.2 b n1).trans (keep b o q)))) (Heap.get?_push_size _ rfl) (Heap.get?_push_of_some _ (Heap.get?_push_of_some _ ho1)) (by rw [hkS]; exact (Nat.ne_of_lt (Nat.lt_succ_of_lt ha)).symm) hlen hZ
      (fun j v k hv hk h' tk B => turn j v k hv hk h' tk fun b o q => B b o (old b o q).1 (old b o q).2 q) fun h' tk out c B' n' k' => ⟨_, rfl, ?_⟩
    exact wpAny_pure ⟨_, rfl, h h' tk out c (fun b o q => B' b o (old b o q).1 (old b o q).2 q) n' k'⟩
end
/-- sorted(xs, key=len), xs a list of tuples: some arrangement, the shorter ones ahead -/
def rSortedLen (K : PySem.W.Frag) : List V → Hp → VK → Prop := fun vs H Q => ∃ (a : Addr) (xs : List V) (k : V → Int), vs = [V.ref a] ∧ SqL K H a xs ∧ (∀ x ∈ xs, ∃ t ys, x = V.ref t ∧ H t = some (.tup ys) ∧ k x = (ys.length : Int)) ∧
  ∀ ys p, ys.Perm xs → ys.Pairwise (fun x y => k x ≤ k y) → H p = none → Q (.ref p) (upd H p (.lst ys))
section
variable {X : Cx}
theorem run_sortedLen {pins : List (Addr × Obj)} {s : Shared} {σ : L2.St} {H : Hp} {vs : List V} {us : List Value} {Q : VK} (I : Inv X pins σ H s) (r : Vals vs us) (h : rSortedLen X.K vs H Q) :
    wpAny (model X.prog X.w) X.A (call (.builtin "sorted") us [(Str.ofString "key", .builtin "len")]) (EP X pins σ Q) X.xe s := by
  obtain ⟨a, xs, k, rfl, hs, hx, q⟩ := h
  obtain ⟨its, rv, hl, hz⟩ := I.list hs
  obtain ⟨u, rfl, ru⟩ := vals1 r
  obtain rfl : u = Value.ref a := ru
  obtain ⟨e1, e2⟩ := refs_back rv fun x m => by
    obtain ⟨t, ys, e, _⟩ := hx x m
    exact ⟨t, e⟩
  have hlen := rv.length
  refine slk_sorted (kz := its.map fun v => k (backV v)) hl.isList (List.length_map ..) (by rw [← hlen]; exact hz) (fun j v k' hv hk h tk kp => ?_) fun h' tk out c kp hn ko => ?_
  · rw [List.getElem?_map, hv] at hk
    cases hk
    have hm := List.mem_of_getElem? hv
    obtain ⟨t, rfl⟩ := e2 v hm
    obtain ⟨t', ys, e, ht, ek⟩ := hx (V.ref t) (by rw [e1]; exact List.mem_map.mpr ⟨_, hm, rfl⟩)
    cases e
    obtain ⟨its2, r2, pl, hz2⟩ := I.tuple (SqT.of ht)
    have hlen2 := r2.length
    have hn := line63
    have ek : k (backV (Value.ref t)) = (ys.length : Int) := ek
    refine len_tuple (s := { s with heap := h, toks := tk }) (pl.keeps kp) (by simp only [List.size_toArray] <;> omega) ⟨tk + 1, tk + 1 + 1, ?_, rfl⟩
    show Value.int (its2.toArray.size : Int) (tk + 1) = Value.int (k (backV (Value.ref t))) (tk + 1)
    rw [List.size_toArray, ek, hlen2]
  · obtain ⟨ps, hp, ho, hsr⟩ := ko
    have hzip : ∀ p ∈ (its.map fun v => k (backV v)).zip its, p.1 = k (backV p.2) := by
      rw [List.zip_map_left]
      intro p hp
      obtain ⟨⟨u, v⟩, hq, rfl⟩ := List.mem_map.mp hp
      show k (backV u) = k (backV v)
      rw [show u = v from (mem_zip_self hq).1]
    have hP : out.toList.Perm its := by
      rw [ho]
      have h1 := hp.map Prod.snd
      rwa [List.map_snd_zip (by rw [List.length_map]; omega)] at h1
    have hO : out.toList.Pairwise (fun u v => k (backV u) ≤ k (backV v)) := by
      rw [ho, List.pairwise_map]
      refine hsr.imp_of_mem fun {p q} hp' hq' hr => ?_
      have hr : p.1 ≤ q.1 := hr
      rw [hzip p (hp.mem_iff.mp hp'), hzip q (hp.mem_iff.mp hq')] at hr
      exact hr
    have h3 : ∀ u ∈ out.toList, ∃ a, u = Value.ref a := fun u hu => e2 u (hP.mem_iff.mp hu)
    refine ⟨.ref _, upd H (s.heap.objs.size + 1) (.lst (out.toList.map backV)), I.laid (t' := tk) kp (Nat.le_succ _) ⟨?_, out.toList, c, vals_back h3, ?_⟩, rfl, q _ _ ?_ ?_ (I.hok.fresh (Nat.le_succ _))⟩
    · rw [List.length_map, hP.length_eq, ← hlen]
      exact hz
    · rw [Array.toArray_toList]
      exact hn
    · rw [e1]
      exact hP.map backV
    · rw [List.pairwise_map]
      exact hO
theorem pe_sortedLen {x y : Str} {p lp kp pos : Pos} {e : Expr} {t : TA} (hx : x = "sorted") (hy : y = "len") (hg : Gl X x) (hm : X.mg x = none) (hgl : Gl X y) (hml : X.mg y = none) (ha : PA X [e] t) (hbs : bootBuiltins "sorted" = some (.builtin "sorted")) (hbl : bootBuiltins "len" = some (.builtin "len"))
    (he : backTo pos (starEach [e] X.env) = (false, eval e X.env) :: backTo pos (starEach [] X.env) := by rfl) (hpl : (backTo pos (starEach [e] X.env)).any (·.1) = false := by rfl) :
    PE X (.Call (.Name x p) [e] [⟨some "key", .Name y lp, kp⟩] pos) (tCB (rSortedLen X.K) t) := by
  subst hx hy
  refine ⟨fun pins s σ H Q I h => ?_⟩
  refine wpAny_Call_Name_kw (ld_blt I hg hm hbs ?_ (by decide) (by decide))
  refine PyProof.Rows.callWith_kw (thn (ha.run pos pins s σ H _ I h) fun us s1 ⟨vs, H1, I1, r1, q1⟩ => ?_) he hpl rfl rfl
  refine kwAll_cons (ld_blt I1 hgl hml hbl (kwAll_nil ?_) (by decide) (by decide))
  exact run_sortedLen I1 r1 q1
end
end My
namespace K73
open PySem PySem.Spec PyProof.Rows L2 My
local macro_rules | `(tactic| walk_at "c") => `(tactic| first | (with_reducible apply eq_id; apply Eq.refl) | (with_reducible apply ile_id; omega) | (with_reducible apply ilt_id; omega) | (with_reducible apply nle_id; omega) | (with_reducible apply nlt_id; omega) | assumption | (apply Eq.refl; done) | with_reducible exact lf_marks _ _ _ _ | with_reducible exact lf_rule _ _ _ _ | with_reducible exact lf_least _ _ _ _ | with_reducible exact lf_most _ _ _ _ | with_reducible exact mf_top _ _ | with_reducible exact mf_bottom _ _ | with_reducible exact sf_low _ _ _ _ | with_reducible exact sf_high _ _ _ _ | with_reducible exact sf_low_in _ _ _ _ | with_reducible exact sf_high_in _ _ _ _ | exact SqL.of (by assumption) | exact SqT.of (by assumption) | exact Or.inl (SqL.of (by assumption)) | exact Or.inr (SqT.of (by assumption)) | exact Or.inr (by assumption) | exact Or.inl (by assumption) | omega | exact atI_nat (by assumption) | exact atI_of (n := 0) rfl (by assumption) | exact logS (by omega) | exact Or.inl (Or.inl ⟨by omega, by omega⟩) | exact Or.inl (Or.inr ⟨by omega, by omega⟩) | exact szb rfl | exact szs (by omega) | exact szl (by omega) | exact Or.inl ⟨Eq.refl _, _, SqL.of (by assumption)⟩ | exact ⟨_, SqT.of (by assumption)⟩ | exact ⟨_, SqL.of (by assumption)⟩ | exact ⟨by omega, by omega, by omega, by omega⟩)
local macro_rules | `(tactic| walk_at "e") => `(tactic| first | rfl | exact ⟨rfl, rfl⟩ | exact ⟨rfl, rfl, rfl⟩ | assumption | exact trivial)
local macro_rules | `(tactic| walk_at "w1") => `(tactic| first
  | refine q_belowT (by assumption) (by assumption) (by omega) (by omega) ?_ | refine q_belowA (by assumption) (by assumption) (by omega) (by omega) ?_ | refine q_subT (by assumption) (by assumption) (by omega) (by omega) (by omega) ?_
  | refine meth_q (by assumption) (by decide +kernel) (by decide +kernel) ?_ | refine meth_l (by assumption) (by decide +kernel) (by decide +kernel) (by decide +kernel) (by decide +kernel) ?_ | refine meth_s (by assumption) (by decide +kernel) (by decide +kernel) (by decide +kernel) (by decide +kernel) ?_
  | apply @Exists.intro V | apply @Exists.intro Int | apply @Exists.intro Addr | apply @Exists.intro Bool | apply @Exists.intro (List V) | apply @Exists.intro Str | apply @Exists.intro Nat | apply @Exists.intro (List (Str × V))
  | (apply And.intro; (focus (walk_at "c"))) | (with_reducible apply iteT) | (with_reducible apply iteF) | refine iteDT (by omega) ?_ | refine iteDF (by omega) ?_ | refine iteNS (by omega) ?_ | refine iteNT (by omega) ?_)
local macro_rules | `(tactic| walk_at "w") => `(tactic| repeat (walk_at "w1"))
local macro_rules | `(tactic| walk_at "wa1") => `(tactic| first | refine q_addT (by assumption) (by assumption) (by omega) (by omega) (by omega) ?_ | refine q_mulT (by assumption) (by assumption) (by omega) (by omega) (by omega) ?_ | walk_at "w1")
local macro_rules | `(tactic| walk_at "wa") => `(tactic| repeat (walk_at "wa1"))
local macro_rules | `(tactic| walk_at "hand") => `(tactic| first | assumption | exact HandAt.up (by walk_at "hand") (by assumption))
local macro_rules | `(tactic| walk_at "hp") => `(tactic| first | assumption | exact upd_same | exact up1 (by assumption) (by walk_at "hp") | exact Kp.get (by assumption) (by walk_at "hand") (by walk_at "hp") (by rfl) | exact L2.Same.get (by assumption) (by walk_at "hp") | exact up2 (by assumption) (by walk_at "hp") (by rfl))
local macro_rules | `(tactic| walk_at "n") => `(tactic| skip)
local macro_rules | `(tactic| walk_at "k") => `(tactic| first | with_reducible assumption | with_reducible exact Kp.refl _ _ | (with_reducible refine Kp.trans ?_ (by with_reducible assumption); walk_at "k") | (with_reducible refine Kp.trans ?_ (Kp.same (by with_reducible assumption)); walk_at "k") | (with_reducible refine Kp.trans ?_ (Kp.same (same1 (by with_reducible assumption))); walk_at "k"))
local macro_rules | `(tactic| walk_at "s") => `(tactic| first | with_reducible assumption | with_reducible exact Same.refl _ | (with_reducible refine Same.trans ?_ (by with_reducible assumption); walk_at "s") | (with_reducible refine Same.trans ?_ (same1 (by with_reducible assumption)); walk_at "s") | (with_reducible apply same_k; (with_reducible assumption); (with_reducible assumption); walk_at "s"))
local macro_rules | `(tactic| walk_at "u") => `(tactic| (first | (with_reducible assumption) | ((with_reducible apply TQ_id); first | ((repeat (first | (with_reducible assumption) | (with_reducible apply TQ.s; (with_reducible assumption)) | (with_reducible apply TQ.kq; (with_reducible assumption); (focus (repeat (first | (with_reducible assumption) | (with_reducible apply HandAt.s; (with_reducible assumption)) | (with_reducible apply HandAt.u; (with_reducible assumption)))))) | (with_reducible apply TQ.u; (with_reducible assumption)))); done) | (with_reducible apply TQ.lit; (focus (repeat (first | (with_reducible exact upd_same) | (with_reducible assumption) | (with_reducible apply hp_u; (with_reducible assumption)) | (with_reducible apply hp_s; (with_reducible assumption)) | (with_reducible apply hp_l; (with_reducible assumption); (with_reducible assumption)) | (with_reducible apply hp_k; (with_reducible assumption); (focus (repeat (first | (with_reducible assumption) | (with_reducible apply HandAt.s; (with_reducible assumption)) | (with_reducible apply HandAt.u; (with_reducible assumption))))); (with_unfolding_all exact rfl))))); decide; decide; decide) | (with_reducible apply TQ.mono; with_reducible apply TQ.lit; (focus (repeat (first | (with_reducible exact upd_same) | (with_reducible assumption) | (with_reducible apply hp_u; (with_reducible assumption)) | (with_reducible apply hp_s; (with_reducible assumption)) | (with_reducible apply hp_l; (with_reducible assumption); (with_reducible assumption)) | (with_reducible apply hp_k; (with_reducible assumption); (focus (repeat (first | (with_reducible assumption) | (with_reducible apply HandAt.s; (with_reducible assumption)) | (with_reducible apply HandAt.u; (with_reducible assumption))))); (with_unfolding_all exact rfl))))); decide; decide; decide; omega) | (with_reducible apply TQ.mono; (focus (repeat (first | (with_reducible assumption) | (with_reducible apply TQ.s; (with_reducible assumption)) | (with_reducible apply TQ.kq; (with_reducible assumption); (focus (repeat (first | (with_reducible assumption) | (with_reducible apply HandAt.s; (with_reducible assumption)) | (with_reducible apply HandAt.u; (with_reducible assumption)))))) | (with_reducible apply TQ.u; (with_reducible assumption))))); omega)) | ((with_reducible apply Tqs_id); first | ((repeat (first | (with_reducible assumption) | (with_reducible apply Tqs.s; (with_reducible assumption)) | (with_reducible apply Tqs.kq; (with_reducible assumption); (focus (repeat (first | (with_reducible assumption) | (with_reducible apply HandAt.s; (with_reducible assumption)) | (with_reducible apply HandAt.u; (with_reducible assumption)))))) | (with_reducible apply Tqs.u; (with_reducible assumption)))); done) | (with_reducible apply Tqs.mono; (focus (repeat (first | (with_reducible assumption) | (with_reducible apply Tqs.s; (with_reducible assumption)) | (with_reducible apply Tqs.kq; (with_reducible assumption); (focus (repeat (first | (with_reducible assumption) | (with_reducible apply HandAt.s; (with_reducible assumption)) | (with_reducible apply HandAt.u; (with_reducible assumption)))))) | (with_reducible apply Tqs.u; (with_reducible assumption))))); omega)) | ((with_reducible apply QAt_id); first | ((repeat (first | (with_reducible assumption) | (with_reducible apply QAt.s; (with_reducible assumption)) | (with_reducible apply QAt.kq; (with_reducible assumption); (focus (repeat (first | (with_reducible assumption) | (with_reducible apply HandAt.s; (with_reducible assumption)) | (with_reducible apply HandAt.u; (with_reducible assumption)))))) | (with_reducible apply QAt.u; (with_reducible assumption)))); done) | (with_reducible apply QAt.mono; (focus (repeat (first | (with_reducible assumption) | (with_reducible apply QAt.s; (with_reducible assumption)) | (with_reducible apply QAt.kq; (with_reducible assumption); (focus (repeat (first | (with_reducible assumption) | (with_reducible apply HandAt.s; (with_reducible assumption)) | (with_reducible apply HandAt.u; (with_reducible assumption)))))) | (with_reducible apply QAt.u; (with_reducible assumption))))); omega) | ((repeat (first | assumption | (apply QAt.s; assumption) | (apply QAt.kq; assumption; (focus (repeat (first | (with_reducible assumption) | (with_reducible apply HandAt.s; (with_reducible assumption)) | (with_reducible apply HandAt.u; (with_reducible assumption)))))) | (with_reducible apply QAt.u; assumption))); done)) | ((with_reducible apply Mks_id); first | ((repeat (first | (with_reducible assumption) | (with_reducible apply Mks.s; (with_reducible assumption)) | (with_reducible apply Mks.kq; (with_reducible assumption); (focus (repeat (first | (with_reducible assumption) | (with_reducible apply HandAt.s; (with_reducible assumption)) | (with_reducible apply HandAt.u; (with_reducible assumption)))))) | (with_reducible apply Mks.u; (with_reducible assumption)))); done)) | ((with_reducible apply QO_id); first | ((repeat (first | (with_reducible assumption) | (with_reducible apply QO.s; (with_reducible assumption)) | (with_reducible apply QO.kq; (with_reducible assumption); (focus (repeat (first | (with_reducible assumption) | (with_reducible apply HandAt.s; (with_reducible assumption)) | (with_reducible apply HandAt.u; (with_reducible assumption)))))) | (with_reducible apply QO.u; (with_reducible assumption)))); done) | (with_reducible apply QO.monoR; (focus (repeat (first | (with_reducible assumption) | (with_reducible apply QO.s; (with_reducible assumption)) | (with_reducible apply QO.kq; (with_reducible assumption); (focus (repeat (first | (with_reducible assumption) | (with_reducible apply HandAt.s; (with_reducible assumption)) | (with_reducible apply HandAt.u; (with_reducible assumption)))))) | (with_reducible apply QO.u; (with_reducible assumption))))); omega)) | ((with_reducible apply TOq_id); first | ((repeat (first | (with_reducible assumption) | (with_reducible apply TOq.s; (with_reducible assumption)) | (with_reducible apply TOq.kq; (with_reducible assumption); (focus (repeat (first | (with_reducible assumption) | (with_reducible apply HandAt.s; (with_reducible assumption)) | (with_reducible apply HandAt.u; (with_reducible assumption)))))) | (with_reducible apply TOq.u; (with_reducible assumption)))); done) | (with_reducible apply TOq.monoR; (focus (repeat (first | (with_reducible assumption) | (with_reducible apply TOq.s; (with_reducible assumption)) | (with_reducible apply TOq.kq; (with_reducible assumption); (focus (repeat (first | (with_reducible assumption) | (with_reducible apply HandAt.s; (with_reducible assumption)) | (with_reducible apply HandAt.u; (with_reducible assumption)))))) | (with_reducible apply TOq.u; (with_reducible assumption))))); omega)) | ((with_reducible apply LadAt_id); first | ((repeat (first | (with_reducible assumption) | (with_reducible apply LadAt.s; (with_reducible assumption)) | (with_reducible apply LadAt.kq; (with_reducible assumption); (focus (repeat (first | (with_reducible assumption) | (with_reducible apply HandAt.s; (with_reducible assumption)) | (with_reducible apply HandAt.u; (with_reducible assumption)))))) | (with_reducible apply LadAt.u; (with_reducible assumption)))); done) | (with_reducible apply LadAt.mono; (focus (repeat (first | (with_reducible assumption) | (with_reducible apply LadAt.s; (with_reducible assumption)) | (with_reducible apply LadAt.kq; (with_reducible assumption); (focus (repeat (first | (with_reducible assumption) | (with_reducible apply HandAt.s; (with_reducible assumption)) | (with_reducible apply HandAt.u; (with_reducible assumption)))))) | (with_reducible apply LadAt.u; (with_reducible assumption))))); omega) | ((repeat (first | assumption | (apply LadAt.s; assumption) | (apply LadAt.kq; assumption; (focus (repeat (first | (with_reducible assumption) | (with_reducible apply HandAt.s; (with_reducible assumption)) | (with_reducible apply HandAt.u; (with_reducible assumption)))))) | (with_reducible apply LadAt.u; assumption))); done)) | ((with_reducible apply GrdAt_id); first | ((repeat (first | (with_reducible assumption) | (with_reducible apply GrdAt.s; (with_reducible assumption)) | (with_reducible apply GrdAt.kq; (with_reducible assumption); (focus (repeat (first | (with_reducible assumption) | (with_reducible apply HandAt.s; (with_reducible assumption)) | (with_reducible apply HandAt.u; (with_reducible assumption)))))) | (with_reducible apply GrdAt.u; (with_reducible assumption)))); done) | ((repeat (first | assumption | (apply GrdAt.s; assumption) | (apply GrdAt.kq; assumption; (focus (repeat (first | (with_reducible assumption) | (with_reducible apply HandAt.s; (with_reducible assumption)) | (with_reducible apply HandAt.u; (with_reducible assumption)))))) | (with_reducible apply GrdAt.u; assumption))); done)) | ((with_reducible apply SidesAt_id); first | ((repeat (first | (with_reducible assumption) | (with_reducible apply SidesAt.s; (with_reducible assumption)) | (with_reducible apply SidesAt.kq; (with_reducible assumption); (focus (repeat (first | (with_reducible assumption) | (with_reducible apply HandAt.s; (with_reducible assumption)) | (with_reducible apply HandAt.u; (with_reducible assumption)))))) | (with_reducible apply SidesAt.u; (with_reducible assumption)))); done)) | ((with_reducible apply ChartAt_id); first | ((repeat (first | (with_reducible assumption) | (with_reducible apply ChartAt.s; (with_reducible assumption)) | (with_reducible apply ChartAt.kq; (with_reducible assumption); (focus (repeat (first | (with_reducible assumption) | (with_reducible apply HandAt.s; (with_reducible assumption)) | (with_reducible apply HandAt.u; (with_reducible assumption)))))) | (with_reducible apply ChartAt.u; (with_reducible assumption)))); done)) | ((with_reducible apply HandAt_id); first | ((focus (repeat (first | (with_reducible assumption) | (with_reducible apply HandAt.s; (with_reducible assumption)) | (with_reducible apply HandAt.u; (with_reducible assumption))))); done) | (with_reducible apply HandAt.mono; (focus (focus (repeat (first | (with_reducible assumption) | (with_reducible apply HandAt.s; (with_reducible assumption)) | (with_reducible apply HandAt.u; (with_reducible assumption)))))); omega)) | ((with_reducible apply SqT_id); first | ((first | (with_reducible apply SqT.of; (repeat (first | (with_reducible exact upd_same) | (with_reducible assumption) | (with_reducible apply hp_u; (with_reducible assumption)) | (with_reducible apply hp_s; (with_reducible assumption)) | (with_reducible apply hp_l; (with_reducible assumption); (with_reducible assumption)) | (with_reducible apply hp_k; (with_reducible assumption); (focus (repeat (first | (with_reducible assumption) | (with_reducible apply HandAt.s; (with_reducible assumption)) | (with_reducible apply HandAt.u; (with_reducible assumption))))); (with_unfolding_all exact rfl)))); done) | (repeat (first | (with_reducible assumption) | (with_reducible apply sqt_s; (with_reducible assumption)) | (with_reducible apply sqt_k; (with_reducible assumption); (focus (repeat (first | (with_reducible assumption) | (with_reducible apply HandAt.s; (with_reducible assumption)) | (with_reducible apply HandAt.u; (with_reducible assumption)))))) | (with_reducible apply sqt_u; (with_reducible assumption))))); done)) | ((with_reducible apply SqL_id); first | ((first | (with_reducible apply SqL.of; (repeat (first | (with_reducible exact upd_same) | (with_reducible assumption) | (with_reducible apply hp_u; (with_reducible assumption)) | (with_reducible apply hp_s; (with_reducible assumption)) | (with_reducible apply hp_l; (with_reducible assumption); (with_reducible assumption)) | (with_reducible apply hp_k; (with_reducible assumption); (focus (repeat (first | (with_reducible assumption) | (with_reducible apply HandAt.s; (with_reducible assumption)) | (with_reducible apply HandAt.u; (with_reducible assumption))))); (with_unfolding_all exact rfl)))); done) | (repeat (first | (with_reducible assumption) | (with_reducible apply sql_s; (with_reducible assumption)) | (with_reducible apply sql_k; (with_reducible assumption); (with_reducible assumption)) | (with_reducible apply sql_u; (with_reducible assumption))))); done)) | ((with_reducible apply ho_id); first | ((repeat (first | (with_reducible exact upd_same) | (with_reducible assumption) | (with_reducible apply hp_u; (with_reducible assumption)) | (with_reducible apply hp_s; (with_reducible assumption)) | (with_reducible apply hp_l; (with_reducible assumption); (with_reducible assumption)) | (with_reducible apply hp_k; (with_reducible assumption); (focus (repeat (first | (with_reducible assumption) | (with_reducible apply HandAt.s; (with_reducible assumption)) | (with_reducible apply HandAt.u; (with_reducible assumption))))); (with_unfolding_all exact rfl)))); done))))
local macro_rules | `(tactic| walk_at "um") => `(tactic| (first | (with_reducible assumption) | ((with_reducible apply TQ_id); first | ((repeat (first | (with_reducible assumption) | (with_reducible apply TQ.s; (with_reducible assumption)) | (with_reducible apply TQ.kq; (with_reducible assumption); (focus (repeat (first | (with_reducible assumption) | (with_reducible apply HandAt.s; (with_reducible assumption)) | (with_reducible apply HandAt.u; (with_reducible assumption)))))) | (with_reducible apply TQ.u; (with_reducible assumption)))); done) | (with_reducible apply TQ.lit; (focus (repeat (first | (with_reducible exact upd_same) | (with_reducible assumption) | (with_reducible apply hp_u; (with_reducible assumption)) | (with_reducible apply hp_s; (with_reducible assumption)) | (with_reducible apply hp_l; (with_reducible assumption); (with_reducible assumption)) | (with_reducible apply hp_k; (with_reducible assumption); (focus (repeat (first | (with_reducible assumption) | (with_reducible apply HandAt.s; (with_reducible assumption)) | (with_reducible apply HandAt.u; (with_reducible assumption))))); (with_unfolding_all exact rfl))))); decide; decide; decide) | (with_reducible apply TQ.mono; with_reducible apply TQ.lit; (focus (repeat (first | (with_reducible exact upd_same) | (with_reducible assumption) | (with_reducible apply hp_u; (with_reducible assumption)) | (with_reducible apply hp_s; (with_reducible assumption)) | (with_reducible apply hp_l; (with_reducible assumption); (with_reducible assumption)) | (with_reducible apply hp_k; (with_reducible assumption); (focus (repeat (first | (with_reducible assumption) | (with_reducible apply HandAt.s; (with_reducible assumption)) | (with_reducible apply HandAt.u; (with_reducible assumption))))); (with_unfolding_all exact rfl))))); decide; decide; decide; omega) | (with_reducible apply TQ.mono; (focus (repeat (first | (with_reducible assumption) | (with_reducible apply TQ.s; (with_reducible assumption)) | (with_reducible apply TQ.kq; (with_reducible assumption); (focus (repeat (first | (with_reducible assumption) | (with_reducible apply HandAt.s; (with_reducible assumption)) | (with_reducible apply HandAt.u; (with_reducible assumption)))))) | (with_reducible apply TQ.u; (with_reducible assumption))))); omega)) | ((with_reducible apply Tqs_id); first | ((repeat (first | (with_reducible assumption) | (with_reducible apply Tqs.s; (with_reducible assumption)) | (with_reducible apply Tqs.kq; (with_reducible assumption); (focus (repeat (first | (with_reducible assumption) | (with_reducible apply HandAt.s; (with_reducible assumption)) | (with_reducible apply HandAt.u; (with_reducible assumption)))))) | (with_reducible apply Tqs.u; (with_reducible assumption)))); done) | (with_reducible apply Tqs.mono; (focus (repeat (first | (with_reducible assumption) | (with_reducible apply Tqs.s; (with_reducible assumption)) | (with_reducible apply Tqs.kq; (with_reducible assumption); (focus (repeat (first | (with_reducible assumption) | (with_reducible apply HandAt.s; (with_reducible assumption)) | (with_reducible apply HandAt.u; (with_reducible assumption)))))) | (with_reducible apply Tqs.u; (with_reducible assumption))))); omega)) | ((with_reducible apply QAt_id); first | ((repeat (first | (with_reducible assumption) | (with_reducible apply QAt.s; (with_reducible assumption)) | (with_reducible apply QAt.kq; (with_reducible assumption); (focus (repeat (first | (with_reducible assumption) | (with_reducible apply HandAt.s; (with_reducible assumption)) | (with_reducible apply HandAt.u; (with_reducible assumption)))))) | (with_reducible apply QAt.u; (with_reducible assumption)))); done) | (with_reducible apply QAt.mono; (focus (repeat (first | (with_reducible assumption) | (with_reducible apply QAt.s; (with_reducible assumption)) | (with_reducible apply QAt.kq; (with_reducible assumption); (focus (repeat (first | (with_reducible assumption) | (with_reducible apply HandAt.s; (with_reducible assumption)) | (with_reducible apply HandAt.u; (with_reducible assumption)))))) | (with_reducible apply QAt.u; (with_reducible assumption))))); omega) | ((repeat (first | assumption | (apply QAt.s; assumption) | (apply QAt.kq; assumption; (focus (repeat (first | (with_reducible assumption) | (with_reducible apply HandAt.s; (with_reducible assumption)) | (with_reducible apply HandAt.u; (with_reducible assumption)))))) | (with_reducible apply QAt.u; assumption))); done)) | ((with_reducible apply Mks_id); first | ((repeat (first | (with_reducible assumption) | (with_reducible apply Mks.s; (with_reducible assumption)) | (with_reducible apply Mks.kq; (with_reducible assumption); (focus (repeat (first | (with_reducible assumption) | (with_reducible apply HandAt.s; (with_reducible assumption)) | (with_reducible apply HandAt.u; (with_reducible assumption)))))) | (with_reducible apply Mks.u; (with_reducible assumption)))); done)) | ((with_reducible apply QO_id); first | ((repeat (first | (with_reducible assumption) | (with_reducible apply QO.s; (with_reducible assumption)) | (with_reducible apply QO.kq; (with_reducible assumption); (focus (repeat (first | (with_reducible assumption) | (with_reducible apply HandAt.s; (with_reducible assumption)) | (with_reducible apply HandAt.u; (with_reducible assumption)))))) | (with_reducible apply QO.u; (with_reducible assumption)))); done) | (with_reducible apply QO.monoR; (focus (repeat (first | (with_reducible assumption) | (with_reducible apply QO.s; (with_reducible assumption)) | (with_reducible apply QO.kq; (with_reducible assumption); (focus (repeat (first | (with_reducible assumption) | (with_reducible apply HandAt.s; (with_reducible assumption)) | (with_reducible apply HandAt.u; (with_reducible assumption)))))) | (with_reducible apply QO.u; (with_reducible assumption))))); omega)) | ((with_reducible apply TOq_id); first | ((repeat (first | (with_reducible assumption) | (with_reducible apply TOq.s; (with_reducible assumption)) | (with_reducible apply TOq.kq; (with_reducible assumption); (focus (repeat (first | (with_reducible assumption) | (with_reducible apply HandAt.s; (with_reducible assumption)) | (with_reducible apply HandAt.u; (with_reducible assumption)))))) | (with_reducible apply TOq.u; (with_reducible assumption)))); done) | (with_reducible apply TOq.monoR; (focus (repeat (first | (with_reducible assumption) | (with_reducible apply TOq.s; (with_reducible assumption)) | (with_reducible apply TOq.kq; (with_reducible assumption); (focus (repeat (first | (with_reducible assumption) | (with_reducible apply HandAt.s; (with_reducible assumption)) | (with_reducible apply HandAt.u; (with_reducible assumption)))))) | (with_reducible apply TOq.u; (with_reducible assumption))))); omega)) | ((with_reducible apply LadAt_id); first | ((repeat (first | (with_reducible assumption) | (with_reducible apply LadAt.s; (with_reducible assumption)) | (with_reducible apply LadAt.kq; (with_reducible assumption); (focus (repeat (first | (with_reducible assumption) | (with_reducible apply HandAt.s; (with_reducible assumption)) | (with_reducible apply HandAt.u; (with_reducible assumption)))))) | (with_reducible apply LadAt.u; (with_reducible assumption)))); done) | (with_reducible apply LadAt.mono; (focus (repeat (first | (with_reducible assumption) | (with_reducible apply LadAt.s; (with_reducible assumption)) | (with_reducible apply LadAt.kq; (with_reducible assumption); (focus (repeat (first | (with_reducible assumption) | (with_reducible apply HandAt.s; (with_reducible assumption)) | (with_reducible apply HandAt.u; (with_reducible assumption)))))) | (with_reducible apply LadAt.u; (with_reducible assumption))))); omega) | ((repeat (first | assumption | (apply LadAt.s; assumption) | (apply LadAt.kq; assumption; (focus (repeat (first | (with_reducible assumption) | (with_reducible apply HandAt.s; (with_reducible assumption)) | (with_reducible apply HandAt.u; (with_reducible assumption)))))) | (with_reducible apply LadAt.u; assumption))); done)) | ((with_reducible apply GrdAt_id); first | ((repeat (first | (with_reducible assumption) | (with_reducible apply GrdAt.s; (with_reducible assumption)) | (with_reducible apply GrdAt.kq; (with_reducible assumption); (focus (repeat (first | (with_reducible assumption) | (with_reducible apply HandAt.s; (with_reducible assumption)) | (with_reducible apply HandAt.u; (with_reducible assumption)))))) | (with_reducible apply GrdAt.u; (with_reducible assumption)))); done) | ((repeat (first | assumption | (apply GrdAt.s; assumption) | (apply GrdAt.kq; assumption; (focus (repeat (first | (with_reducible assumption) | (with_reducible apply HandAt.s; (with_reducible assumption)) | (with_reducible apply HandAt.u; (with_reducible assumption)))))) | (with_reducible apply GrdAt.u; assumption))); done)) | ((with_reducible apply SidesAt_id); first | ((repeat (first | (with_reducible assumption) | (with_reducible apply SidesAt.s; (with_reducible assumption)) | (with_reducible apply SidesAt.kq; (with_reducible assumption); (focus (repeat (first | (with_reducible assumption) | (with_reducible apply HandAt.s; (with_reducible assumption)) | (with_reducible apply HandAt.u; (with_reducible assumption)))))) | (with_reducible apply SidesAt.u; (with_reducible assumption)))); done)) | ((with_reducible apply ChartAt_id); first | ((repeat (first | (with_reducible assumption) | (with_reducible apply ChartAt.s; (with_reducible assumption)) | (with_reducible apply ChartAt.kq; (with_reducible assumption); (focus (repeat (first | (with_reducible assumption) | (with_reducible apply HandAt.s; (with_reducible assumption)) | (with_reducible apply HandAt.u; (with_reducible assumption)))))) | (with_reducible apply ChartAt.u; (with_reducible assumption)))); done)) | ((with_reducible apply HandAt_id); first | ((focus (repeat (first | (with_reducible assumption) | (with_reducible apply HandAt.s; (with_reducible assumption)) | (with_reducible apply HandAt.u; (with_reducible assumption))))); done) | (with_reducible apply HandAt.mono; (focus (focus (repeat (first | (with_reducible assumption) | (with_reducible apply HandAt.s; (with_reducible assumption)) | (with_reducible apply HandAt.u; (with_reducible assumption)))))); omega)) | ((with_reducible apply SqT_id); first | ((first | (with_reducible apply SqT.of; (repeat (first | (with_reducible exact upd_same) | (with_reducible assumption) | (with_reducible apply hp_u; (with_reducible assumption)) | (with_reducible apply hp_s; (with_reducible assumption)) | (with_reducible apply hp_l; (with_reducible assumption); (with_reducible assumption)) | (with_reducible apply hp_k; (with_reducible assumption); (focus (repeat (first | (with_reducible assumption) | (with_reducible apply HandAt.s; (with_reducible assumption)) | (with_reducible apply HandAt.u; (with_reducible assumption))))); (with_unfolding_all exact rfl)))); done) | (repeat (first | (with_reducible assumption) | (with_reducible apply sqt_s; (with_reducible assumption)) | (with_reducible apply sqt_k; (with_reducible assumption); (focus (repeat (first | (with_reducible assumption) | (with_reducible apply HandAt.s; (with_reducible assumption)) | (with_reducible apply HandAt.u; (with_reducible assumption)))))) | (with_reducible apply sqt_u; (with_reducible assumption))))); done)) | ((with_reducible apply SqL_id); first | ((first | (with_reducible apply SqL.of; (repeat (first | (with_reducible exact upd_same) | (with_reducible assumption) | (with_reducible apply hp_u; (with_reducible assumption)) | (with_reducible apply hp_s; (with_reducible assumption)) | (with_reducible apply hp_l; (with_reducible assumption); (with_reducible assumption)) | (with_reducible apply hp_k; (with_reducible assumption); (focus (repeat (first | (with_reducible assumption) | (with_reducible apply HandAt.s; (with_reducible assumption)) | (with_reducible apply HandAt.u; (with_reducible assumption))))); (with_unfolding_all exact rfl)))); done) | (repeat (first | (with_reducible assumption) | (with_reducible apply sql_s; (with_reducible assumption)) | (with_reducible apply sql_k; (with_reducible assumption); (with_reducible assumption)) | (with_reducible apply sql_u; (with_reducible assumption))))); done)) | ((with_reducible apply ho_id); first | ((repeat (first | (with_reducible exact upd_same) | (with_reducible assumption) | (with_reducible apply hp_u; (with_reducible assumption)) | (with_reducible apply hp_s; (with_reducible assumption)) | (with_reducible apply hp_l; (with_reducible assumption); (with_reducible assumption)) | (with_reducible apply hp_k; (with_reducible assumption); (focus (repeat (first | (with_reducible assumption) | (with_reducible apply HandAt.s; (with_reducible assumption)) | (with_reducible apply HandAt.u; (with_reducible assumption))))); (with_unfolding_all exact rfl)))); done))))
local macro_rules | `(tactic| walk_at "all") => `(tactic| first | with_reducible exact AllTQ.nil | (with_reducible apply AllTQ.app; walk_at "all"; walk_at "all") | (with_reducible apply AllTQ.cons; (focus ((with_reducible apply TQ_id); first | ((repeat (first | (with_reducible assumption) | (with_reducible apply TQ.s; (with_reducible assumption)) | (with_reducible apply TQ.kq; (with_reducible assumption); (focus (repeat (first | (with_reducible assumption) | (with_reducible apply HandAt.s; (with_reducible assumption)) | (with_reducible apply HandAt.u; (with_reducible assumption)))))) | (with_reducible apply TQ.u; (with_reducible assumption)))); done) | (with_reducible apply TQ.lit; (focus (repeat (first | (with_reducible exact upd_same) | (with_reducible assumption) | (with_reducible apply hp_u; (with_reducible assumption)) | (with_reducible apply hp_s; (with_reducible assumption)) | (with_reducible apply hp_l; (with_reducible assumption); (with_reducible assumption)) | (with_reducible apply hp_k; (with_reducible assumption); (focus (repeat (first | (with_reducible assumption) | (with_reducible apply HandAt.s; (with_reducible assumption)) | (with_reducible apply HandAt.u; (with_reducible assumption))))); (with_unfolding_all exact rfl))))); decide; decide; decide) | (with_reducible apply TQ.mono; with_reducible apply TQ.lit; (focus (repeat (first | (with_reducible exact upd_same) | (with_reducible assumption) | (with_reducible apply hp_u; (with_reducible assumption)) | (with_reducible apply hp_s; (with_reducible assumption)) | (with_reducible apply hp_l; (with_reducible assumption); (with_reducible assumption)) | (with_reducible apply hp_k; (with_reducible assumption); (focus (repeat (first | (with_reducible assumption) | (with_reducible apply HandAt.s; (with_reducible assumption)) | (with_reducible apply HandAt.u; (with_reducible assumption))))); (with_unfolding_all exact rfl))))); decide; decide; decide; omega) | (with_reducible apply TQ.mono; (focus (repeat (first | (with_reducible assumption) | (with_reducible apply TQ.s; (with_reducible assumption)) | (with_reducible apply TQ.kq; (with_reducible assumption); (focus (repeat (first | (with_reducible assumption) | (with_reducible apply HandAt.s; (with_reducible assumption)) | (with_reducible apply HandAt.u; (with_reducible assumption)))))) | (with_reducible apply TQ.u; (with_reducible assumption))))); omega))); walk_at "all"))
local macro_rules | `(tactic| walk_at "y1") => `(tactic| first | refine q_belowT (by (repeat (first | (with_reducible assumption) | (with_reducible apply QAt.s; (with_reducible assumption)) | (with_reducible apply QAt.kq; (with_reducible assumption); (focus (repeat (first | (with_reducible assumption) | (with_reducible apply HandAt.s; (with_reducible assumption)) | (with_reducible apply HandAt.u; (with_reducible assumption)))))) | (with_reducible apply QAt.u; (with_reducible assumption)))); done) (by (repeat (first | (with_reducible assumption) | (with_reducible apply QAt.s; (with_reducible assumption)) | (with_reducible apply QAt.kq; (with_reducible assumption); (focus (repeat (first | (with_reducible assumption) | (with_reducible apply HandAt.s; (with_reducible assumption)) | (with_reducible apply HandAt.u; (with_reducible assumption)))))) | (with_reducible apply QAt.u; (with_reducible assumption)))); done) (by omega) (by omega) ?_ | refine q_belowA (by (repeat (first | (with_reducible assumption) | (with_reducible apply QAt.s; (with_reducible assumption)) | (with_reducible apply QAt.kq; (with_reducible assumption); (focus (repeat (first | (with_reducible assumption) | (with_reducible apply HandAt.s; (with_reducible assumption)) | (with_reducible apply HandAt.u; (with_reducible assumption)))))) | (with_reducible apply QAt.u; (with_reducible assumption)))); done) (by (repeat (first | (with_reducible assumption) | (with_reducible apply QAt.s; (with_reducible assumption)) | (with_reducible apply QAt.kq; (with_reducible assumption); (focus (repeat (first | (with_reducible assumption) | (with_reducible apply HandAt.s; (with_reducible assumption)) | (with_reducible apply HandAt.u; (with_reducible assumption)))))) | (with_reducible apply QAt.u; (with_reducible assumption)))); done) (by omega) (by omega) ?_ | refine q_subT (by (repeat (first | (with_reducible assumption) | (with_reducible apply QAt.s; (with_reducible assumption)) | (with_reducible apply QAt.kq; (with_reducible assumption); (focus (repeat (first | (with_reducible assumption) | (with_reducible apply HandAt.s; (with_reducible assumption)) | (with_reducible apply HandAt.u; (with_reducible assumption)))))) | (with_reducible apply QAt.u; (with_reducible assumption)))); done) (by (repeat (first | (with_reducible assumption) | (with_reducible apply QAt.s; (with_reducible assumption)) | (with_reducible apply QAt.kq; (with_reducible assumption); (focus (repeat (first | (with_reducible assumption) | (with_reducible apply HandAt.s; (with_reducible assumption)) | (with_reducible apply HandAt.u; (with_reducible assumption)))))) | (with_reducible apply QAt.u; (with_reducible assumption)))); done) (by omega) (by omega) (by omega) ?_ | refine q_addT (by (repeat (first | (with_reducible assumption) | (with_reducible apply QAt.s; (with_reducible assumption)) | (with_reducible apply QAt.kq; (with_reducible assumption); (focus (repeat (first | (with_reducible assumption) | (with_reducible apply HandAt.s; (with_reducible assumption)) | (with_reducible apply HandAt.u; (with_reducible assumption)))))) | (with_reducible apply QAt.u; (with_reducible assumption)))); done) (by (repeat (first | (with_reducible assumption) | (with_reducible apply QAt.s; (with_reducible assumption)) | (with_reducible apply QAt.kq; (with_reducible assumption); (focus (repeat (first | (with_reducible assumption) | (with_reducible apply HandAt.s; (with_reducible assumption)) | (with_reducible apply HandAt.u; (with_reducible assumption)))))) | (with_reducible apply QAt.u; (with_reducible assumption)))); done) (by omega) (by omega) (by omega) ?_ | refine q_mulT (by (repeat (first | (with_reducible assumption) | (with_reducible apply QAt.s; (with_reducible assumption)) | (with_reducible apply QAt.kq; (with_reducible assumption); (focus (repeat (first | (with_reducible assumption) | (with_reducible apply HandAt.s; (with_reducible assumption)) | (with_reducible apply HandAt.u; (with_reducible assumption)))))) | (with_reducible apply QAt.u; (with_reducible assumption)))); done) (by (repeat (first | (with_reducible assumption) | (with_reducible apply QAt.s; (with_reducible assumption)) | (with_reducible apply QAt.kq; (with_reducible assumption); (focus (repeat (first | (with_reducible assumption) | (with_reducible apply HandAt.s; (with_reducible assumption)) | (with_reducible apply HandAt.u; (with_reducible assumption)))))) | (with_reducible apply QAt.u; (with_reducible assumption)))); done) (by omega) (by omega) (by omega) ?_ | refine meth_q (by (repeat (first | (with_reducible assumption) | (with_reducible apply QAt.s; (with_reducible assumption)) | (with_reducible apply QAt.kq; (with_reducible assumption); (focus (repeat (first | (with_reducible assumption) | (with_reducible apply HandAt.s; (with_reducible assumption)) | (with_reducible apply HandAt.u; (with_reducible assumption)))))) | (with_reducible apply QAt.u; (with_reducible assumption)))); done) (by decide +kernel) (by decide +kernel) ?_ | refine meth_l (by (repeat (first | (with_reducible assumption) | (with_reducible apply LadAt.s; (with_reducible assumption)) | (with_reducible apply LadAt.kq; (with_reducible assumption); (focus (repeat (first | (with_reducible assumption) | (with_reducible apply HandAt.s; (with_reducible assumption)) | (with_reducible apply HandAt.u; (with_reducible assumption)))))) | (with_reducible apply LadAt.u; (with_reducible assumption)))); done) (by decide +kernel) (by decide +kernel) (by decide +kernel) (by decide +kernel) ?_ | apply @Exists.intro V | apply @Exists.intro Int | apply @Exists.intro Addr | apply @Exists.intro Bool | apply @Exists.intro (List V) | apply @Exists.intro Str | apply @Exists.intro Nat | apply @Exists.intro (List (Str × V)) | apply @Exists.intro Q2 | apply @Exists.intro (List Q2) | apply @Exists.intro (Option Q2) | (apply And.intro; (focus (first | (with_reducible apply eq_id; apply Eq.refl) | (with_reducible assumption) | ((with_reducible apply TQ_id); first | ((repeat (first | (with_reducible assumption) | (with_reducible apply TQ.s; (with_reducible assumption)) | (with_reducible apply TQ.kq; (with_reducible assumption); (focus (repeat (first | (with_reducible assumption) | (with_reducible apply HandAt.s; (with_reducible assumption)) | (with_reducible apply HandAt.u; (with_reducible assumption)))))) | (with_reducible apply TQ.u; (with_reducible assumption)))); done) | (with_reducible apply TQ.lit; (focus (repeat (first | (with_reducible exact upd_same) | (with_reducible assumption) | (with_reducible apply hp_u; (with_reducible assumption)) | (with_reducible apply hp_s; (with_reducible assumption)) | (with_reducible apply hp_l; (with_reducible assumption); (with_reducible assumption)) | (with_reducible apply hp_k; (with_reducible assumption); (focus (repeat (first | (with_reducible assumption) | (with_reducible apply HandAt.s; (with_reducible assumption)) | (with_reducible apply HandAt.u; (with_reducible assumption))))); (with_unfolding_all exact rfl))))); decide; decide; decide) | (with_reducible apply TQ.mono; with_reducible apply TQ.lit; (focus (repeat (first | (with_reducible exact upd_same) | (with_reducible assumption) | (with_reducible apply hp_u; (with_reducible assumption)) | (with_reducible apply hp_s; (with_reducible assumption)) | (with_reducible apply hp_l; (with_reducible assumption); (with_reducible assumption)) | (with_reducible apply hp_k; (with_reducible assumption); (focus (repeat (first | (with_reducible assumption) | (with_reducible apply HandAt.s; (with_reducible assumption)) | (with_reducible apply HandAt.u; (with_reducible assumption))))); (with_unfolding_all exact rfl))))); decide; decide; decide; omega) | (with_reducible apply TQ.mono; (focus (repeat (first | (with_reducible assumption) | (with_reducible apply TQ.s; (with_reducible assumption)) | (with_reducible apply TQ.kq; (with_reducible assumption); (focus (repeat (first | (with_reducible assumption) | (with_reducible apply HandAt.s; (with_reducible assumption)) | (with_reducible apply HandAt.u; (with_reducible assumption)))))) | (with_reducible apply TQ.u; (with_reducible assumption))))); omega)) | ((with_reducible apply Tqs_id); first | ((repeat (first | (with_reducible assumption) | (with_reducible apply Tqs.s; (with_reducible assumption)) | (with_reducible apply Tqs.kq; (with_reducible assumption); (focus (repeat (first | (with_reducible assumption) | (with_reducible apply HandAt.s; (with_reducible assumption)) | (with_reducible apply HandAt.u; (with_reducible assumption)))))) | (with_reducible apply Tqs.u; (with_reducible assumption)))); done) | (with_reducible apply Tqs.mono; (focus (repeat (first | (with_reducible assumption) | (with_reducible apply Tqs.s; (with_reducible assumption)) | (with_reducible apply Tqs.kq; (with_reducible assumption); (focus (repeat (first | (with_reducible assumption) | (with_reducible apply HandAt.s; (with_reducible assumption)) | (with_reducible apply HandAt.u; (with_reducible assumption)))))) | (with_reducible apply Tqs.u; (with_reducible assumption))))); omega)) | ((with_reducible apply QAt_id); first | ((repeat (first | (with_reducible assumption) | (with_reducible apply QAt.s; (with_reducible assumption)) | (with_reducible apply QAt.kq; (with_reducible assumption); (focus (repeat (first | (with_reducible assumption) | (with_reducible apply HandAt.s; (with_reducible assumption)) | (with_reducible apply HandAt.u; (with_reducible assumption)))))) | (with_reducible apply QAt.u; (with_reducible assumption)))); done) | (with_reducible apply QAt.mono; (focus (repeat (first | (with_reducible assumption) | (with_reducible apply QAt.s; (with_reducible assumption)) | (with_reducible apply QAt.kq; (with_reducible assumption); (focus (repeat (first | (with_reducible assumption) | (with_reducible apply HandAt.s; (with_reducible assumption)) | (with_reducible apply HandAt.u; (with_reducible assumption)))))) | (with_reducible apply QAt.u; (with_reducible assumption))))); omega) | ((repeat (first | assumption | (apply QAt.s; assumption) | (apply QAt.kq; assumption; (focus (repeat (first | (with_reducible assumption) | (with_reducible apply HandAt.s; (with_reducible assumption)) | (with_reducible apply HandAt.u; (with_reducible assumption)))))) | (with_reducible apply QAt.u; assumption))); done)) | ((with_reducible apply Mks_id); first | ((repeat (first | (with_reducible assumption) | (with_reducible apply Mks.s; (with_reducible assumption)) | (with_reducible apply Mks.kq; (with_reducible assumption); (focus (repeat (first | (with_reducible assumption) | (with_reducible apply HandAt.s; (with_reducible assumption)) | (with_reducible apply HandAt.u; (with_reducible assumption)))))) | (with_reducible apply Mks.u; (with_reducible assumption)))); done)) | ((with_reducible apply QO_id); first | ((repeat (first | (with_reducible assumption) | (with_reducible apply QO.s; (with_reducible assumption)) | (with_reducible apply QO.kq; (with_reducible assumption); (focus (repeat (first | (with_reducible assumption) | (with_reducible apply HandAt.s; (with_reducible assumption)) | (with_reducible apply HandAt.u; (with_reducible assumption)))))) | (with_reducible apply QO.u; (with_reducible assumption)))); done) | (with_reducible apply QO.monoR; (focus (repeat (first | (with_reducible assumption) | (with_reducible apply QO.s; (with_reducible assumption)) | (with_reducible apply QO.kq; (with_reducible assumption); (focus (repeat (first | (with_reducible assumption) | (with_reducible apply HandAt.s; (with_reducible assumption)) | (with_reducible apply HandAt.u; (with_reducible assumption)))))) | (with_reducible apply QO.u; (with_reducible assumption))))); omega)) | ((with_reducible apply TOq_id); first | ((repeat (first | (with_reducible assumption) | (with_reducible apply TOq.s; (with_reducible assumption)) | (with_reducible apply TOq.kq; (with_reducible assumption); (focus (repeat (first | (with_reducible assumption) | (with_reducible apply HandAt.s; (with_reducible assumption)) | (with_reducible apply HandAt.u; (with_reducible assumption)))))) | (with_reducible apply TOq.u; (with_reducible assumption)))); done) | (with_reducible apply TOq.monoR; (focus (repeat (first | (with_reducible assumption) | (with_reducible apply TOq.s; (with_reducible assumption)) | (with_reducible apply TOq.kq; (with_reducible assumption); (focus (repeat (first | (with_reducible assumption) | (with_reducible apply HandAt.s; (with_reducible assumption)) | (with_reducible apply HandAt.u; (with_reducible assumption)))))) | (with_reducible apply TOq.u; (with_reducible assumption))))); omega)) | ((with_reducible apply LadAt_id); first | ((repeat (first | (with_reducible assumption) | (with_reducible apply LadAt.s; (with_reducible assumption)) | (with_reducible apply LadAt.kq; (with_reducible assumption); (focus (repeat (first | (with_reducible assumption) | (with_reducible apply HandAt.s; (with_reducible assumption)) | (with_reducible apply HandAt.u; (with_reducible assumption)))))) | (with_reducible apply LadAt.u; (with_reducible assumption)))); done) | (with_reducible apply LadAt.mono; (focus (repeat (first | (with_reducible assumption) | (with_reducible apply LadAt.s; (with_reducible assumption)) | (with_reducible apply LadAt.kq; (with_reducible assumption); (focus (repeat (first | (with_reducible assumption) | (with_reducible apply HandAt.s; (with_reducible assumption)) | (with_reducible apply HandAt.u; (with_reducible assumption)))))) | (with_reducible apply LadAt.u; (with_reducible assumption))))); omega) | ((repeat (first | assumption | (apply LadAt.s; assumption) | (apply LadAt.kq; assumption; (focus (repeat (first | (with_reducible assumption) | (with_reducible apply HandAt.s; (with_reducible assumption)) | (with_reducible apply HandAt.u; (with_reducible assumption)))))) | (with_reducible apply LadAt.u; assumption))); done)) | ((with_reducible apply GrdAt_id); first | ((repeat (first | (with_reducible assumption) | (with_reducible apply GrdAt.s; (with_reducible assumption)) | (with_reducible apply GrdAt.kq; (with_reducible assumption); (focus (repeat (first | (with_reducible assumption) | (with_reducible apply HandAt.s; (with_reducible assumption)) | (with_reducible apply HandAt.u; (with_reducible assumption)))))) | (with_reducible apply GrdAt.u; (with_reducible assumption)))); done) | ((repeat (first | assumption | (apply GrdAt.s; assumption) | (apply GrdAt.kq; assumption; (focus (repeat (first | (with_reducible assumption) | (with_reducible apply HandAt.s; (with_reducible assumption)) | (with_reducible apply HandAt.u; (with_reducible assumption)))))) | (with_reducible apply GrdAt.u; assumption))); done)) | ((with_reducible apply SidesAt_id); first | ((repeat (first | (with_reducible assumption) | (with_reducible apply SidesAt.s; (with_reducible assumption)) | (with_reducible apply SidesAt.kq; (with_reducible assumption); (focus (repeat (first | (with_reducible assumption) | (with_reducible apply HandAt.s; (with_reducible assumption)) | (with_reducible apply HandAt.u; (with_reducible assumption)))))) | (with_reducible apply SidesAt.u; (with_reducible assumption)))); done)) | ((with_reducible apply ChartAt_id); first | ((repeat (first | (with_reducible assumption) | (with_reducible apply ChartAt.s; (with_reducible assumption)) | (with_reducible apply ChartAt.kq; (with_reducible assumption); (focus (repeat (first | (with_reducible assumption) | (with_reducible apply HandAt.s; (with_reducible assumption)) | (with_reducible apply HandAt.u; (with_reducible assumption)))))) | (with_reducible apply ChartAt.u; (with_reducible assumption)))); done)) | ((with_reducible apply HandAt_id); first | ((focus (repeat (first | (with_reducible assumption) | (with_reducible apply HandAt.s; (with_reducible assumption)) | (with_reducible apply HandAt.u; (with_reducible assumption))))); done) | (with_reducible apply HandAt.mono; (focus (focus (repeat (first | (with_reducible assumption) | (with_reducible apply HandAt.s; (with_reducible assumption)) | (with_reducible apply HandAt.u; (with_reducible assumption)))))); omega)) | ((with_reducible apply SqT_id); first | ((first | (with_reducible apply SqT.of; (repeat (first | (with_reducible exact upd_same) | (with_reducible assumption) | (with_reducible apply hp_u; (with_reducible assumption)) | (with_reducible apply hp_s; (with_reducible assumption)) | (with_reducible apply hp_l; (with_reducible assumption); (with_reducible assumption)) | (with_reducible apply hp_k; (with_reducible assumption); (focus (repeat (first | (with_reducible assumption) | (with_reducible apply HandAt.s; (with_reducible assumption)) | (with_reducible apply HandAt.u; (with_reducible assumption))))); (with_unfolding_all exact rfl)))); done) | (repeat (first | (with_reducible assumption) | (with_reducible apply sqt_s; (with_reducible assumption)) | (with_reducible apply sqt_k; (with_reducible assumption); (focus (repeat (first | (with_reducible assumption) | (with_reducible apply HandAt.s; (with_reducible assumption)) | (with_reducible apply HandAt.u; (with_reducible assumption)))))) | (with_reducible apply sqt_u; (with_reducible assumption))))); done)) | ((with_reducible apply SqL_id); first | ((first | (with_reducible apply SqL.of; (repeat (first | (with_reducible exact upd_same) | (with_reducible assumption) | (with_reducible apply hp_u; (with_reducible assumption)) | (with_reducible apply hp_s; (with_reducible assumption)) | (with_reducible apply hp_l; (with_reducible assumption); (with_reducible assumption)) | (with_reducible apply hp_k; (with_reducible assumption); (focus (repeat (first | (with_reducible assumption) | (with_reducible apply HandAt.s; (with_reducible assumption)) | (with_reducible apply HandAt.u; (with_reducible assumption))))); (with_unfolding_all exact rfl)))); done) | (repeat (first | (with_reducible assumption) | (with_reducible apply sql_s; (with_reducible assumption)) | (with_reducible apply sql_k; (with_reducible assumption); (with_reducible assumption)) | (with_reducible apply sql_u; (with_reducible assumption))))); done)) | ((with_reducible apply ho_id); first | ((repeat (first | (with_reducible exact upd_same) | (with_reducible assumption) | (with_reducible apply hp_u; (with_reducible assumption)) | (with_reducible apply hp_s; (with_reducible assumption)) | (with_reducible apply hp_l; (with_reducible assumption); (with_reducible assumption)) | (with_reducible apply hp_k; (with_reducible assumption); (focus (repeat (first | (with_reducible assumption) | (with_reducible apply HandAt.s; (with_reducible assumption)) | (with_reducible apply HandAt.u; (with_reducible assumption))))); (with_unfolding_all exact rfl)))); done)) | ((with_reducible apply Kp_id); walk_at "k") | ((with_reducible apply Same_id); walk_at "s") | ((with_reducible apply sq2_id); first | (apply Or.inl; (first | (with_reducible apply SqL.of; (repeat (first | (with_reducible exact upd_same) | (with_reducible assumption) | (with_reducible apply hp_u; (with_reducible assumption)) | (with_reducible apply hp_s; (with_reducible assumption)) | (with_reducible apply hp_l; (with_reducible assumption); (with_reducible assumption)) | (with_reducible apply hp_k; (with_reducible assumption); (focus (repeat (first | (with_reducible assumption) | (with_reducible apply HandAt.s; (with_reducible assumption)) | (with_reducible apply HandAt.u; (with_reducible assumption))))); (with_unfolding_all exact rfl)))); done) | (repeat (first | (with_reducible assumption) | (with_reducible apply sql_s; (with_reducible assumption)) | (with_reducible apply sql_k; (with_reducible assumption); (with_reducible assumption)) | (with_reducible apply sql_u; (with_reducible assumption))))); done) | (apply Or.inr; (first | (with_reducible apply SqT.of; (repeat (first | (with_reducible exact upd_same) | (with_reducible assumption) | (with_reducible apply hp_u; (with_reducible assumption)) | (with_reducible apply hp_s; (with_reducible assumption)) | (with_reducible apply hp_l; (with_reducible assumption); (with_reducible assumption)) | (with_reducible apply hp_k; (with_reducible assumption); (focus (repeat (first | (with_reducible assumption) | (with_reducible apply HandAt.s; (with_reducible assumption)) | (with_reducible apply HandAt.u; (with_reducible assumption))))); (with_unfolding_all exact rfl)))); done) | (repeat (first | (with_reducible assumption) | (with_reducible apply sqt_s; (with_reducible assumption)) | (with_reducible apply sqt_k; (with_reducible assumption); (focus (repeat (first | (with_reducible assumption) | (with_reducible apply HandAt.s; (with_reducible assumption)) | (with_reducible apply HandAt.u; (with_reducible assumption)))))) | (with_reducible apply sqt_u; (with_reducible assumption))))); done)) | ((with_reducible apply AllTQ_id); walk_at "all") | ((with_reducible apply exT_id); exact ⟨_, by first | assumption | (apply SqT.of; (repeat (first | (with_reducible exact upd_same) | (with_reducible assumption) | (with_reducible apply hp_u; (with_reducible assumption)) | (with_reducible apply hp_s; (with_reducible assumption)) | (with_reducible apply hp_l; (with_reducible assumption); (with_reducible assumption)) | (with_reducible apply hp_k; (with_reducible assumption); (focus (repeat (first | (with_reducible assumption) | (with_reducible apply HandAt.s; (with_reducible assumption)) | (with_reducible apply HandAt.u; (with_reducible assumption))))); (with_unfolding_all exact rfl)))); done)⟩) | ((with_reducible apply exL_id); exact ⟨_, by first | assumption | (apply SqL.of; (repeat (first | (with_reducible exact upd_same) | (with_reducible assumption) | (with_reducible apply hp_u; (with_reducible assumption)) | (with_reducible apply hp_s; (with_reducible assumption)) | (with_reducible apply hp_l; (with_reducible assumption); (with_reducible assumption)) | (with_reducible apply hp_k; (with_reducible assumption); (focus (repeat (first | (with_reducible assumption) | (with_reducible apply HandAt.s; (with_reducible assumption)) | (with_reducible apply HandAt.u; (with_reducible assumption))))); (with_unfolding_all exact rfl)))); done)⟩) | with_reducible exact gf_lengths _ _ _ | with_reducible exact gf_breadths _ _ _ | with_reducible exact gf_grade _ _ _ | (first | (with_reducible apply eq_id; apply Eq.refl) | ((with_reducible apply ile_id); omega) | ((with_reducible apply ilt_id); omega) | ((with_reducible apply nle_id); omega) | ((with_reducible apply nlt_id); omega) | with_reducible assumption | with_reducible exact lf_marks _ _ _ _ | with_reducible exact lf_rule _ _ _ _ | with_reducible exact lf_least _ _ _ _ | with_reducible exact lf_most _ _ _ _ | with_reducible exact mf_top _ _ | with_reducible exact mf_bottom _ _ | with_reducible exact sf_low _ _ _ _ | with_reducible exact sf_high _ _ _ _ | with_reducible exact sf_low_in _ _ _ _ | with_reducible exact sf_high_in _ _ _ _ | exact SqL.of (by assumption) | exact SqT.of (by assumption) | exact Or.inl (SqL.of (by assumption)) | exact Or.inr (SqT.of (by assumption)) | exact Or.inr (by assumption) | exact Or.inl (by assumption) | omega | exact atI_nat (by assumption) | exact atI_of (n := 0) rfl (by assumption) | exact logS (by omega) | exact Or.inl (Or.inl ⟨by omega, by omega⟩) | exact Or.inl (Or.inr ⟨by omega, by omega⟩) | exact szb rfl | exact szs (by omega) | exact szl (by omega) | exact Or.inl ⟨Eq.refl _, _, SqL.of (by assumption)⟩ | exact ⟨_, SqT.of (by assumption)⟩ | exact ⟨_, SqL.of (by assumption)⟩ | exact ⟨by omega, by omega, by omega, by omega⟩) | (apply Eq.refl; done)))) | (with_reducible apply iteT) | (with_reducible apply iteF) | refine iteDT (by omega) ?_ | refine iteDF (by omega) ?_ | refine iteNS (by omega) ?_ | refine iteNT (by omega) ?_)
local macro_rules | `(tactic| walk_at "y") => `(tactic| repeat (walk_at "y1"))
local macro_rules | `(tactic| walk_at "pick") => `(tactic| (show sp_of _ [_, _] _ _ E0); refine of_tq (by (focus (repeat (first | (with_reducible assumption) | (with_reducible apply HandAt.s; (with_reducible assumption)) | (with_reducible apply HandAt.u; (with_reducible assumption)))))) (by omega) (by (first | (with_reducible apply SqL.of; (repeat (first | (with_reducible exact upd_same) | (with_reducible assumption) | (with_reducible apply hp_u; (with_reducible assumption)) | (with_reducible apply hp_s; (with_reducible assumption)) | (with_reducible apply hp_l; (with_reducible assumption); (with_reducible assumption)) | (with_reducible apply hp_k; (with_reducible assumption); (focus (repeat (first | (with_reducible assumption) | (with_reducible apply HandAt.s; (with_reducible assumption)) | (with_reducible apply HandAt.u; (with_reducible assumption))))); (with_unfolding_all exact rfl)))); done) | (repeat (first | (with_reducible assumption) | (with_reducible apply sql_s; (with_reducible assumption)) | (with_reducible apply sql_k; (with_reducible assumption); (with_reducible assumption)) | (with_reducible apply sql_u; (with_reducible assumption))))); done) (by first | with_reducible assumption | (with_reducible apply hand_ne; (with_reducible assumption); (focus (repeat (first | (with_reducible assumption) | (with_reducible apply HandAt.s; (with_reducible assumption)) | (with_reducible apply HandAt.u; (with_reducible assumption))))))) (Nat.le_of_ble_eq_true rfl) (Nat.le_of_ble_eq_true rfl) (by walk_at "all") ?_)


def sp_istup (K : PySem.W.Frag) : Sp := fun vs H Q _ => ∃ (a : Addr) (xs : List V) (n : Int), vs = [.ref a, .int n] ∧ SqT K H a xs ∧ Q (.bl (decide ((xs.length : Int) = n))) H
def sp_isnum : Sp := fun vs H Q _ => ∃ a b : Int, vs = [.int a, .int b] ∧ Q (.bl (decide (a = b))) H
def sp_isword : Sp := fun vs H Q _ => ∃ a b : Str, vs = [.str a, .str b] ∧ Q (.bl (decide (a = b))) H
def sp_arew (K : PySem.W.Frag) : Sp := fun vs H Q _ => ∃ (a : Addr) (ns : List Int), vs = [.ref a] ∧ SqT K H a (ns.map V.int) ∧ ns.length ≤ 900 ∧ ∀ H', Same H H' → Q (.bl true) H'
def sp_paperT (K : PySem.W.Frag) (CM CL CG : Addr) : Sp := fun vs H Q _ => ∃ (p F s t L1 L2 : Addr) (v : V) (i w j k m : Nat) (zs ys : List Q2) (g y : Q2) (us : List V) (fs : List (Q2 × Q2)) (q : Nat × Str) (f : Q2 × Q2), vs = [.ref p, .ref F, .ref s, .ref t, v] ∧ GC K CM CL CG H p j k L1 L2 zs ys g ∧ SqT K H t [.int (i : Int), .int (w : Int)] ∧ i < zs.length ∧ w < ys.length ∧ SqT K H F us ∧ Fts K CM H m us fs ∧ QAt CM H s m y ∧ 0 < m ∧ m ≤ 1000 ∧ fs.length ≤ 50 ∧
  PpV H v (i, w) q ∧ fs[q.1]? = some f ∧ q.2 ∈ brkP zs ys g y (i, w) f ∧ ∀ H', Same H H' → Q (.bl true) H'
def sp_papersT (K : PySem.W.Frag) (CM CL CG : Addr) : Sp := fun vs H Q _ => ∃ (p F s t L1 L2 : Addr) (j k m : Nat) (zs ys : List Q2) (g y : Q2) (us ws : List V) (fs : List (Q2 × Q2)), vs = [.ref p, .ref F, .ref s, .ref t] ∧ GC K CM CL CG H p j k L1 L2 zs ys g ∧ SqT K H F us ∧ Fts K CM H m us fs ∧ QAt CM H s m y ∧ 0 < m ∧ m ≤ 1000 ∧ fs.length ≤ 50 ∧
  SqT K H t ws ∧ Pps H ws (prs zs.length ys.length) (frstB zs ys g y fs) ∧ ∀ H', Same H H' → Q (.bl true) H'
/-- a thing that the looker is shown: what was told, or a pair -/
def ShowV (H : Hp) (v : V) (ps : List (Nat × Nat)) (F : Nat × Nat → Option (Nat × Str)) (b : Bool) : Prop :=
  (ToldV H v ps F (goodP ps F) ∧ b = true) ∨ ∃ T w pr, v = .ref T ∧ H T = some (.tup [.str "pair", w]) ∧ PrV H w pr ∧ b = decide (goodP ps F = some pr)
theorem ShowV.same {H H' : Hp} {v : V} {ps : List (Nat × Nat)} {F : Nat × Nat → Option (Nat × Str)} {b : Bool} (h : ShowV H v ps F b) (s : Same H H') : ShowV H' v ps F b := by
  rcases h with ⟨h, e⟩ | ⟨T, w, pr, e1, e2, e3, e4⟩
  · exact .inl ⟨h.same s, e⟩
  · exact .inr ⟨T, w, pr, e1, s _ _ e2, e3.same s, e4⟩
def sp_shows (K : PySem.W.Frag) (CM CL CG : Addr) : Sp := fun vs H Q _ => ∃ (p F s L1 L2 : Addr) (v : V) (j k m : Nat) (zs ys : List Q2) (g y : Q2) (us : List V) (fs : List (Q2 × Q2)) (b : Bool), vs = [.ref p, .ref F, .ref s, v] ∧ GC K CM CL CG H p j k L1 L2 zs ys g ∧ SqT K H F us ∧ Fts K CM H m us fs ∧ QAt CM H s m y ∧ 0 < m ∧ m ≤ 1000 ∧ fs.length ≤ 50 ∧
  ShowV H v (prs zs.length ys.length) (frstB zs ys g y fs) b ∧ ∀ H', Same H H' → Q (.bl b) H'
theorem fst_mem {zs ys : List Q2} {g y : Q2} {fs : List (Q2 × Q2)} {p : Nat × Nat} {q : Nat × Str} (h : frstB zs ys g y fs p = some q) : ∃ f, fs[q.1]? = some f ∧ q.2 ∈ brkP zs ys g y p f := by
  obtain ⟨i, r, e1, e2, e3⟩ := fstB_some h
  rw [Nat.zero_add] at e1
  subst e1
  rw [List.getElem?_map] at e2
  cases hf : fs[q.1]? with
  | none => rw [hf] at e2; cases e2
  | some f =>
    rw [hf] at e2
    cases e2
    exact ⟨f, rfl, List.mem_of_mem_head? e3⟩
theorem allT (n : Nat) : (List.replicate n true).all _root_.id = true := by
  induction n with
  | zero => rfl
  | succ n ih => rw [List.replicate_succ]; simpa using ih
theorem filT (n : Nat) : (List.replicate n (some (V.bl true))).filterMap _root_.id = (List.replicate n true).map V.bl := by
  induction n with
  | zero => rfl
  | succ n ih => rw [List.replicate_succ, List.replicate_succ]; simpa using ih
theorem inV_str {w : Str} {l : List Str} : inV (.str w) (l.map V.str) = decide (w ∈ l) := by
  unfold inV
  induction l with
  | nil => simp
  | cons a l ih =>
    rw [List.map_cons, List.any_cons, ih]
    have e : eqV (.str a) (.str w) = decide (w = a) := by
      show (a == w) = decide (w = a)
      by_cases h : w = a
      · subst h; simp
      · rw [decide_eq_false h]; exact beq_eq_false_iff_ne.mpr (fun z => h z.symm)
    rw [e]
    simp [List.mem_cons, Bool.decide_or]
theorem flat_strs (l : List Str) : (l.map V.str).all flatV = true := by
  induction l with
  | nil => rfl
  | cons a l ih => rw [List.map_cons, List.all_cons, ih]; rfl
/-- a pair as data -/
def prD (p : Nat × Nat) : PyData := intsD [(p.1 : Int), (p.2 : Int)]
theorem PrV.dp {K : PySem.W.Frag} {H : Hp} {v : V} {p : Nat × Nat} (h : PrV H v p) : Dp K H v (prD p) := by
  obtain ⟨T, rfl, h⟩ := h
  exact dpT (zs := [(p.1 : Int), (p.2 : Int)]) h
theorem prD_eq (p q : Nat × Nat) : PyData.eqv (prD p) (prD q) = decide (p = q) := by
  unfold prD
  rw [eqv_intsD]
  refine decide_eq_decide.mpr ⟨fun h => ?_, fun h => by rw [h]⟩
  have h1 := (List.cons.inj h).1
  have h2 := (List.cons.inj (List.cons.inj h).2).1
  exact Prod.ext (by omega) (by omega)

/-- a foot: a pair of fractions -/
def FtT (H : Hp) (m : Nat) (v : V) (f : Q2 × Q2) : Prop := ∃ T v1 v2, v = .ref T ∧ H T = some (.tup [v1, v2]) ∧ TQ H v1 m f.1 ∧ TQ H v2 m f.2
theorem FtT.same {H H' : Hp} {m : Nat} {v : V} {f : Q2 × Q2} (a : FtT H m v f) (s : Same H H') : FtT H' m v f := by
  obtain ⟨T, v1, v2, e, h, t1, t2⟩ := a
  exact ⟨T, v1, v2, e, s _ _ h, t1.same s, t2.same s⟩
theorem FtT.nl {H H' : Hp} {m : Nat} {v : V} {f : Q2 × Q2} (a : FtT H m v f) (s : Nl H H') : FtT H' m v f := by
  obtain ⟨T, v1, v2, e, h, t1, t2⟩ := a
  exact ⟨T, v1, v2, e, s _ _ h rfl, t1.nl s, t2.nl s⟩
theorem FtT.kp {H H' : Hp} {h : Addr} {n m : Nat} {v : V} {f : Q2 × Q2} (a : FtT H m v f) (hh : HandAt H h n) (s : Kp h H H') : FtT H' m v f := by
  obtain ⟨T, v1, v2, e, hT, t1, t2⟩ := a
  exact ⟨T, v1, v2, e, s.get hh hT rfl, t1.kp hh s, t2.kp hh s⟩
structure FtsT (H : Hp) (m : Nat) (us : List V) (fs : List (Q2 × Q2)) : Prop where
  len : us.length = fs.length
  all : ∀ (i : Nat) (v : V) (f : Q2 × Q2), us[i]? = some v → fs[i]? = some f → FtT H m v f
theorem FtsT.same {H H' : Hp} {m : Nat} {us : List V} {fs : List (Q2 × Q2)} (a : FtsT H m us fs) (s : Same H H') : FtsT H' m us fs := ⟨a.len, fun i v f h1 h2 => (a.all i v f h1 h2).same s⟩
theorem FtsT.nl {H H' : Hp} {m : Nat} {us : List V} {fs : List (Q2 × Q2)} (a : FtsT H m us fs) (s : Nl H H') : FtsT H' m us fs := ⟨a.len, fun i v f h1 h2 => (a.all i v f h1 h2).nl s⟩
theorem FtsT.kp {H H' : Hp} {h : Addr} {n m : Nat} {us : List V} {fs : List (Q2 × Q2)} (a : FtsT H m us fs) (hh : HandAt H h n) (s : Kp h H H') : FtsT H' m us fs := ⟨a.len, fun i v f h1 h2 => (a.all i v f h1 h2).kp hh s⟩
theorem FtsT.of {H : Hp} {m : Nat} {us : List V} {fs : List (Q2 × Q2)} (a : FtsT H m us fs) {i : Nat} {v : V} (h1 : us[i]? = some v) : ∃ f, fs[i]? = some f ∧ FtT H m v f := by
  have hi : i < fs.length := by rw [← a.len]; exact (List.getElem?_eq_some_iff.mp h1).1
  exact ⟨_, List.getElem?_eq_getElem hi, a.all i v _ h1 (List.getElem?_eq_getElem hi)⟩
theorem FtsT.snoc {H : Hp} {m : Nat} {us : List V} {fs : List (Q2 × Q2)} (a : FtsT H m us fs) {v : V} {f : Q2 × Q2} (t : FtT H m v f) : FtsT H m (us ++ [v]) (fs ++ [f]) := by
  refine ⟨by rw [List.length_append, List.length_append, a.len]; rfl, fun i w y h1 h2 => ?_⟩
  by_cases hi : i < us.length
  · rw [List.getElem?_append_left hi] at h1
    rw [List.getElem?_append_left (by rw [← a.len]; exact hi)] at h2
    exact a.all i w y h1 h2
  · have l1 := (List.getElem?_eq_some_iff.mp h1).1
    rw [List.length_append, List.length_singleton] at l1
    have e : i = us.length := by omega
    rw [e, List.getElem?_append_right (Nat.le_refl _), Nat.sub_self] at h1
    rw [e, a.len, List.getElem?_append_right (Nat.le_refl _), Nat.sub_self] at h2
    cases h1; cases h2
    exact t
def sp_feetof (K : PySem.W.Frag) (c : Nat) : Sp := fun vs H Q _ => ∃ (h p : Addr) (s : V) (n k : Nat) (zs ys : List Q2) (g y : Q2), vs = [.ref h, .ref p, s] ∧ HandAt H h n ∧ n < 5000 ∧ SidesAt H h p k zs ys g ∧ TQ H s 20 y ∧ 0 < k ∧ k ≤ 900 ∧
  ∀ (l : Addr) (us : List V) (fs : List (Q2 × Q2)) (H' : Hp), HandAt H' h (n + 100) → Kp h H H' → l ≠ h → H' l = some (.lst us) → FtsT H' (k + 80) us fs → 0 < fs.length → fs.length ≤ c → Q (.ref l) H'

def sp_fitting (K : PySem.W.Frag) (CM CL : Addr) : Sp := fun vs H Q _ => ∃ (p F s : Addr) (t : V) (k j : Nat) (fs : List V) (zs : List Q2) (r : Str) (lo hi : Option Q2) (xs : List Q2) (y : Q2) (e : Option Q2), vs = [.ref p, .ref F, .ref s, t] ∧ LadAt K CM CL H p k zs r lo hi ∧ SqT K H F fs ∧ Mks CM H j fs xs ∧ QAt CM H s j y ∧ QO CM H j t e ∧ 0 < k ∧ k ≤ 4000 ∧ 0 < j ∧ j ≤ 4000 ∧ xs.length ≤ 100 ∧
  ∀ (D : Addr) (H' : Hp), Same H H' → FitsL H' D (fitL zs xs y (e.getD (0, 1))) → Q (.ref D) H'
def sp_bare : Sp := fun vs H Q _ => ∃ (D : Addr) (ls : List (List Int)), vs = [.ref D] ∧ FitsL H D ls ∧ ls.length ≤ 100 ∧ (∀ l ∈ ls, l.length ≤ 24) ∧ ∀ o H', Same H H' → BareAt ls o → Q (optI o) H'
def sp_few : Sp := fun vs H Q _ => ∃ (D : Addr) (ls : List (List Int)), vs = [.ref D] ∧ FitsL H D ls ∧ ls.length ≤ 60 ∧ (∀ l ∈ ls, l.length ≤ 24) ∧ RunsI ls ∧
  ∀ (T S A : Addr) (ss as : List Int) (H' : Hp), Same H H' → H' T = some (.tup [.ref S, .ref A]) → H' S = some (.tup (ss.map V.int)) → H' A = some (.tup (as.map V.int)) → Few ls ss as → Q (.ref T) H'
/-- what stock_for tells -/
def StockV (H : Hp) (T : Addr) (ls : List (List Int)) : Prop :=
  (∃ n : Nat, BareAt ls (some n) ∧ H T = some (.tup [.str "never", .int (n : Int)])) ∨ (BareAt ls none ∧ ∃ (S A : Addr) (ss as : List Int), H T = some (.tup [.str "stock", .ref S, .ref A]) ∧ H S = some (.tup (ss.map V.int)) ∧ H A = some (.tup (as.map V.int)) ∧ Few ls ss as)
theorem StockV.same {H H' : Hp} {T : Addr} {ls : List (List Int)} (a : StockV H T ls) (s : Same H H') : StockV H' T ls := by
  rcases a with ⟨n, h1, h2⟩ | ⟨h0, S, A, ss, as, h1, h2, h3, h4⟩
  · exact .inl ⟨n, h1, s _ _ h2⟩
  · exact .inr ⟨h0, S, A, ss, as, s _ _ h1, s _ _ h2, s _ _ h3, h4⟩
def sp_stockfor (K : PySem.W.Frag) (CM CL : Addr) : Sp := fun vs H Q _ => ∃ (p F s : Addr) (t : V) (k j : Nat) (fs : List V) (zs : List Q2) (r : Str) (lo hi : Option Q2) (xs : List Q2) (y : Q2) (e : Option Q2), vs = [.ref p, .ref F, .ref s, t] ∧ LadAt K CM CL H p k zs r lo hi ∧ SqT K H F fs ∧ Mks CM H j fs xs ∧ QAt CM H s j y ∧ QO CM H j t e ∧ 0 < k ∧ k ≤ 4000 ∧ 0 < j ∧ j ≤ 4000 ∧ xs.length ≤ 60 ∧
  ∀ (T : Addr) (H' : Hp), Same H H' → StockV H' T (fitL zs xs y (e.getD (0, 1))) → Q (.ref T) H'
/-- the pair that stands there -/
def kPr (H : Hp) : V → Int × Int
  | .ref t => match H t with
    | some (.tup [.int a, .int b]) => (a, b)
    | _ => (0, 0)
  | _ => (0, 0)
theorem kPr_eq {H : Hp} {t : Addr} {a b : Int} (h : H t = some (.tup [.int a, .int b])) : kPr H (.ref t) = (a, b) := by
  simp only [kPr, h]
theorem fitL_len {zs xs : List Q2} {s t : Q2} : ∀ l ∈ fitL zs xs s t, l.length ≤ zs.length := fun l hl => by
  unfold fitL at hl
  obtain ⟨x, _, rfl⟩ := List.mem_map.mp hl
  exact idx_len
theorem getD_get {α : Type} {ls : List (List α)} {i : Nat} {l : List α} (h : ls[i]? = some l) : ls.getD i [] = l := by
  rw [List.getD_eq_getElem?_getD, h]; rfl
theorem first_at {ls : List (List Int)} {i : Nat} {x : Int} {l : List Int} (h : ls[i]? = some (x :: l)) : firstI ls (i : Int) = x := by
  unfold firstI
  rw [Int.toNat_natCast, getD_get h]; rfl
theorem last_at {ls : List (List Int)} {i : Nat} {l : List Int} {x : Int} (h : ls[i]? = some l) (g : l.getLast? = some x) : lastI ls (i : Int) = x := by
  unfold lastI
  rw [Int.toNat_natCast, getD_get h, g]; rfl

def lotsL : Nat → List (List Int)
  | 0 => [[]]
  | n + 1 => lotsL n ++ (lotsL n).map (· ++ [(n : Int)])
theorem lots_len : ∀ n, (lotsL n).length = 2 ^ n
  | 0 => rfl
  | n + 1 => by
    show (lotsL n ++ (lotsL n).map (· ++ [(n : Int)])).length = 2 ^ (n + 1)
    rw [List.length_append, List.length_map, lots_len n, Nat.pow_succ]
    omega
theorem lots_mem : ∀ n, ∀ l ∈ lotsL n, l.length ≤ n
  | 0, l, h => by
    have : l = [] := by simpa [lotsL] using h
    rw [this]; exact Nat.le_refl _
  | n + 1, l, h => by
    have h : l ∈ lotsL n ++ (lotsL n).map (· ++ [(n : Int)]) := h
    rcases List.mem_append.mp h with h | h
    · have := lots_mem n l h
      omega
    · obtain ⟨l', h', rfl⟩ := List.mem_map.mp h
      have := lots_mem n l' h'
      rw [List.length_append, List.length_singleton]
      omega
theorem FitsL.app {H : Hp} {D : Addr} {ls ms : List (List Int)} {ts ws : List V} (h : H D = some (.lst (ts ++ ws))) (l1 : ts.length = ls.length) (l2 : ws.length = ms.length) (a : ∀ (i : Nat) (v : V) (l : List Int), ts[i]? = some v → ls[i]? = some l → ∃ T, v = .ref T ∧ H T = some (.tup (l.map V.int))) (b : ∀ (i : Nat) (v : V) (l : List Int), ws[i]? = some v → ms[i]? = some l → ∃ T, v = .ref T ∧ H T = some (.tup (l.map V.int))) : FitsL H D (ls ++ ms) := by
  refine ⟨ts ++ ws, h, by rw [List.length_append, List.length_append, l1, l2], fun i v l e1 e2 => ?_⟩
  by_cases q : i < ts.length
  · rw [List.getElem?_append_left q] at e1
    rw [List.getElem?_append_left (by omega)] at e2
    exact a i v l e1 e2
  · rw [List.getElem?_append_right (by omega)] at e1
    rw [List.getElem?_append_right (by omega), ← l1] at e2
    exact b _ v l e1 e2
theorem apart_le {ls : List (List Int)} : ∀ {as lot : List Int}, as.Pairwise (fun a b => lastI ls a < firstI ls b ∨ lastI ls b < firstI ls a) → (∀ a ∈ as, ∃ s ∈ lot, firstI ls a ≤ s ∧ s ≤ lastI ls a) → as.length ≤ lot.length
  | [], _, _, _ => Nat.zero_le _
  | a :: as, lot, hp, hh => by
    obtain ⟨s, hs, h1, h2⟩ := hh a (by simp)
    obtain ⟨ha, hp'⟩ := List.pairwise_cons.mp hp
    have ih := apart_le (ls := ls) (as := as) (lot := lot.erase s) hp' fun b hb => by
      obtain ⟨s', hs', g1, g2⟩ := hh b (by simp [hb])
      refine ⟨s', ?_, g1, g2⟩
      have ne : s' ≠ s := fun q => by
        subst q
        rcases ha b hb with z | z <;> omega
      exact (List.mem_erase_of_ne ne).mpr hs'
    rw [List.length_erase_of_mem hs] at ih
    have : 0 < lot.length := List.length_pos_of_mem hs
    rw [List.length_cons]
    omega
/-- no lot that hits all runs is of fewer sizes -/
theorem Few.le {ls : List (List Int)} {ss as lot : List Int} (f : Few ls ss as) (h : ∀ i : Nat, i < ls.length → ∃ s ∈ lot, firstI ls i ≤ s ∧ s ≤ lastI ls i) : ss.length ≤ lot.length := by
  rw [f.len]
  refine apart_le (ls := ls) (List.pairwise_iff_getElem.mpr fun i j hi hj hij => ?_) fun a ha => ?_
  · refine f.apart _ (List.getElem_mem hi) _ (List.getElem_mem hj) fun q => ?_
    have := f.arise.lt hij (List.getElem?_eq_getElem hi) (List.getElem?_eq_getElem hj)
    omega
  · obtain ⟨i, rfl, hi⟩ := f.mem a ha
    exact h i hi
theorem rise_last {ss : List Int} (h : RiseI ss) {m : Int} (hm : ss.getLast? = some m) : ∀ (j : Nat) (s : Int), ss[j]? = some s → s ≤ m := fun j s hs => by
  have l := (List.getElem?_eq_some_iff.mp hs).1
  have hl : ss[ss.length - 1]? = some m := by rw [← List.getLast?_eq_getElem?]; exact hm
  by_cases q : j = ss.length - 1
  · rw [q, hl] at hs
    cases hs
    exact Int.le_refl _
  · exact Int.le_of_lt (h.lt (show j < ss.length - 1 by omega) hs hl)
/-- rising sizes are one of all lots -/
theorem lots_has : ∀ (n : Nat) (ss : List Int), RiseI ss → (∀ s ∈ ss, 0 ≤ s ∧ s < (n : Int)) → ss ∈ lotsL n
  | 0, ss, _, hb => by
    cases ss with
    | nil => simp [lotsL]
    | cons s ss => have := hb s (by simp); omega
  | n + 1, ss, hr, hb => by
    show ss ∈ lotsL n ++ (lotsL n).map (· ++ [(n : Int)])
    cases e : ss.getLast? with
    | none =>
      have : ss = [] := List.getLast?_eq_none_iff.mp e
      subst this
      exact List.mem_append.mpr (.inl (lots_has n [] (fun i a b h => by simp at h) fun s h => by simp at h))
    | some m =>
      have hm := hb m (List.mem_of_getLast? e)
      have le := rise_last hr e
      by_cases q : m = (n : Int)
      · subst q
        obtain ⟨pre, epre⟩ : ∃ pre, ss = pre ++ [(n : Int)] := by
          have := List.getLast?_eq_some_iff.mp e
          exact this
        subst epre
        refine List.mem_append.mpr (.inr (List.mem_map.mpr ⟨pre, lots_has n pre (fun i a b h1 h2 => ?_) (fun s hs => ?_), rfl⟩))
        · have l2 := (List.getElem?_eq_some_iff.mp h2).1
          exact hr i a b (by rw [List.getElem?_append_left (by omega)]; exact h1) (by rw [List.getElem?_append_left l2]; exact h2)
        · obtain ⟨j, hj⟩ := List.mem_iff_getElem?.mp hs
          have lj := (List.getElem?_eq_some_iff.mp hj).1
          have h1 : (pre ++ [(n : Int)])[j]? = some s := by rw [List.getElem?_append_left lj]; exact hj
          have h2 : (pre ++ [(n : Int)])[pre.length]? = some (n : Int) := by simp
          have := hr.lt lj h1 h2
          exact ⟨(hb s (by simp [hs])).1, this⟩
      · refine List.mem_append.mpr (.inl (lots_has n ss hr fun s hs => ?_))
        obtain ⟨j, hj⟩ := List.mem_iff_getElem?.mp hs
        have := le j s hj
        have := hb s hs
        omega
theorem flat_ints (l : List Int) : (l.map V.int).all flatV = true := by
  rw [List.all_eq_true]
  intro v hv
  obtain ⟨z, _, rfl⟩ := List.mem_map.mp hv
  rfl
theorem inV_ints (s : Int) (l : List Int) : inV (.int s) (l.map V.int) = decide (s ∈ l) := by
  rw [Bool.eq_iff_iff, decide_eq_true_iff]
  unfold inV
  rw [List.any_eq_true]
  constructor
  · rintro ⟨v, hv, q⟩
    obtain ⟨z, hz, rfl⟩ := List.mem_map.mp hv
    have : z = s := by
      have q : eqV (.int z) (.int s) = true := q
      simpa [eqV] using q
    rw [← this]; exact hz
  · intro h
    exact ⟨.int s, List.mem_map.mpr ⟨_, h, rfl⟩, by simp [eqV]⟩
/-- each is a run of numbers below n -/
def RunsC (ls : List (List Int)) (n : Nat) : Prop := ∀ (i : Nat) (l : List Int), ls[i]? = some l → ∃ a m : Nat, a + m + 1 ≤ n ∧ l = (List.range' a (m + 1)).map (fun k : Nat => (k : Int))
theorem RunsC.at {ls : List (List Int)} {n i : Nat} {l : List Int} (h : RunsC ls n) (e : ls[i]? = some l) : 0 ≤ firstI ls i ∧ lastI ls i < (n : Int) ∧ firstI ls i ≤ lastI ls i ∧ ∀ x : Int, x ∈ l ↔ firstI ls i ≤ x ∧ x ≤ lastI ls i := by
  obtain ⟨a, m, h1, rfl⟩ := h i l e
  have f : firstI ls (i : Int) = (a : Int) := first_at (l := (List.range' (a + 1) m).map (fun k : Nat => (k : Int))) (by rw [e, List.range'_succ]; rfl)
  have g : lastI ls (i : Int) = ((a + m : Nat) : Int) := last_at e (by rw [List.getLast?_eq_getElem?, List.length_map, List.length_range', List.getElem?_map, List.getElem?_range' (by omega)]; simp)
  rw [f, g]
  refine ⟨by omega, by omega, by omega, fun x => ?_⟩
  rw [List.mem_map]
  constructor
  · rintro ⟨k, hk, rfl⟩
    have := List.mem_range'_1.mp hk
    omega
  · rintro ⟨h2, h3⟩
    exact ⟨x.toNat, List.mem_range'_1.mpr (by omega), by omega⟩
/-- a lot that hits all -/
def goodB (ls : List (List Int)) (lot : List Int) : Bool := ls.all fun l => lot.any fun s => decide (s ∈ l)
theorem good_iff {ls : List (List Int)} {n : Nat} (h : RunsC ls n) {lot : List Int} : goodB ls lot = true ↔ ∀ i : Nat, i < ls.length → ∃ s ∈ lot, firstI ls i ≤ s ∧ s ≤ lastI ls i := by
  unfold goodB
  rw [List.all_eq_true]
  constructor
  · intro g i hi
    have e : ls[i]? = some ls[i] := List.getElem?_eq_getElem hi
    have := g _ (List.mem_of_getElem? e)
    rw [List.any_eq_true] at this
    obtain ⟨s, hs, q⟩ := this
    exact ⟨s, hs, ((h.at e).2.2.2 s).mp (of_decide_eq_true q)⟩
  · intro g l hl
    obtain ⟨i, e⟩ := List.mem_iff_getElem?.mp hl
    obtain ⟨s, hs, q⟩ := g i (List.getElem?_eq_some_iff.mp e).1
    rw [List.any_eq_true]
    exact ⟨s, hs, decide_eq_true (((h.at e).2.2.2 s).mpr q)⟩
def keepV (p : List Int → Bool) (ts : List V) (ls : List (List Int)) : List (Option V) := List.zipWith (fun (t : V) (l : List Int) => if p l then some t else none) ts ls
theorem keepV_at {p : List Int → Bool} {ts : List V} {ls : List (List Int)} {i : Nat} {t : V} {l : List Int} (h1 : ts[i]? = some t) (h2 : ls[i]? = some l) : (keepV p ts ls)[i]? = some (if p l then some t else none) := by
  unfold keepV
  rw [List.getElem?_zipWith, h1, h2]
theorem keepV_len {p : List Int → Bool} {ts : List V} {ls : List (List Int)} (h : ts.length = ls.length) : (keepV p ts ls).length = ts.length := by
  unfold keepV
  rw [List.length_zipWith]; omega
theorem keep_all {H : Hp} (p : List Int → Bool) : ∀ {ts : List V} {ls : List (List Int)}, ts.length = ls.length → (∀ (i : Nat) (v : V) (l : List Int), ts[i]? = some v → ls[i]? = some l → ∃ T, v = .ref T ∧ H T = some (.tup (l.map V.int))) →
    ((keepV p ts ls).filterMap _root_.id).length = (ls.filter p).length ∧ ∀ (i : Nat) (v : V) (l : List Int), ((keepV p ts ls).filterMap _root_.id)[i]? = some v → (ls.filter p)[i]? = some l → ∃ T, v = .ref T ∧ H T = some (.tup (l.map V.int))
  | [], [], _, _ => ⟨rfl, fun i v l e1 e2 => by simp at e2⟩
  | [], _ :: _, h, _ => by simp at h
  | _ :: _, [], h, _ => by simp at h
  | t :: ts, l :: ls, h, hh => by
    obtain ⟨g1, g2⟩ := keep_all (H := H) p (ts := ts) (ls := ls) (by simpa using h) fun i v l e1 e2 => hh (i + 1) v l (by simpa using e1) (by simpa using e2)
    have e : keepV p (t :: ts) (l :: ls) = (if p l then some t else none) :: keepV p ts ls := rfl
    rw [e, List.filter_cons]
    by_cases q : p l = true
    · rw [if_pos q, if_pos q, List.filterMap_cons]
      refine ⟨by show (_ :: _).length = _; rw [List.length_cons, List.length_cons, g1], fun i v l' e1 e2 => ?_⟩
      cases i with
      | zero => exact hh 0 v l' e1 e2
      | succ i => exact g2 i v l' e1 (by simpa using e2)
    · rw [if_neg q, if_neg q, List.filterMap_cons]
      exact ⟨g1, g2⟩
theorem FitsL.filt {H : Hp} {D : Addr} (p : List Int → Bool) {ts : List V} {ls : List (List Int)} (lt : ts.length = ls.length) (hts : ∀ (i : Nat) (v : V) (l : List Int), ts[i]? = some v → ls[i]? = some l → ∃ T, v = .ref T ∧ H T = some (.tup (l.map V.int))) (h : H D = some (.lst ((keepV p ts ls).filterMap _root_.id))) : FitsL H D (ls.filter p) :=
  ⟨_, h, (keep_all p lt hts).1, (keep_all p lt hts).2⟩
theorem any_list (ls : List (List Int)) (x : List Int) : ((ls.map fun l => intsD l).any fun z => PyData.eqv z (intsD x)) = decide (x ∈ ls) := by
  rw [Bool.eq_iff_iff, decide_eq_true_iff, List.any_eq_true]
  constructor
  · rintro ⟨z, hz, e⟩
    obtain ⟨l, hl, rfl⟩ := List.mem_map.mp hz
    rw [eqv_intsD] at e
    rw [← of_decide_eq_true e]; exact hl
  · intro h
    exact ⟨intsD x, List.mem_map.mpr ⟨x, h, rfl⟩, by rw [eqv_intsD]; exact decide_eq_true rfl⟩
theorem few_good {ls : List (List Int)} {ss as : List Int} {n : Nat} (C : RunsC ls n) (f : Few ls ss as) : ss ∈ (lotsL n).filter (goodB ls) := by
  rw [List.mem_filter]
  refine ⟨lots_has n ss f.rise fun s hs => ?_, (good_iff C).mpr f.hit⟩
  obtain ⟨i, hi, e⟩ := f.own s hs
  have := C.at (List.getElem?_eq_getElem hi)
  omega
theorem few_min {ls : List (List Int)} {ss as : List Int} {n : Nat} (C : RunsC ls n) (f : Few ls ss as) {m : Int} (hm : m ∈ ((lotsL n).filter (goodB ls)).map fun l => (l.length : Int)) (hmin : ∀ y, y ∈ ((lotsL n).filter (goodB ls)).map (fun l => (l.length : Int)) → m ≤ y) : m = (ss.length : Int) := by
  have h1 := hmin _ (List.mem_map.mpr ⟨ss, few_good C f, rfl⟩)
  obtain ⟨l, hl, rfl⟩ := List.mem_map.mp hm
  have h2 := Few.le f ((good_iff C).mp (List.mem_filter.mp hl).2)
  omega
theorem rise_pw : ∀ {l : List Int}, RiseI l → l.Pairwise (· < ·) := fun {l} h => List.pairwise_iff_getElem.mpr fun i j hi hj hij => h.lt hij (List.getElem?_eq_getElem hi) (List.getElem?_eq_getElem hj)
theorem pw_eq : ∀ {a b : List Int}, a.Pairwise (· < ·) → b.Pairwise (· < ·) → (∀ x, x ∈ a ↔ x ∈ b) → a = b
  | [], [], _, _, _ => rfl
  | [], y :: b, _, _, h => by have := (h y).mpr (by simp); simp at this
  | x :: a, [], _, _, h => by have := (h x).mp (by simp); simp at this
  | x :: a, y :: b, ha, hb, h => by
    obtain ⟨xa, ha2⟩ := List.pairwise_cons.mp ha
    obtain ⟨yb, hb2⟩ := List.pairwise_cons.mp hb
    have e : x = y := by
      have h1 := (h x).mp (by simp)
      have h2 := (h y).mpr (by simp)
      rcases List.mem_cons.mp h1 with q | q
      · exact q
      · rcases List.mem_cons.mp h2 with q2 | q2
        · exact q2.symm
        · have := yb x q; have := xa y q2; omega
    subst e
    refine congrArg (List.cons x) (pw_eq ha2 hb2 fun z => ?_)
    constructor
    · intro hz
      rcases List.mem_cons.mp ((h z).mp (by simp [hz])) with q | q
      · subst q; have := xa z hz; omega
      · exact q
    · intro hz
      rcases List.mem_cons.mp ((h z).mpr (by simp [hz])) with q | q
      · subst q; have := yb z hz; omega
      · exact q
theorem apart_no {ls : List (List Int)} {n i j : Nat} {l m : List Int} (C : RunsC ls n) (h1 : ls[i]? = some l) (h2 : ls[j]? = some m) (h : lastI ls i < firstI ls j ∨ lastI ls j < firstI ls i) : (l.any fun s => decide (s ∈ m)) = false := by
  rw [Bool.eq_false_iff]
  intro q
  rw [List.any_eq_true] at q
  obtain ⟨s, hs, q⟩ := q
  have a1 := ((C.at h1).2.2.2 s).mp hs
  have a2 := ((C.at h2).2.2.2 s).mp (of_decide_eq_true q)
  omega
theorem map_any (l : List Int) (p : Int → Bool) : (l.map p).any _root_.id = l.any p := by
  rw [List.any_map]; rfl
theorem fmap_some {α β : Type} (f : α → β) (l : List α) : (l.map fun x => some (f x)).filterMap _root_.id = l.map f := by
  rw [List.filterMap_map]
  induction l with
  | nil => rfl
  | cons x l ih => rw [List.filterMap_cons, List.map_cons, ← ih]; rfl

def belB (ns : List Int) (n : Int) : Bool := ns.all fun z => decide (0 ≤ z) && decide (z < n)
def risB : List Int → Bool
  | [] => true
  | [_] => true
  | x :: y :: r => decide (x < y) && risB (y :: r)
def shrB (xs ys : List Int) : Bool := xs.any fun z => decide (z ∈ ys)
/-- each is a run of numbers below n -/
def sp_abel (K : PySem.W.Frag) : Sp := fun vs H Q _ => ∃ (a : Addr) (ns : List Int) (n : Int), vs = [.ref a, .int n] ∧ SqT K H a (ns.map V.int) ∧ ns.length ≤ 900 ∧ ∀ H', Same H H' → Q (.bl (belB ns n)) H'
def sp_rising (K : PySem.W.Frag) : Sp := fun vs H Q _ => ∃ (a : Addr) (ns : List Int) (n : Int), vs = [.ref a, .int n] ∧ SqT K H a (ns.map V.int) ∧ ns.length ≤ 900 ∧ ∀ H', Same H H' → Q (.bl (belB ns n && risB ns)) H'
def sp_shares (K : PySem.W.Frag) : Sp := fun vs H Q _ => ∃ (a b : Addr) (xs ys : List Int), vs = [.ref a, .ref b] ∧ SqT K H a (xs.map V.int) ∧ SqT K H b (ys.map V.int) ∧ xs.length ≤ 900 ∧ ys.length ≤ 900 ∧ ∀ H', Same H H' → Q (.bl (shrB xs ys)) H'
theorem getDI {α : Type} {l : List α} {i : Nat} {x d : α} (h : l[i]? = some x) : l.getD i d = x := by rw [List.getD_eq_getElem?_getD, h]; rfl
theorem risB_at : ∀ ns : List Int, risB ns = (List.range (ns.length - 1)).all fun i => decide (ns.getD i 0 < ns.getD (i + 1) 0)
  | [] => rfl
  | [_] => rfl
  | x :: y :: r => by
    have ih := risB_at (y :: r)
    show (decide (x < y) && risB (y :: r)) = _
    rw [ih]
    show _ = (List.range (r.length + 1)).all _
    rw [List.range_succ_eq_map, List.all_cons, List.all_map]
    rfl
theorem shr_comm (xs ys : List Int) : shrB xs ys = shrB ys xs := by
  rw [Bool.eq_iff_iff]
  unfold shrB
  rw [List.any_eq_true, List.any_eq_true]
  constructor <;> (rintro ⟨z, h1, h2⟩; exact ⟨z, of_decide_eq_true h2, decide_eq_true h1⟩)
def sizB (N : Nat) (ls : List (List Int)) (ns : List Int) : Bool := belB ns (N : Int) && risB ns && ls.all fun l => shrB l ns
def aptZ (ls : List (List Int)) (ns : List Int) (i j : Nat) : Option Bool := if ns.getD i 0 < ns.getD j 0 then some (shrB (ls.getD (ns.getD i 0).toNat []) (ls.getD (ns.getD j 0).toNat [])) else none
def anyP (ls : List (List Int)) (ns : List Int) : List Bool := (List.range (ns.length * ns.length)).filterMap fun c => aptZ ls ns (c / ns.length) (c % ns.length)
def aptB (ls : List (List Int)) (ns : List Int) : Bool := belB ns (ls.length : Int) && risB ns && !((anyP ls ns).any _root_.id)
theorem anyP_tell (ls : List (List Int)) (ns : List Int) : tell2 ns.length (fun i j => (aptZ ls ns i j).map V.bl) (ns.length * ns.length) = (anyP ls ns).map V.bl := by
  unfold tell2 anyP
  rw [List.map_filterMap]
theorem siz_good {N : Nat} {ls : List (List Int)} {ns : List Int} : (ls.all fun l => shrB l ns) = goodB ls ns := by
  unfold goodB
  congr 1
  funext l
  rw [shr_comm]
  rfl
theorem bel_of {ns : List Int} {n : Int} (h : ∀ s ∈ ns, 0 ≤ s ∧ s < n) : belB ns n = true := by
  unfold belB
  rw [List.all_eq_true]
  intro s hs
  rw [Bool.and_eq_true]
  exact ⟨decide_eq_true (h s hs).1, decide_eq_true (h s hs).2⟩
theorem ris_of {ns : List Int} (h : RiseI ns) : risB ns = true := by
  rw [risB_at, List.all_eq_true]
  intro i hi
  have hi := List.mem_range.mp hi
  refine decide_eq_true ?_
  have e1 : ns[i]? = some ns[i] := List.getElem?_eq_getElem (by omega)
  have e2 : ns[i + 1]? = some ns[i + 1] := List.getElem?_eq_getElem (by omega)
  rw [getDI e1, getDI e2]
  exact h i _ _ e1 e2
theorem siz_few {N : Nat} {ls : List (List Int)} {ss as : List Int} (C : RunsC ls N) (f : Few ls ss as) : sizB N ls ss = true := by
  unfold sizB
  rw [bel_of (fun s hs => by
    obtain ⟨i, hi, e⟩ := f.own s hs
    have := C.at (List.getElem?_eq_getElem hi)
    omega), ris_of f.rise, siz_good (N := N), (good_iff C).mpr f.hit]
  rfl
theorem apt_few {N : Nat} {ls : List (List Int)} {ss as : List Int} (C : RunsC ls N) (f : Few ls ss as) : aptB ls as = true := by
  unfold aptB
  rw [bel_of (fun s hs => by obtain ⟨i, e, h⟩ := f.mem s hs; omega), ris_of f.arise]
  have : (anyP ls as).any _root_.id = false := by
    rw [List.any_eq_false]
    intro b hb
    unfold anyP at hb
    obtain ⟨c, hc, e⟩ := List.mem_filterMap.mp hb
    have hc := List.mem_range.mp hc
    unfold aptZ at e
    split at e
    · rename_i lt
      cases e
      have l0 : 0 < as.length := by
        rcases Nat.eq_zero_or_pos as.length with z | z
        · rw [z] at hc; omega
        · exact z
      have q1 : c / as.length < as.length := Nat.div_lt_of_lt_mul hc
      have q2 : c % as.length < as.length := Nat.mod_lt _ l0
      have e1 : as[c / as.length]? = some as[c / as.length] := List.getElem?_eq_getElem q1
      have e2 : as[c % as.length]? = some as[c % as.length] := List.getElem?_eq_getElem q2
      rw [getDI e1, getDI e2] at lt
      show ¬ shrB _ _ = true
      rw [getDI e1, getDI e2]
      have m1 := List.mem_of_getElem? e1
      have m2 := List.mem_of_getElem? e2
      obtain ⟨i, ei, hi⟩ := f.mem _ m1
      obtain ⟨j, ej, hj⟩ := f.mem _ m2
      have ap := f.apart _ m1 _ m2 (by omega)
      rw [ei, ej] at ap
      rw [ei, ej]
      have h1 : ls[i]? = some ls[i] := List.getElem?_eq_getElem hi
      have h2 : ls[j]? = some ls[j] := List.getElem?_eq_getElem hj
      rw [Int.toNat_natCast, Int.toNat_natCast, getDI h1, getDI h2]
      have := apart_no C h1 h2 ap
      intro q
      unfold shrB at q
      rw [this] at q
      cases q
    · cases e
  rw [this]
  rfl
theorem siz_all {N : Nat} {ls : List (List Int)} (C : RunsC ls N) : sizB N ls ((List.range N).map fun k : Nat => (k : Int)) = true := by
  have h : ∀ (i : Nat) (z : Int), ((List.range N).map fun k : Nat => (k : Int))[i]? = some z → z = (i : Int) ∧ i < N := fun i z e => by
    rw [List.getElem?_map] at e
    by_cases q : i < N
    · rw [List.getElem?_range q] at e
      cases e
      exact ⟨rfl, q⟩
    · rw [List.getElem?_eq_none (by rw [List.length_range]; omega)] at e
      cases e
  unfold sizB
  rw [bel_of (fun s hs => by
    obtain ⟨i, e⟩ := List.mem_iff_getElem?.mp hs
    have := h i s e
    omega), ris_of (fun i a b h1 h2 => by have := h i a h1; have := h (i + 1) b h2; omega), siz_good (N := N), (good_iff C).mpr (fun i hi => by
    have q := C.at (List.getElem?_eq_getElem hi)
    refine ⟨firstI ls i, List.mem_map.mpr ⟨(firstI ls i).toNat, List.mem_range.mpr (by omega), by omega⟩, Int.le_refl _, q.2.2.1⟩)]
  rfl
theorem siz_less {N : Nat} {ls : List (List Int)} {ss as ms : List Int} (C : RunsC ls N) (f : Few ls ss as) (h : ms.length < ss.length) : sizB N ls ms = false := by
  rw [Bool.eq_false_iff]
  intro q
  unfold sizB at q
  rw [Bool.and_eq_true, siz_good (N := N)] at q
  have := Few.le f ((good_iff C).mp q.2)
  omega
def sp_arsz (K : PySem.W.Frag) (CM CL : Addr) : Sp := fun vs H Q _ => ∃ (T p D : Addr) (ns : List Int) (ls : List (List Int)) (k : Nat) (zs : List Q2) (r : Str) (lo hi : Option Q2), vs = [.ref T, .ref p, .ref D] ∧ SqT K H T (ns.map V.int) ∧ LadAt K CM CL H p k zs r lo hi ∧ FitsL H D ls ∧ ns.length ≤ 900 ∧ ls.length ≤ 900 ∧ (∀ l ∈ ls, l.length ≤ 24) ∧ ∀ H', Same H H' → Q (.bl (sizB zs.length ls ns)) H'
def sp_arap (K : PySem.W.Frag) : Sp := fun vs H Q _ => ∃ (T D : Addr) (ns : List Int) (ls : List (List Int)), vs = [.ref T, .ref D] ∧ SqT K H T (ns.map V.int) ∧ FitsL H D ls ∧ ns.length ≤ 30 ∧ ls.length ≤ 900 ∧ (∀ l ∈ ls, l.length ≤ 24) ∧ ∀ H', Same H H' → Q (.bl (aptB ls ns)) H'
def ThS (H : Hp) (T : Addr) : (Nat ⊕ (List Int × List Int)) → Prop
  | .inl n => H T = some (.tup [.str "never", .int (n : Int)])
  | .inr q => ∃ S A, H T = some (.tup [.str "stock", .ref S, .ref A]) ∧ H S = some (.tup (q.1.map V.int)) ∧ H A = some (.tup (q.2.map V.int)) ∧ q.1.length ≤ 30 ∧ q.2.length ≤ 30
theorem ThS.same {H H' : Hp} {T : Addr} : ∀ {q : Nat ⊕ (List Int × List Int)}, ThS H T q → Same H H' → ThS H' T q
  | .inl _, h, s => s _ _ h
  | .inr _, ⟨S, A, h1, h2, h3, l1, l2⟩, s => ⟨S, A, s _ _ h1, s _ _ h2, s _ _ h3, l1, l2⟩
def shwB (N : Nat) (ls : List (List Int)) : Option Nat → (Nat ⊕ (List Int × List Int)) → Bool
  | some m, .inl n => decide (m = n)
  | some _, .inr _ => false
  | none, .inl _ => false
  | none, .inr q => sizB N ls q.1 && aptB ls q.2 && decide (q.1.length = q.2.length)
def sp_shst (K : PySem.W.Frag) (CM CL : Addr) : Sp := fun vs H Q _ => ∃ (p F s T : Addr) (t : V) (k j : Nat) (fs : List V) (zs : List Q2) (r : Str) (lo hi : Option Q2) (xs : List Q2) (y : Q2) (e : Option Q2) (o : Option Nat) (th : Nat ⊕ (List Int × List Int)), vs = [.ref p, .ref F, .ref s, t, .ref T] ∧ LadAt K CM CL H p k zs r lo hi ∧ SqT K H F fs ∧ Mks CM H j fs xs ∧ QAt CM H s j y ∧ QO CM H j t e ∧ 0 < k ∧ k ≤ 4000 ∧ 0 < j ∧ j ≤ 4000 ∧ xs.length ≤ 60 ∧ ThS H T th ∧ BareAt (fitL zs xs y (e.getD (0, 1))) o ∧
  ∀ (H' : Hp), Same H H' → Q (.bl (shwB zs.length (fitL zs xs y (e.getD (0, 1))) o th)) H'

def unI : V → Int
  | .int i => i
  | _ => 0
def lotO (H : Hp) : V → List Int
  | .ref t => match H t with
    | some (.tup ys) => ys.map unI
    | _ => []
  | _ => []
theorem lotO_eq {H : Hp} {t : Addr} {l : List Int} (h : H t = some (.tup (l.map V.int))) : lotO H (.ref t) = l := by
  show (match H t with | some (.tup ys) => ys.map unI | _ => []) = l
  rw [h]
  show (l.map V.int).map unI = l
  rw [List.map_map]
  exact List.map_id l
def sp_lots73 : Sp := fun vs H Q _ => ∃ n : Nat, vs = [.int (n : Int)] ∧ n ≤ 6 ∧ ∀ (L : Addr) (ks : List (List Int)) (H' : Hp), Same H H' → FitsL H' L ks → ks.Perm (lotsL n) → ks.Pairwise (fun a b => a.length ≤ b.length) → Q (.ref L) H'

theorem fit_conv {zs : List Q2} (ri : RiseQ zs) (hp : ∀ z ∈ zs, 0 < z.2) {w x y : Q2} (pw : 0 < w.2) (px : 0 < x.2) (py : 0 < y.2) : ∀ a b d, a < b → b < d → d < zs.length → fitQ zs w x y a = true → fitQ zs w x y d = true → fitQ zs w x y b = true := fun a b d h1 h2 h3 fa fd => by
  have ea : zs[a]? = some zs[a] := List.getElem?_eq_getElem (by omega)
  have eb : zs[b]? = some zs[b] := List.getElem?_eq_getElem (by omega)
  have ed : zs[d]? = some zs[d] := List.getElem?_eq_getElem h3
  have pa := hp _ (List.mem_of_getElem? ea)
  have pb := hp _ (List.mem_of_getElem? eb)
  have pd := hp _ (List.mem_of_getElem? ed)
  have l1 := (ltq_R pa pb).mp (rise_ltq ri hp h1 ea eb)
  have l2 := (ltq_R pb pd).mp (rise_ltq ri hp h2 eb ed)
  have ga := (fitQ_R ea pa pw px py).mp fa
  have gd := (fitQ_R ed pd pw px py).mp fd
  refine (fitQ_R eb pb pw px py).mpr ⟨?_, ?_⟩ <;> grind
theorem fit_runs {zs xs : List Q2} (ri : RiseQ zs) (hp : ∀ z ∈ zs, 0 < z.2) (hx : ∀ z ∈ xs, 0 < z.2) {x y : Q2} (px : 0 < x.2) (py : 0 < y.2) (fit : ∀ z ∈ xs, ∃ i, i < zs.length ∧ fitQ zs z x y i = true) : RunsC (fitL zs xs x y) zs.length := fun i l h => by
  unfold fitL at h
  rw [List.getElem?_map] at h
  cases e : xs[i]? with
  | none => rw [e] at h; cases h
  | some w =>
    rw [e] at h
    cases h
    have hw := List.mem_of_getElem? e
    rcases idx_run (n := zs.length) (c := fitQ zs w x y) (fit_conv ri hp (hx w hw) px py) with q | ⟨a, m, h1, h2, h3⟩
    · obtain ⟨i, hi, f⟩ := fit w hw
      have : (i : Int) ∈ idx zs.length (fitQ zs w x y) := (idx_mem).mpr ⟨i, hi, f, rfl⟩
      rw [q] at this
      cases this
    · exact ⟨a, m, h1, h2⟩
theorem cut_last (xs : List V) : cutV xs none (some (-1)) = xs.dropLast := by
  unfold cutV
  rw [HT.sIx_none, List.drop_zero, Nat.sub_zero, List.dropLast_eq_take]
  congr 1
  show (if (-1 : Int) < 0 then ((-1 : Int) + (xs.length : Int)).toNat else min (-1 : Int).toNat xs.length) = xs.length - 1
  rw [if_pos (by decide)]
  omega
theorem sh_never (n : Int) : SeqAt.shaped (.tuple [.str "never", .int n]) = true := by
  unfold SeqAt.shaped
  simp [PyData.depth, PyData.depthAll, PyData.canLay0, PyData.canLayAll0]
  decide +kernel
theorem _root_.My.Mks.posP {C : Addr} {H : Hp} {k : Nat} {ps : List V} {zs : List Q2} (m : Mks C H k ps zs) : ∀ z ∈ zs, 0 < z.2 := fun z hz => by
  obtain ⟨i, hi⟩ := List.mem_iff_getElem?.mp hz
  obtain ⟨p, _, q⟩ := m.at hi
  exact q.pos
theorem _root_.My.LadAt.posP {K : PySem.W.Frag} {CM CL p : Addr} {H : Hp} {k : Nat} {zs : List Q2} {r : Str} {lo hi : Option Q2} (a : LadAt K CM CL H p k zs r lo hi) : ∀ z ∈ zs, 0 < z.2 := by
  obtain ⟨⟨_, _, _, _, _, _, _, m, _⟩, _⟩ := a
  exact m.posP
/-- what stock_for tells -/
def StkV (H : Hp) (T : Addr) (ls : List (List Int)) : Option Nat → Prop
  | some n => H T = some (.tup [.str "never", .int (n : Int)])
  | none => ∃ S A ss as, H T = some (.tup [.str "stock", .ref S, .ref A]) ∧ H S = some (.tup (ss.map V.int)) ∧ H A = some (.tup (as.map V.int)) ∧ Few ls ss as
def sp_stockr (K : PySem.W.Frag) (CM CL : Addr) : Sp := fun vs H Q _ => ∃ (p F s T : Addr) (k j : Nat) (fs : List V) (zs : List Q2) (r : Str) (lo hi : Option Q2) (xs : List Q2) (y : Q2) (o : Option Nat), vs = [.ref p, .ref F, .ref s, .ref T] ∧ LadAt K CM CL H p k zs r lo hi ∧ SqT K H F fs ∧ Mks CM H j fs xs ∧ QAt CM H s j y ∧ 0 < k ∧ k ≤ 4000 ∧ 0 < j ∧ j ≤ 4000 ∧ xs.length ≤ 6 ∧ zs.length ≤ 6 ∧ 0 < xs.length ∧ BareAt (fitL zs xs y (0, 1)) o ∧ StkV H T (fitL zs xs y (0, 1)) o ∧ ∀ (H' : Hp), Same H H' → Q (.bl true) H'

theorem _root_.My.Fts.pos {K : PySem.W.Frag} {CM : Addr} {H : Hp} {m : Nat} {us : List V} {fs : List (Q2 × Q2)} (a : Fts K CM H m us fs) : ∀ x ∈ fs, 0 < x.1.2 ∧ 0 < x.2.2 := fun x hx => by
  obtain ⟨i, hi⟩ := List.mem_iff_getElem?.mp hx
  obtain ⟨v, _, t, f1, f2, _, _, q1, q2⟩ := a.at hi
  exact ⟨q1.pos, q2.pos⟩
theorem brk_nil {a b x1 x2 s : Q2} : brkW a b x1 x2 s = [] ↔ ltq (qadd x2 s) b = false ∧ ltq (qadd x1 s) a = false ∧ ltq b x2 = false ∧ ltq a x1 = false := by
  unfold brkW
  cases ltq (qadd x2 s) b <;> cases ltq (qadd x1 s) a <;> cases ltq b x2 <;> cases ltq a x1 <;> simp
theorem frst_none {zs ys : List Q2} {g y : Q2} {fs : List (Q2 × Q2)} {p : Nat × Nat} : frstB zs ys g y fs p = none ↔ ∀ f ∈ fs, brkP zs ys g y p f = [] := by
  unfold frstB
  rw [fstB_none]
  constructor
  · intro h f hf
    exact h _ (List.mem_map_of_mem hf)
  · intro h r hr
    obtain ⟨f, hf, rfl⟩ := List.mem_map.mp hr
    exact h f hf
theorem fit_no {zs : List Q2} {a x y : Q2} {i : Nat} (h : zs[i]? = some a) (pa : 0 < a.2) (px : 0 < x.2) (py : 0 < y.2) : fitQ zs x y (0, 1) i = true ↔ ltq (qadd x y) a = false ∧ ltq a x = false := by
  rw [fitQ_R h pa px py (by decide), Bool.eq_false_iff, Bool.eq_false_iff, Ne, Ne, ltq_R (qadd_pos px py) pa, ltq_R pa px, add_R px py]
  have z0 : toR (0, 1) = 0 := by unfold toR; grind
  rw [z0]
  constructor
  · rintro ⟨h1, h2⟩
    constructor <;> grind
  · rintro ⟨h1, h2⟩
    constructor <;> grind
theorem brk_word {a b x1 x2 s : Q2} {w : Str} (hw : w ∈ brkW a b x1 x2 s) (h1 : ltq (qadd x1 s) a = false) (h2 : ltq a x1 = false) : (decide (("narrow" : Str) ∈ brkW a b x1 x2 s) || decide (("broad" : Str) ∈ brkW a b x1 x2 s)) = true := by
  unfold brkW at hw ⊢
  rw [h1, h2] at hw ⊢
  generalize ltq (qadd x2 s) b = c1 at hw ⊢
  generalize ltq b x2 = c2 at hw ⊢
  cases c1 <;> cases c2 <;> simp at hw ⊢
theorem good_lt {n m : Nat} {F : Nat × Nat → Option (Nat × Str)} {q : Nat × Nat} (h : goodP (prs n m) F = some q) : q.1 < n ∧ q.2 < m ∧ F q = none := by
  unfold goodP at h
  have h1 := List.mem_of_find?_eq_some h
  have h2 := List.find?_some h
  obtain ⟨i, hi⟩ := List.mem_iff_getElem?.mp h1
  have := prs_lt hi
  exact ⟨this.1, this.2, Option.isNone_iff_eq_none.mp h2⟩
def sp_pairsr (K : PySem.W.Frag) (CM CL CG : Addr) : Sp := fun vs H Q _ => ∃ (p F s A L1 L2 : Addr) (v : V) (j k m : Nat) (zs ys : List Q2) (g y : Q2) (us : List V) (fs : List (Q2 × Q2)) (al : List Int), vs = [.ref p, .ref F, .ref s, v, .ref A] ∧ GC K CM CL CG H p j k L1 L2 zs ys g ∧ SqT K H F us ∧ Fts K CM H m us fs ∧ QAt CM H s m y ∧ 0 < m ∧ m ≤ 1000 ∧ fs.length ≤ 50 ∧ ToldV H v (prs zs.length ys.length) (frstB zs ys g y fs) (goodP (prs zs.length ys.length) (frstB zs ys g y fs)) ∧ H A = some (.lst (al.map V.int)) ∧ al.length ≤ 30 ∧ (∀ i : Nat, i < zs.length → ((i : Int) ∈ al ↔ ∀ f ∈ fs, fitQ zs f.1 y (0, 1) i = true)) ∧ ∀ H', Same H H' → Q (.bl true) H'

theorem fmap_if (c : Int → Bool) (l : List Int) : (l.map fun z => if c z = true then some (V.int z) else none).filterMap _root_.id = (l.filter c).map V.int := by
  induction l with
  | nil => rfl
  | cons x l ih =>
    rw [List.map_cons, List.filterMap_cons, List.filter_cons]
    by_cases h : c x = true
    · rw [if_pos h, if_pos h, List.map_cons, ← ih]; rfl
    · rw [if_neg h, if_neg h, ← ih]; rfl
theorem eqv_nil (l : List Int) : PyData.eqv (.list (l.map PyData.int)) (.list []) = decide (l = []) := by
  cases l with
  | nil => rfl
  | cons x l => rfl
theorem StkV.same {H H' : Hp} {T : Addr} {ls : List (List Int)} : ∀ {o : Option Nat}, StkV H T ls o → Same H H' → StkV H' T ls o
  | some _, h, s => s _ _ h
  | none, ⟨S, A, ss, as, h1, h2, h3, h4⟩, s => ⟨S, A, ss, as, s _ _ h1, s _ _ h2, s _ _ h3, h4⟩
def alL (ls : List (List Int)) : List Int := match ls with
  | [] => []
  | l :: _ => l.filter fun z => ls.all fun m => decide (z ∈ m)
theorem alL_iff {ls : List (List Int)} (h : 0 < ls.length) {z : Int} : z ∈ alL ls ↔ ∀ m ∈ ls, z ∈ m := by
  cases ls with
  | nil => simp at h
  | cons l r =>
    show z ∈ l.filter (fun z => (l :: r).all fun m => decide (z ∈ m)) ↔ _
    rw [List.mem_filter, List.all_eq_true]
    constructor
    · rintro ⟨_, q⟩ m hm
      exact of_decide_eq_true (q m hm)
    · intro q
      exact ⟨q l (by simp), fun m hm => decide_eq_true (q m hm)⟩
theorem alL_len {ls : List (List Int)} (h : ∀ l ∈ ls, l.length ≤ 24) : (alL ls).length ≤ 24 := by
  cases ls with
  | nil => exact Nat.zero_le _
  | cons l r => exact Nat.le_trans (List.length_filter_le _ _) (h l (by simp))
theorem alL_bare {ls : List (List Int)} {n : Nat} (b : BareAt ls (some n)) : alL ls = [] := by
  have hm := List.mem_of_getElem? b.1
  have h0 := List.length_pos_of_mem hm
  refine List.eq_nil_iff_forall_not_mem.mpr fun z hz => ?_
  have := (alL_iff h0).mp hz _ hm
  cases this
theorem alL_one {ls : List (List Int)} {ss as : List Int} {n : Nat} (h0 : 0 < ls.length) (C : RunsC ls n) (f : Few ls ss as) : (alL ls ≠ []) ↔ ss.length = 1 := by
  have g := few_good C f
  constructor
  · intro h
    obtain ⟨z, hz⟩ := List.exists_mem_of_ne_nil _ h
    have hz := (alL_iff h0).mp hz
    have le := Few.le f (lot := [z]) (fun i hi => by
      have e : ls[i]? = some ls[i] := List.getElem?_eq_getElem hi
      exact ⟨z, by simp, ((C.at e).2.2.2 z).mp (hz _ (List.mem_of_getElem? e))⟩)
    obtain ⟨s, hs, _⟩ := f.hit 0 h0
    have := List.length_pos_of_mem hs
    have le : ss.length ≤ 1 := le
    omega
  · intro h
    obtain ⟨s, rfl⟩ := List.length_eq_one_iff.mp h
    refine List.ne_nil_of_mem (a := s) ((alL_iff h0).mpr fun m hm => ?_)
    obtain ⟨i, hi⟩ := List.mem_iff_getElem?.mp hm
    obtain ⟨s', hs', q⟩ := f.hit i (List.getElem?_eq_some_iff.mp hi).1
    have : s' = s := by simpa using hs'
    subst this
    exact ((C.at hi).2.2.2 s').mpr q
theorem alL_fit {zs : List Q2} {fs : List (Q2 × Q2)} {y : Q2} (f0 : 0 < fs.length) {i : Nat} (hi : i < zs.length) : (i : Int) ∈ alL (fitL zs (fs.map Prod.fst) y (0, 1)) ↔ ∀ f ∈ fs, fitQ zs f.1 y (0, 1) i = true := by
  have h0 : 0 < (fitL zs (fs.map Prod.fst) y (0, 1)).length := by unfold fitL; rw [List.length_map, List.length_map]; exact f0
  rw [alL_iff h0]
  unfold fitL
  constructor
  · intro h f hf
    have := h (idx zs.length (fitQ zs f.1 y (0, 1))) (List.mem_map.mpr ⟨f.1, List.mem_map.mpr ⟨f, hf, rfl⟩, rfl⟩)
    obtain ⟨j, _, q, e⟩ := idx_mem.mp this
    have : i = j := by omega
    rw [this]; exact q
  · intro h m hm
    obtain ⟨x, hx, rfl⟩ := List.mem_map.mp hm
    obtain ⟨f, hf, rfl⟩ := List.mem_map.mp hx
    exact idx_mem.mpr ⟨i, hi, h f hf, rfl⟩


theorem b_is_whole_1 {K : PySem.W.Frag} {mg : Str → Option Value} {φ : Fds} (T : Txt K mg φ) : ∃ ds, Vals ([] : List V) ds ∧ Binds K φ.is_whole p_is_whole ds :=
  ⟨[], .nil, T.f_is_whole.bindsN fun _ _ _ _ _ _ us hl => match us, hl with | [_], _ => rfl⟩
theorem b_common_part_2 {K : PySem.W.Frag} {mg : Str → Option Value} {φ : Fds} (T : Txt K mg φ) : ∃ ds, Vals ([] : List V) ds ∧ Binds K φ.common_part p_common_part ds :=
  ⟨[], .nil, T.f_common_part.bindsN fun _ _ _ _ _ _ us hl => match us, hl with | [_, _], _ => rfl⟩
theorem b_Measure_is_below_2 {K : PySem.W.Frag} {mg : Str → Option Value} {φ : Fds} (T : Txt K mg φ) : ∃ ds, Vals ([V.bl false] : List V) ds ∧ Binds K φ.Measure_is_below p_Measure_is_below ds :=
  T.f_Measure_is_below.binds1 2 0 (by simp) rfl fun _ _ _ _ _ _ _ us its h1 h2 => match us, its, h1, h2 with | [_, _], [_], _, _ => ⟨_, rfl, rfl⟩
theorem b_Measure_is_below_3 {K : PySem.W.Frag} {mg : Str → Option Value} {φ : Fds} (T : Txt K mg φ) : ∃ ds, Vals ([] : List V) ds ∧ Binds K φ.Measure_is_below p_Measure_is_below ds :=
  T.f_Measure_is_below.binds1 3 1 (by simp) rfl fun _ _ _ _ _ _ _ us its h1 h2 => match us, its, h1, h2 with | [_, _, _], [_], _, _ => ⟨_, rfl, rfl⟩
theorem b_are_marks_1 {K : PySem.W.Frag} {mg : Str → Option Value} {φ : Fds} (T : Txt K mg φ) : ∃ ds, Vals ([] : List V) ds ∧ Binds K φ.are_marks p_are_marks ds :=
  ⟨[], .nil, T.f_are_marks.bindsN fun _ _ _ _ _ _ us hl => match us, hl with | [_], _ => rfl⟩
theorem b_is_rule_1 {K : PySem.W.Frag} {mg : Str → Option Value} {φ : Fds} (T : Txt K mg φ) : ∃ ds, Vals ([] : List V) ds ∧ Binds K φ.is_rule p_is_rule ds :=
  ⟨[], .nil, T.f_is_rule.bindsN fun _ _ _ _ _ _ us hl => match us, hl with | [_], _ => rfl⟩
theorem b_is_measure_or_none_1 {K : PySem.W.Frag} {mg : Str → Option Value} {φ : Fds} (T : Txt K mg φ) : ∃ ds, Vals ([] : List V) ds ∧ Binds K φ.is_measure_or_none p_is_measure_or_none ds :=
  ⟨[], .nil, T.f_is_measure_or_none.bindsN fun _ _ _ _ _ _ us hl => match us, hl with | [_], _ => rfl⟩
theorem b_is_span_2 {K : PySem.W.Frag} {mg : Str → Option Value} {φ : Fds} (T : Txt K mg φ) : ∃ ds, Vals ([] : List V) ds ∧ Binds K φ.is_span p_is_span ds :=
  ⟨[], .nil, T.f_is_span.bindsN fun _ _ _ _ _ _ us hl => match us, hl with | [_, _], _ => rfl⟩
theorem b_slip_of_1 {K : PySem.W.Frag} {mg : Str → Option Value} {φ : Fds} (T : Txt K mg φ) : ∃ ds, Vals ([] : List V) ds ∧ Binds K φ.slip_of p_slip_of ds :=
  ⟨[], .nil, T.f_slip_of.bindsN fun _ _ _ _ _ _ us hl => match us, hl with | [_], _ => rfl⟩
theorem b_l_take_2 {K : PySem.W.Frag} {mg : Str → Option Value} {φ : Fds} (T : Txt K mg φ) : ∃ ds, Vals ([] : List V) ds ∧ Binds K φ.l_take p_l_take ds :=
  ⟨[], .nil, T.f_l_take.bindsN fun _ _ _ _ _ _ us hl => match us, hl with | [_, _], _ => rfl⟩
theorem b_l_plain_2 {K : PySem.W.Frag} {mg : Str → Option Value} {φ : Fds} (T : Txt K mg φ) : ∃ ds, Vals ([] : List V) ds ∧ Binds K φ.l_plain p_l_plain ds :=
  ⟨[], .nil, T.f_l_plain.bindsN fun _ _ _ _ _ _ us hl => match us, hl with | [_, _], _ => rfl⟩
theorem b_Measure_init_3 {K : PySem.W.Frag} {mg : Str → Option Value} {φ : Fds} (T : Txt K mg φ) : ∃ ds, Vals ([] : List V) ds ∧ Binds K φ.Measure_init p_Measure_init ds :=
  T.f_Measure_init.binds1 3 1 (by simp) rfl fun _ _ _ _ _ _ _ us its h1 h2 => match us, its, h1, h2 with | [_, _, _], [_], _, _ => ⟨_, rfl, rfl⟩
theorem b_l_pick_2 {K : PySem.W.Frag} {mg : Str → Option Value} {φ : Fds} (T : Txt K mg φ) : ∃ ds, Vals ([] : List V) ds ∧ Binds K φ.l_pick p_l_pick ds :=
  ⟨[], .nil, T.f_l_pick.bindsN fun _ _ _ _ _ _ us hl => match us, hl with | [_, _], _ => rfl⟩
theorem b_l_part_1 {K : PySem.W.Frag} {mg : Str → Option Value} {φ : Fds} (T : Txt K mg φ) : ∃ ds, Vals ([] : List V) ds ∧ Binds K φ.l_part p_l_part ds :=
  ⟨[], .nil, T.f_l_part.bindsN fun _ _ _ _ _ _ us hl => match us, hl with | [_], _ => rfl⟩
theorem b_l_sum_2 {K : PySem.W.Frag} {mg : Str → Option Value} {φ : Fds} (T : Txt K mg φ) : ∃ ds, Vals ([] : List V) ds ∧ Binds K φ.l_sum p_l_sum ds :=
  ⟨[], .nil, T.f_l_sum.bindsN fun _ _ _ _ _ _ us hl => match us, hl with | [_, _], _ => rfl⟩
theorem b_Ladder_init_5 {K : PySem.W.Frag} {mg : Str → Option Value} {φ : Fds} (T : Txt K mg φ) : ∃ ds, Vals ([] : List V) ds ∧ Binds K φ.Ladder_init p_Ladder_init ds :=
  T.f_Ladder_init.binds1 5 3 (by simp) rfl fun _ _ _ _ _ _ _ us its h1 h2 => match us, its, h1, h2 with | [_, _, _, _, _], [_, _, _], _, _ => ⟨_, rfl, rfl⟩
theorem b_l_measures_1 {K : PySem.W.Frag} {mg : Str → Option Value} {φ : Fds} (T : Txt K mg φ) : ∃ ds, Vals ([] : List V) ds ∧ Binds K φ.l_measures p_l_measures ds :=
  ⟨[], .nil, T.f_l_measures.bindsN fun _ _ _ _ _ _ us hl => match us, hl with | [_], _ => rfl⟩
theorem b_Measure_init_2 {K : PySem.W.Frag} {mg : Str → Option Value} {φ : Fds} (T : Txt K mg φ) : ∃ ds, Vals ([V.int 1] : List V) ds ∧ Binds K φ.Measure_init p_Measure_init ds :=
  T.f_Measure_init.binds1 2 0 (by simp) rfl fun _ _ _ _ _ _ _ us its h1 h2 => match us, its, h1, h2 with | [_, _], [_], _, _ => ⟨_, rfl, rfl⟩
theorem b_measure_or_2 {K : PySem.W.Frag} {mg : Str → Option Value} {φ : Fds} (T : Txt K mg φ) : ∃ ds, Vals ([] : List V) ds ∧ Binds K φ.measure_or p_measure_or ds :=
  ⟨[], .nil, T.f_measure_or.bindsN fun _ _ _ _ _ _ us hl => match us, hl with | [_, _], _ => rfl⟩
theorem b_Measure_times_2 {K : PySem.W.Frag} {mg : Str → Option Value} {φ : Fds} (T : Txt K mg φ) : ∃ ds, Vals ([] : List V) ds ∧ Binds K φ.Measure_times p_Measure_times ds :=
  ⟨[], .nil, T.f_Measure_times.bindsN fun _ _ _ _ _ _ us hl => match us, hl with | [_, _], _ => rfl⟩
theorem b_Measure_plus_2 {K : PySem.W.Frag} {mg : Str → Option Value} {φ : Fds} (T : Txt K mg φ) : ∃ ds, Vals ([] : List V) ds ∧ Binds K φ.Measure_plus p_Measure_plus ds :=
  ⟨[], .nil, T.f_Measure_plus.bindsN fun _ _ _ _ _ _ us hl => match us, hl with | [_, _], _ => rfl⟩
theorem b_Grid_graded_2 {K : PySem.W.Frag} {mg : Str → Option Value} {φ : Fds} (T : Txt K mg φ) : ∃ ds, Vals ([] : List V) ds ∧ Binds K φ.Grid_graded p_Grid_graded ds :=
  ⟨[], .nil, T.f_Grid_graded.bindsN fun _ _ _ _ _ _ us hl => match us, hl with | [_, _], _ => rfl⟩
theorem b_Grid_long_mark_2 {K : PySem.W.Frag} {mg : Str → Option Value} {φ : Fds} (T : Txt K mg φ) : ∃ ds, Vals ([] : List V) ds ∧ Binds K φ.Grid_long_mark p_Grid_long_mark ds :=
  ⟨[], .nil, T.f_Grid_long_mark.bindsN fun _ _ _ _ _ _ us hl => match us, hl with | [_, _], _ => rfl⟩
theorem b_Grid_broad_mark_2 {K : PySem.W.Frag} {mg : Str → Option Value} {φ : Fds} (T : Txt K mg φ) : ∃ ds, Vals ([] : List V) ds ∧ Binds K φ.Grid_broad_mark p_Grid_broad_mark ds :=
  ⟨[], .nil, T.f_Grid_broad_mark.bindsN fun _ _ _ _ _ _ us hl => match us, hl with | [_, _], _ => rfl⟩
theorem b_l_broad_3 {K : PySem.W.Frag} {mg : Str → Option Value} {φ : Fds} (T : Txt K mg φ) : ∃ ds, Vals ([] : List V) ds ∧ Binds K φ.l_broad p_l_broad ds :=
  ⟨[], .nil, T.f_l_broad.bindsN fun _ _ _ _ _ _ us hl => match us, hl with | [_, _, _], _ => rfl⟩
theorem b_Ladder_len_1 {K : PySem.W.Frag} {mg : Str → Option Value} {φ : Fds} (T : Txt K mg φ) : ∃ ds, Vals ([] : List V) ds ∧ Binds K φ.Ladder_len p_Ladder_len ds :=
  ⟨[], .nil, T.f_Ladder_len.bindsN fun _ _ _ _ _ _ us hl => match us, hl with | [_], _ => rfl⟩
theorem b_broken_4 {K : PySem.W.Frag} {mg : Str → Option Value} {φ : Fds} (T : Txt K mg φ) : ∃ ds, Vals ([] : List V) ds ∧ Binds K φ.broken p_broken ds :=
  ⟨[], .nil, T.f_broken.bindsN fun _ _ _ _ _ _ us hl => match us, hl with | [_, _, _, _], _ => rfl⟩
theorem b_pairs_of_1 {K : PySem.W.Frag} {mg : Str → Option Value} {φ : Fds} (T : Txt K mg φ) : ∃ ds, Vals ([] : List V) ds ∧ Binds K φ.pairs_of p_pairs_of ds :=
  ⟨[], .nil, T.f_pairs_of.bindsN fun _ _ _ _ _ _ us hl => match us, hl with | [_], _ => rfl⟩
theorem b_first_broken_4 {K : PySem.W.Frag} {mg : Str → Option Value} {φ : Fds} (T : Txt K mg φ) : ∃ ds, Vals ([] : List V) ds ∧ Binds K φ.first_broken p_first_broken ds :=
  ⟨[], .nil, T.f_first_broken.bindsN fun _ _ _ _ _ _ us hl => match us, hl with | [_, _, _, _], _ => rfl⟩
theorem b_is_tuple_of_2 {K : PySem.W.Frag} {mg : Str → Option Value} {φ : Fds} (T : Txt K mg φ) : ∃ ds, Vals ([] : List V) ds ∧ Binds K φ.is_tuple_of p_is_tuple_of ds :=
  ⟨[], .nil, T.f_is_tuple_of.bindsN fun _ _ _ _ _ _ us hl => match us, hl with | [_, _], _ => rfl⟩
theorem b_is_number_2 {K : PySem.W.Frag} {mg : Str → Option Value} {φ : Fds} (T : Txt K mg φ) : ∃ ds, Vals ([] : List V) ds ∧ Binds K φ.is_number p_is_number ds :=
  ⟨[], .nil, T.f_is_number.bindsN fun _ _ _ _ _ _ us hl => match us, hl with | [_, _], _ => rfl⟩
theorem b_is_paper_5 {K : PySem.W.Frag} {mg : Str → Option Value} {φ : Fds} (T : Txt K mg φ) : ∃ ds, Vals ([] : List V) ds ∧ Binds K φ.is_paper p_is_paper ds :=
  ⟨[], .nil, T.f_is_paper.bindsN fun _ _ _ _ _ _ us hl => match us, hl with | [_, _, _, _, _], _ => rfl⟩
theorem b_pair_for_3 {K : PySem.W.Frag} {mg : Str → Option Value} {φ : Fds} (T : Txt K mg φ) : ∃ ds, Vals ([] : List V) ds ∧ Binds K φ.pair_for p_pair_for ds :=
  ⟨[], .nil, T.f_pair_for.bindsN fun _ _ _ _ _ _ us hl => match us, hl with | [_, _, _], _ => rfl⟩
theorem b_is_word_2 {K : PySem.W.Frag} {mg : Str → Option Value} {φ : Fds} (T : Txt K mg φ) : ∃ ds, Vals ([] : List V) ds ∧ Binds K φ.is_word p_is_word ds :=
  ⟨[], .nil, T.f_is_word.bindsN fun _ _ _ _ _ _ us hl => match us, hl with | [_, _], _ => rfl⟩
theorem b_are_wholes_1 {K : PySem.W.Frag} {mg : Str → Option Value} {φ : Fds} (T : Txt K mg φ) : ∃ ds, Vals ([] : List V) ds ∧ Binds K φ.are_wholes p_are_wholes ds :=
  ⟨[], .nil, T.f_are_wholes.bindsN fun _ _ _ _ _ _ us hl => match us, hl with | [_], _ => rfl⟩
theorem b_are_papers_4 {K : PySem.W.Frag} {mg : Str → Option Value} {φ : Fds} (T : Txt K mg φ) : ∃ ds, Vals ([] : List V) ds ∧ Binds K φ.are_papers p_are_papers ds :=
  ⟨[], .nil, T.f_are_papers.bindsN fun _ _ _ _ _ _ us hl => match us, hl with | [_, _, _, _], _ => rfl⟩
theorem b_l_foot_of_4 {K : PySem.W.Frag} {mg : Str → Option Value} {φ : Fds} (T : Txt K mg φ) : ∃ ds, Vals ([] : List V) ds ∧ Binds K φ.l_foot_of p_l_foot_of ds :=
  ⟨[], .nil, T.f_l_foot_of.bindsN fun _ _ _ _ _ _ us hl => match us, hl with | [_, _, _, _], _ => rfl⟩
theorem b_Measure_minus_2 {K : PySem.W.Frag} {mg : Str → Option Value} {φ : Fds} (T : Txt K mg φ) : ∃ ds, Vals ([] : List V) ds ∧ Binds K φ.Measure_minus p_Measure_minus ds :=
  ⟨[], .nil, T.f_Measure_minus.bindsN fun _ _ _ _ _ _ us hl => match us, hl with | [_, _], _ => rfl⟩
theorem b_fits_4 {K : PySem.W.Frag} {mg : Str → Option Value} {φ : Fds} (T : Txt K mg φ) : ∃ ds, Vals ([] : List V) ds ∧ Binds K φ.fits p_fits ds :=
  T.f_fits.binds1 4 1 (by simp) rfl fun _ _ _ _ _ _ _ us its h1 h2 => match us, its, h1, h2 with | [_, _, _, _], [_], _, _ => ⟨_, rfl, rfl⟩
theorem b_fitting_of_4 {K : PySem.W.Frag} {mg : Str → Option Value} {φ : Fds} (T : Txt K mg φ) : ∃ ds, Vals ([] : List V) ds ∧ Binds K φ.fitting_of p_fitting_of ds :=
  ⟨[], .nil, T.f_fitting_of.bindsN fun _ _ _ _ _ _ us hl => match us, hl with | [_, _, _, _], _ => rfl⟩
theorem b_first_bare_1 {K : PySem.W.Frag} {mg : Str → Option Value} {φ : Fds} (T : Txt K mg φ) : ∃ ds, Vals ([] : List V) ds ∧ Binds K φ.first_bare p_first_bare ds :=
  ⟨[], .nil, T.f_first_bare.bindsN fun _ _ _ _ _ _ us hl => match us, hl with | [_], _ => rfl⟩
theorem b_fewest_of_1 {K : PySem.W.Frag} {mg : Str → Option Value} {φ : Fds} (T : Txt K mg φ) : ∃ ds, Vals ([] : List V) ds ∧ Binds K φ.fewest_of p_fewest_of ds :=
  ⟨[], .nil, T.f_fewest_of.bindsN fun _ _ _ _ _ _ us hl => match us, hl with | [_], _ => rfl⟩
theorem b_all_below_2 {K : PySem.W.Frag} {mg : Str → Option Value} {φ : Fds} (T : Txt K mg φ) : ∃ ds, Vals ([] : List V) ds ∧ Binds K φ.all_below p_all_below ds :=
  ⟨[], .nil, T.f_all_below.bindsN fun _ _ _ _ _ _ us hl => match us, hl with | [_, _], _ => rfl⟩
theorem b_shares_2 {K : PySem.W.Frag} {mg : Str → Option Value} {φ : Fds} (T : Txt K mg φ) : ∃ ds, Vals ([] : List V) ds ∧ Binds K φ.shares p_shares ds :=
  ⟨[], .nil, T.f_shares.bindsN fun _ _ _ _ _ _ us hl => match us, hl with | [_, _], _ => rfl⟩
theorem b_are_rising_2 {K : PySem.W.Frag} {mg : Str → Option Value} {φ : Fds} (T : Txt K mg φ) : ∃ ds, Vals ([] : List V) ds ∧ Binds K φ.are_rising p_are_rising ds :=
  ⟨[], .nil, T.f_are_rising.bindsN fun _ _ _ _ _ _ us hl => match us, hl with | [_, _], _ => rfl⟩
theorem b_are_apart_2 {K : PySem.W.Frag} {mg : Str → Option Value} {φ : Fds} (T : Txt K mg φ) : ∃ ds, Vals ([] : List V) ds ∧ Binds K φ.are_apart p_are_apart ds :=
  ⟨[], .nil, T.f_are_apart.bindsN fun _ _ _ _ _ _ us hl => match us, hl with | [_, _], _ => rfl⟩
theorem b_are_sizes_3 {K : PySem.W.Frag} {mg : Str → Option Value} {φ : Fds} (T : Txt K mg φ) : ∃ ds, Vals ([] : List V) ds ∧ Binds K φ.are_sizes p_are_sizes ds :=
  ⟨[], .nil, T.f_are_sizes.bindsN fun _ _ _ _ _ _ us hl => match us, hl with | [_, _, _], _ => rfl⟩
theorem b_fits_3 {K : PySem.W.Frag} {mg : Str → Option Value} {φ : Fds} (T : Txt K mg φ) : ∃ ds, Vals ([V.non] : List V) ds ∧ Binds K φ.fits p_fits ds :=
  T.f_fits.binds1 3 0 (by simp) rfl fun _ _ _ _ _ _ _ us its h1 h2 => match us, its, h1, h2 with | [_, _, _], [_], _, _ => ⟨_, rfl, rfl⟩
theorem b_shows_stock_5 {K : PySem.W.Frag} {mg : Str → Option Value} {φ : Fds} (T : Txt K mg φ) : ∃ ds, Vals ([] : List V) ds ∧ Binds K φ.shows_stock p_shows_stock ds :=
  ⟨[], .nil, T.f_shows_stock.bindsN fun _ _ _ _ _ _ us hl => match us, hl with | [_, _, _, _, _], _ => rfl⟩
theorem b_l_lots_1 {K : PySem.W.Frag} {mg : Str → Option Value} {φ : Fds} (T : Txt K mg φ) : ∃ ds, Vals ([] : List V) ds ∧ Binds K φ.l_lots p_l_lots ds :=
  ⟨[], .nil, T.f_l_lots.bindsN fun _ _ _ _ _ _ us hl => match us, hl with | [_], _ => rfl⟩
theorem b_l_hand_2 {K : PySem.W.Frag} {mg : Str → Option Value} {φ : Fds} (T : Txt K mg φ) : ∃ ds, Vals ([] : List V) ds ∧ Binds K φ.l_hand p_l_hand ds :=
  ⟨[], .nil, T.f_l_hand.bindsN fun _ _ _ _ _ _ us hl => match us, hl with | [_, _], _ => rfl⟩
theorem b_l_grades_1 {K : PySem.W.Frag} {mg : Str → Option Value} {φ : Fds} (T : Txt K mg φ) : ∃ ds, Vals ([] : List V) ds ∧ Binds K φ.l_grades p_l_grades ds :=
  ⟨[], .nil, T.f_l_grades.bindsN fun _ _ _ _ _ _ us hl => match us, hl with | [_], _ => rfl⟩
theorem b_l_marks_of_2 {K : PySem.W.Frag} {mg : Str → Option Value} {φ : Fds} (T : Txt K mg φ) : ∃ ds, Vals ([] : List V) ds ∧ Binds K φ.l_marks_of p_l_marks_of ds :=
  ⟨[], .nil, T.f_l_marks_of.bindsN fun _ _ _ _ _ _ us hl => match us, hl with | [_, _], _ => rfl⟩
theorem b_Grid_init_4 {K : PySem.W.Frag} {mg : Str → Option Value} {φ : Fds} (T : Txt K mg φ) : ∃ ds, Vals ([] : List V) ds ∧ Binds K φ.Grid_init p_Grid_init ds :=
  T.f_Grid_init.binds1 4 1 (by simp) rfl fun _ _ _ _ _ _ _ us its h1 h2 => match us, its, h1, h2 with | [_, _, _, _], [_], _, _ => ⟨_, rfl, rfl⟩
theorem b_l_any_ladder_2 {K : PySem.W.Frag} {mg : Str → Option Value} {φ : Fds} (T : Txt K mg φ) : ∃ ds, Vals ([] : List V) ds ∧ Binds K φ.l_any_ladder p_l_any_ladder ds :=
  ⟨[], .nil, T.f_l_any_ladder.bindsN fun _ _ _ _ _ _ us hl => match us, hl with | [_, _], _ => rfl⟩
theorem b_l_loose_1 {K : PySem.W.Frag} {mg : Str → Option Value} {φ : Fds} (T : Txt K mg φ) : ∃ ds, Vals ([] : List V) ds ∧ Binds K φ.l_loose p_l_loose ds :=
  ⟨[], .nil, T.f_l_loose.bindsN fun _ _ _ _ _ _ us hl => match us, hl with | [_], _ => rfl⟩
theorem b_l_feet_of_3 {K : PySem.W.Frag} {mg : Str → Option Value} {φ : Fds} (T : Txt K mg φ) : ∃ ds, Vals ([] : List V) ds ∧ Binds K φ.l_feet_of p_l_feet_of ds :=
  ⟨[], .nil, T.f_l_feet_of.bindsN fun _ _ _ _ _ _ us hl => match us, hl with | [_, _, _], _ => rfl⟩
theorem b_stock_for_3 {K : PySem.W.Frag} {mg : Str → Option Value} {φ : Fds} (T : Txt K mg φ) : ∃ ds, Vals ([V.non] : List V) ds ∧ Binds K φ.stock_for p_stock_for ds :=
  T.f_stock_for.binds1 3 0 (by simp) rfl fun _ _ _ _ _ _ _ us its h1 h2 => match us, its, h1, h2 with | [_, _, _], [_], _, _ => ⟨_, rfl, rfl⟩
theorem b_l_stock_right_4 {K : PySem.W.Frag} {mg : Str → Option Value} {φ : Fds} (T : Txt K mg φ) : ∃ ds, Vals ([] : List V) ds ∧ Binds K φ.l_stock_right p_l_stock_right ds :=
  ⟨[], .nil, T.f_l_stock_right.bindsN fun _ _ _ _ _ _ us hl => match us, hl with | [_, _, _, _], _ => rfl⟩
theorem b_shows_pair_4 {K : PySem.W.Frag} {mg : Str → Option Value} {φ : Fds} (T : Txt K mg φ) : ∃ ds, Vals ([] : List V) ds ∧ Binds K φ.shows_pair p_shows_pair ds :=
  ⟨[], .nil, T.f_shows_pair.bindsN fun _ _ _ _ _ _ us hl => match us, hl with | [_, _, _, _], _ => rfl⟩
theorem b_l_pairs_right_5 {K : PySem.W.Frag} {mg : Str → Option Value} {φ : Fds} (T : Txt K mg φ) : ∃ ds, Vals ([] : List V) ds ∧ Binds K φ.l_pairs_right p_l_pairs_right ds :=
  ⟨[], .nil, T.f_l_pairs_right.bindsN fun _ _ _ _ _ _ us hl => match us, hl with | [_, _, _, _, _], _ => rfl⟩
theorem ok_is_whole {P : Program} {w : World} {K : PySem.W.Frag} {mg : Str → Option Value} {base : Heap} {φ : Fds} (T : Txt K mg φ) : FnOk P w K mg base CX0 1 (He.fAd K ("is_whole", none)) φ.is_whole p_is_whole sp_whole := by
  refine T.f_is_whole.ok sc_is_whole (fun vs H Q E h => ?_) (fun cdv A outer s H vs Q E hr h => ?_)
  · obtain ⟨n, rfl, k⟩ := h; rfl
  · obtain ⟨n, rfl, k⟩ := h
    refine ⟨_, PSs.nox (pss_one (ps_ret (pe_and (pe_callB (id := "isinstance") (isi (K := K)) (by rfl) T.z_isinstance (by decide +kernel) (pa_cons (pv 0) (pa_cons (pe_bltn (v := .ty "int") rfl T.z_int (by decide +kernel) rfl) pa_nil))) (pe_one (pe_not (pe_callB (id := "isinstance") (isi (K := K)) (by rfl) T.z_isinstance (by decide +kernel) (pa_cons (pv 0) (pa_cons (pe_bltn (v := .ty "bool") rfl T.z_bool (by decide +kernel) rfl) pa_nil)))))))), ?_⟩
    refine ⟨_, rfl, _, _, _, _, _, rfl, .ty _, .base (.int _), kit_ty (r := true) (by decide +kernel), _, rfl, ?_⟩
    refine iteT ?_
    refine ⟨_, rfl, _, _, _, _, _, rfl, .ty _, .base (.int _), kit_ty (r := false) (by decide +kernel), _, rfl, ?_⟩
    exact k
theorem ok_common_part {P : Program} {w : World} {K : PySem.W.Frag} {mg : Str → Option Value} {base : Heap} {φ : Fds} (T : Txt K mg φ) : FnOk P w K mg base CX0 1 (He.fAd K ("common_part", none)) φ.common_part p_common_part sp_common := by
  refine T.f_common_part.ok sc_common_part (fun vs H Q E h => ?_) (fun cdv A outer s H vs Q E hr h => ?_)
  · obtain ⟨a, b, rfl, k⟩ := h; rfl
  · obtain ⟨a, b, rfl, k⟩ := h
    refine ⟨_, PSs.nox (pss_cons (ps_par (i := 2) (j := 3) rfl sc_common_part.nd rfl rfl (by decide) rfl rfl (pa_cons (pe_callB (id := "abs") call_abs (by rfl) T.z_abs (by decide +kernel) (pa_cons (pv 0) pa_nil)) (pa_cons (pe_callB (id := "abs") call_abs (by rfl) T.z_abs (by decide +kernel) (pa_cons (pv 1) pa_nil)) pa_nil)) (by rfl))
      (pss_cons (ps_while PassesOwn.never (pt_cmpR op_gt (pv 3) pe_int (nomark _))
      (pss_one (ps_par (i := 2) (j := 3) rfl sc_common_part.nd rfl rfl (by decide) rfl rfl (pa_cons (pv 3) (pa_cons (pe_op op_mod (pv 2) (pv 3)) pa_nil)) (by rfl))))
      (pss_one (ps_ret (pv 2))))), ?_⟩
    refine ⟨_, rfl, _, rfl, _, rfl, _, rfl, _, _, rfl, ?_⟩
    refine while_by (fun σ H' => H' = H ∧ ∃ g s : Int, σ = [some (.int a), some (.int b), some (.int g), some (.int s)] ∧ 0 ≤ g ∧ 0 ≤ s ∧ Int.gcd g s = Int.gcd a b)
      (fun σ _ => match σ with | [_, _, _, some (.int s)] => s.toNat | _ => 0) ⟨rfl, _, _, rfl, ?_, ?_, ?_⟩ ?_ (fun σ H Q Q' hQ ⟨v, e1, i, j, e2, e3, c, e4, q⟩ => ⟨v, e1, i, j, e2, e3, c, e4, hQ _ _ q⟩)
    · split <;> omega
    · split <;> omega
    · have e1 : (if a < 0 then -a else a) = (a.natAbs : Int) := by split <;> omega
      have e2 : (if b < 0 then -b else b) = (b.natAbs : Int) := by split <;> omega
      rw [e1, e2]
      rfl
    · rintro σ H' ⟨rfl, g, s, rfl, hg, hs, e⟩
      refine ⟨_, rfl, _, _, rfl, rfl, _, rfl, ?_⟩
      refine ite2 (fun c => ?_) (fun c => ?_)
      · have c0 : 0 < s := of_decide_eq_true c
        refine ⟨_, rfl, _, rfl, _, rfl, _, _, rfl, rfl, c0, _, _, rfl, ?_⟩
        refine ⟨⟨rfl, s, g % s, rfl, hs, Int.emod_nonneg _ (by omega), (gcd_step c0 hg).trans e⟩, ?_⟩
        show (g % s).toNat < s.toNat
        have h1 := Int.emod_nonneg g (show s ≠ 0 by omega)
        have h2 := Int.emod_lt_of_pos g c0
        omega
      · have c0 : ¬ 0 < s := fun z => c (decide_eq_true z)
        have s0 : s = 0 := by omega
        subst s0
        refine ⟨_, rfl, ?_⟩
        have eg : g = (Int.gcd a b : Int) := by
          rw [← e, Int.gcd_zero_right]
          omega
        rw [eg]
        exact k
theorem ok_Measure_init {P : Program} {w : World} {K : PySem.W.Frag} {mg : Str → Option Value} {base : Heap} {φ : Fds} (T : Txt K mg φ) : FnOk P w K mg base CX0 2 (He.fAd K ("Measure", some "__init__")) φ.Measure_init p_Measure_init (sp_minit (He.ga K "Measure")) := by
  obtain ⟨_, B0v, B0⟩ := b_is_whole_1 T
  obtain ⟨_, B1v, B1⟩ := b_common_part_2 T
  refine T.f_Measure_init.ok sc_Measure_init (fun vs H Q E h => ?_) (fun cdv A outer s H vs Q E hr h => ?_)
  · obtain ⟨p, dx, a, b, rfl, hp, hb, hl, k⟩ := h; rfl
  · obtain ⟨p, dx, a, b, rfl, hp, hb, hl, k⟩ := h
    refine ⟨_, PSs.nox (pss_cons (ps_if (PW.pt (pw_or (pt_not (pt_val (pe_call (ok_is_whole (K := K) T) (hr.mono (by decide)) rfl T.g_is_whole T.f_is_whole.kp B0 B0v pass0 (pa_cons (pv 1) pa_nil)))) (pw_or1 (pt_not (pt_val (pe_call (ok_is_whole (K := K) T) (hr.mono (by decide)) rfl T.g_is_whole T.f_is_whole.kp B0 B0v pass0 (pa_cons (pv 2) pa_nil)))))))
      (pss_one ps_never)
      pss_nil)
      (pss_cons (ps_if (pt_cmpR op_eq (pv 2) pe_int (nomark _))
      (pss_one ps_never)
      pss_nil)
      (pss_cons (ps_set (i := 3) sc_Measure_init.nd rfl (Or.inl rfl) (pe_call (ok_common_part (K := K) T) (hr.mono (by decide)) rfl T.g_common_part T.f_common_part.kp B1 B1v pass0 (pa_cons (pv 1) (pa_cons (pv 2) pa_nil))))
      (pss_cons (ps_cut (ps_if (pt_cmpR op_lt (pv 2) pe_int (nomark _))
      (pss_one (ps_set (i := 3) sc_Measure_init.nd rfl (Or.inl rfl) (pe_un un_neg (pv 3))))
      pss_nil))
      (pss_cons (ps_fld (pv 0) (pe_op op_fd (pv 1) (pv 3)) rfl)
      (pss_one (ps_fld (pv 0) (pe_op op_fd (pv 2) (pv 3)) rfl))))))), ?_⟩
    refine ⟨_, rfl, a, rfl, _, rfl, ?_⟩
    refine iteF ?_
    refine ⟨_, rfl, b, rfl, _, rfl, ?_⟩
    refine iteF ?_
    refine ⟨_, rfl, rfl, _, rfl, ?_⟩
    rw [dI]
    refine ite2 (fun e => absurd (of_decide_eq_true e) hb) (fun _ => ?_)
    refine ⟨_, rfl, _, rfl, a, b, rfl, ?_⟩
    refine ⟨fun σ' H' => H' = H ∧ ∃ c : Int, c = sgn b * (Int.gcd a b : Int) ∧ σ' = [some (.ref p), some (.int a), some (.int b), some (.int c)], ?_, ?_⟩
    · refine ⟨_, rfl, _, _, rfl, rfl, _, rfl, ?_⟩
      refine ite2 (fun e => ?_) (fun e => ?_)
      · have e0 : b < 0 := of_decide_eq_true e
        refine ⟨_, rfl, _, rfl, rfl, _, ?_, rfl⟩
        unfold sgn
        rw [if_neg (by omega), Int.neg_one_mul]
      · have e0 : ¬ b < 0 := fun z => e (decide_eq_true z)
        refine ⟨rfl, _, ?_, rfl⟩
        unfold sgn
        rw [if_pos (by omega), Int.one_mul]
    · rintro σ' H' ⟨rfl, c, hc, rfl⟩
      obtain ⟨c0, cl, fr⟩ := fr_mk hb hc
      have c9 : c.natAbs.log2 < 9000 := by
        refine Nat.lt_of_le_of_lt ?_ hl
        exact (Nat.le_log2 (by omega)).mpr (Nat.le_trans (Nat.log2_self_le (by omega)) cl)
      refine ⟨_, rfl, _, rfl, _, _, rfl, rfl, ⟨c0, c9⟩, _, rfl, p, _, dx, _, rfl, hp, T.cl_Measure, T.na_Measure_top, (by show 0 < 1000; decide), ?_⟩
      refine ⟨_, rfl, _, rfl, _, _, rfl, rfl, ⟨c0, c9⟩, _, rfl, p, _, dx, _, rfl, upd_same, T.cl_Measure, T.na_Measure_bottom, (by show 1 < 1000; decide), ?_⟩
      refine k _ _ _ fr ?_ fun q o e nq => ?_
      · rw [upd_same, mf_put]
      · rw [upd_ne nq, upd_ne nq]
        exact e
theorem ok_Measure_is_below {P : Program} {w : World} {K : PySem.W.Frag} {mg : Str → Option Value} {base : Heap} {φ : Fds} (T : Txt K mg φ) : FnOk P w K mg base CX0 1 (He.fAd K ("Measure", some "is_below")) φ.Measure_is_below p_Measure_is_below (sp_below (He.ga K "Measure")) := by
  refine T.f_Measure_is_below.ok sc_Measure_is_below (fun vs H Q E h => ?_) (fun cdv A outer s H vs Q E hr h => ?_)
  · obtain ⟨p, q, t, u, t', u', al, rfl, ⟨dp, hp⟩, ⟨dq, hq⟩, st, su, st', su', k⟩ := h; rfl
  · obtain ⟨p, q, t, u, t', u', al, rfl, ⟨dp, hp⟩, ⟨dq, hq⟩, st, su, st', su', k⟩ := h
    refine ⟨_, PSs.nox (pss_cons (ps_set (i := 3) sc_Measure_is_below.nd rfl (Or.inl rfl) (pe_op op_mulA (fldK (K := K) (pv 0) rfl) (fldK (K := K) (pv 1) rfl)))
      (pss_cons (ps_set (i := 4) sc_Measure_is_below.nd rfl (Or.inl rfl) (pe_op op_mulA (fldK (K := K) (pv 1) rfl) (fldK (K := K) (pv 0) rfl)))
      (pss_one (ps_ret (pe_or (pe_cmpR op_lt (pv 3) (pv 4) (nomark _)) (pe_one (pe_and (pv 2) (pe_one (pe_cmpR op_eq (pv 3) (pv 4) (nomark _)))))))))), ?_⟩
    refine ⟨_, rfl, _, _, _, _, _, rfl, hp, T.cl_Measure, T.na_Measure_top, mf_top _ _, _, rfl, _, _, _, _, _, rfl, hq, T.cl_Measure, T.na_Measure_bottom, mf_bottom _ _, _, _, rfl, rfl, st.cmul su' (by decide) (by decide) (by decide), ?_⟩
    refine ⟨_, rfl, _, _, _, _, _, rfl, hq, T.cl_Measure, T.na_Measure_top, mf_top _ _, _, rfl, _, _, _, _, _, rfl, hp, T.cl_Measure, T.na_Measure_bottom, mf_bottom _ _, _, _, rfl, rfl, st'.cmul su (by decide) (by decide) (by decide), ?_⟩
    refine ⟨_, rfl, _, rfl, _, _, rfl, rfl, _, rfl, ?_⟩
    have e : ∀ b : Bool, b = lessA t u t' u' al → Q (.bl b) H := fun b z => by rw [z]; exact k
    refine ite2 (fun c => e _ ?_) (fun c => ?_)
    · unfold lessA
      rw [c]
      rfl
    · have c0 : decide (t * u' < t' * u) = false := by simpa using c
      refine ⟨_, rfl, _, rfl, ?_⟩
      cases al with
      | false =>
        refine iteF (e _ ?_)
        unfold lessA
        rw [c0]
        rfl
      | true =>
        refine iteT ?_
        refine ⟨_, rfl, _, rfl, rfl, e _ ?_⟩
        unfold lessA
        rw [c0, dI]
        rfl
theorem ok_slip_of {P : Program} {w : World} {K : PySem.W.Frag} {mg : Str → Option Value} {base : Heap} {φ : Fds} (T : Txt K mg φ) : FnOk P w K mg base CX0 2 (He.fAd K ("slip_of", none)) φ.slip_of p_slip_of (sp_slip K (He.ga K "Measure")) := by
  obtain ⟨_, B0v, B0⟩ := b_Measure_is_below_2 T
  refine T.f_slip_of.ok sc_slip_of (fun vs H Q E h => ?_) (fun cdv A outer s H vs Q E hr h => ?_)
  · obtain ⟨T', k, ps, zs, rfl, hT, hm, hk, hl, kk⟩ := h; rfl
  · obtain ⟨T', k, ps, zs, rfl, hT, hm, hk, hl, kk⟩ := h
    refine ⟨_, PSs.nox (pss_cons (ps_for PassesOwn.never rfl (pi_range2 rfl T.z_range (pa_cons pe_int (pa_cons (pe_callB (id := "len") (lenS (K := K)) (by rfl) T.z_len PySem.boot_len (pa_cons (pv 0) pa_nil)) pa_nil))) (pg_name (i := 1) sc_slip_of.nd rfl (Or.inl rfl))
      (pss_one (ps_if (pt_not (pt_val (pe_meth (pe_ix (ixt (K := K)) (pv 0) (pe_op op_sub (pv 1) pe_int) (fun _ _ => rfl)) T.cl_Measure T.me_Measure_is_below (ok_Measure_is_below (K := K) T) (hr.mono (by decide)) B0 B0v pass0 (pa_cons (pe_ix (ixt (K := K)) (pv 0) (pv 1) (fun _ _ => rfl)) pa_nil))))
      (pss_one (ps_ret (pv 1)))
      pss_nil)))
      (pss_one (ps_ret pe_non))), ?_⟩
    have el : ((ps.length : Nat) : Int) = (zs.length : Int) := by rw [hm.len]
    walk_at "w"
    refine for_range (fun i σ H' => H' = H ∧ (∃ v, σ = [some (.ref T'), v]) ∧ ∀ j a b, j < i → zs[j]? = some a → zs[j + 1]? = some b → ltq a b = true) ⟨rfl, ⟨_, rfl⟩, fun j a b z => by omega⟩ ?_ ?_
    · rintro i σ H1 hi ⟨rfl, ⟨v, rfl⟩, hp⟩
      obtain ⟨a, ha⟩ := ge2 (zs := zs) (n := i) (by omega)
      obtain ⟨b, hb⟩ := ge2 (zs := zs) (n := i + 1) (by omega)
      obtain ⟨p, ep, qp⟩ := hm.at ha
      obtain ⟨q, eq, qq⟩ := hm.at hb
      walk_at "w"
      refine ⟨atI_of (n := i) (by omega) ep, ?_⟩
      walk_at "w"
      refine ⟨atI_of (n := i + 1) (by omega) eq, ?_⟩
      walk_at "w"
      cases e : ltq a b with
      | false =>
        refine iteT ⟨_, rfl, ?_⟩
        have z : (1 : Int) + i = ((i + 1 : Nat) : Int) := by omega
        rw [z]
        refine kk (some (i + 1)) ⟨by omega, by omega, fun a' b' h1 h2 => ?_, fun j a' b' hj h1 h2 => hp j a' b' (by omega) h1 h2⟩
        rw [Nat.add_sub_cancel, ha] at h1
        rw [hb] at h2
        cases h1; cases h2
        exact e
      | true =>
        refine iteF ⟨rfl, ⟨_, rfl⟩, fun j a' b' hj h1 h2 => ?_⟩
        by_cases hji : j < i
        · exact hp j a' b' hji h1 h2
        · have : j = i := by omega
          subst this
          rw [ha] at h1
          rw [hb] at h2
          cases h1; cases h2
          exact e
    · rintro σ H1 ⟨rfl, ⟨v, rfl⟩, hp⟩
      refine kk none fun j a b h1 h2 => hp j a b ?_ h1 h2
      have := (List.getElem?_eq_some_iff.mp h2).1
      omega
theorem ok_is_measure_or_none {P : Program} {w : World} {K : PySem.W.Frag} {mg : Str → Option Value} {base : Heap} {φ : Fds} (T : Txt K mg φ) : FnOk P w K mg base CX0 1 (He.fAd K ("is_measure_or_none", none)) φ.is_measure_or_none p_is_measure_or_none (sp_isendQ (He.ga K "Measure")) := by
  refine T.f_is_measure_or_none.ok sc_is_measure_or_none (fun vs H Q E h => ?_) (fun cdv A outer s H vs Q E hr h => ?_)
  · obtain ⟨v, k, e, rfl, he, kk⟩ := h; rfl
  · obtain ⟨v, k, e, rfl, he, kk⟩ := h
    refine ⟨_, PSs.nox (pss_one (ps_ret (pe_or (pe_cmpR op_isN (pv 0) pe_non (nomark _)) (pe_one (pe_callB (id := "isinstance") (isi (K := K)) (by rfl) T.z_isinstance (by decide +kernel) (pa_cons (pv 0) (pa_cons (pe_glob (v := .ref (He.ga K "Measure")) rfl T.g_Measure rfl) pa_nil))))))), ?_⟩
    cases e with
    | none =>
      cases he
      walk_at "w"
      exact kk
    | some z =>
      obtain ⟨p, rfl, qz⟩ := he
      obtain ⟨⟨t, u, ⟨dx, hp⟩, _⟩, _⟩ := qz
      refine ⟨_, rfl, rfl, _, rfl, ?_⟩
      walk_at "w"
      refine ⟨_, _, _, rfl, .own _, tyM hp T.cl_Measure T.ii_Measure, T.k_Measure_Measure, kk⟩
theorem ok_are_marks {P : Program} {w : World} {K : PySem.W.Frag} {mg : Str → Option Value} {base : Heap} {φ : Fds} (T : Txt K mg φ) : FnOk P w K mg base CX0 1 (He.fAd K ("are_marks", none)) φ.are_marks p_are_marks (sp_arem K (He.ga K "Measure")) := by
  refine T.f_are_marks.ok sc_are_marks (fun vs H Q E h => ?_) (fun cdv A outer s H vs Q E hr h => ?_)
  · obtain ⟨T', k, ps, zs, rfl, hT, hm, h0, h1, kk⟩ := h; rfl
  · obtain ⟨T', k, ps, zs, rfl, hT, hm, h0, h1, kk⟩ := h
    refine ⟨_, PSs.nox (pss_cons (ps_if (PW.pt (pw_or (pt_not (pt_val (pe_callB (id := "isinstance") (isi (K := K)) (by rfl) T.z_isinstance (by decide +kernel) (pa_cons (pv 0) (pa_cons (pe_bltn (v := .ty "tuple") rfl T.z_tuple (by decide +kernel) rfl) pa_nil))))) (pw_or1 (pt_not (pt_chain op_le op_le pe_int (pe_callB (id := "len") (lenS (K := K)) (by rfl) T.z_len PySem.boot_len (pa_cons (pv 0) pa_nil)) (C8.pe_gc (v := .int 24) rfl (T.v_MOST_MARKS.elim fun t e => ⟨_, e, ⟨t, rfl⟩⟩)))))))
      (pss_one (ps_ret pe_bl))
      pss_nil)
      (pss_one (ps_ret (pe_callB (id := "all") (allK (K := K)) (by rfl) T.z_all (by decide +kernel) (pa_cons (pe_lc (own := [("mark", 1)]) (g := gName 1) rfl sc_are_marks.nd (pi_tup (pv 0)) (blkOk_by (own := [("mark", 1)]) (N := N_are_marks) (sc := (defScope s_are_marks)) (by decide +kernel)) (fun _ _ _ _ _ => (pg_name (i := 1) sc_are_marks.nd rfl (Or.inl rfl))) (fun _ _ _ _ _ => pts_nil) (fun _ _ _ _ _ => (pe_callB (id := "isinstance") (isi (K := K)) (by rfl) T.z_isinstance (by decide +kernel) (pa_cons (pv 1) (pa_cons (pe_glob (v := .ref (He.ga K "Measure")) rfl T.g_Measure rfl) pa_nil))))) pa_nil))))), ?_⟩
    have el : ps.length = zs.length := hm.len
    refine ⟨_, rfl, _, _, _, _, _, rfl, .ty _, tyTup hT, kit_ty (r := true) (by decide +kernel), _, rfl, iteF ?_⟩
    walk_at "w"
    refine ⟨⟨_, hT⟩, fun D nD => ?_⟩
    refine lcz (n := ps.length) walk_tup (fun _ _ g s => s.sqt g) (List.replicate ps.length (some (V.bl true))) (by simp) (by rw [sizeLine_eq]; omega) hT nD (fun i x H1 H2 z N M hi hz s1 y hN hM => ?_) (fun H1 s1 hD => ?_)
    · obtain ⟨rfl, hx⟩ := y
      obtain ⟨p, z1, rfl, _, qz⟩ := (hm.same s1).of hx
      obtain ⟨⟨t, u, ⟨dx, hp⟩, _⟩, _⟩ := qz
      rw [List.getElem?_replicate, if_pos hi] at hz
      cases hz
      refine ⟨rfl, yesT ?_⟩
      exact ⟨_, rfl, _, _, _, _, _, rfl, .own _, tyM hp T.cl_Measure T.ii_Measure, T.k_Measure_Measure, hN _ _ rfl (Same.refl _)⟩
    have e : (List.replicate ps.length (some (V.bl true))).filterMap _root_.id = (List.replicate ps.length true).map V.bl := by
      generalize ps.length = n
      induction n with
      | zero => rfl
      | succ n ih => rw [List.replicate_succ, List.replicate_succ]; simpa using ih
    rw [e] at hD
    refine ⟨D, _, rfl, SqL.of hD, ?_⟩
    have e2 : (List.replicate ps.length true).all _root_.id = true := by
      generalize ps.length = n
      induction n with
      | zero => rfl
      | succ n ih => rw [List.replicate_succ]; simpa using ih
    rw [e2]
    exact kk _ s1
theorem ok_is_rule {P : Program} {w : World} {K : PySem.W.Frag} {mg : Str → Option Value} {base : Heap} {φ : Fds} (T : Txt K mg φ) : FnOk P w K mg base CX0 1 (He.fAd K ("is_rule", none)) φ.is_rule p_is_rule sp_isrule := by
  refine T.f_is_rule.ok sc_is_rule (fun vs H Q E h => ?_) (fun cdv A outer s H vs Q E hr h => ?_)
  · obtain ⟨r, rfl, hr', kk⟩ := h; rfl
  · obtain ⟨r, rfl, hr', kk⟩ := h
    refine ⟨_, PSs.nox (pss_one (ps_ret (pe_and (pe_callB (id := "isinstance") (isi (K := K)) (by rfl) T.z_isinstance (by decide +kernel) (pa_cons (pv 0) (pa_cons (pe_bltn (v := .ty "str") rfl T.z_str (by decide +kernel) rfl) pa_nil))) (pe_one (pe_cmpR (inK (K := K)) (pv 0) (pe_glob (v := .ref (He.ga K "RULES")) rfl T.g_RULES rfl) (by rfl)))))), ?_⟩
    refine ⟨_, rfl, _, _, _, _, _, rfl, .ty _, .base (.str _), kit_ty (r := true) (by decide +kernel), _, rfl, iteT ?_⟩
    refine ⟨_, rfl, _, _, rfl, .inr (T.tp_RULES H), rfl, rfl, ?_⟩
    have e : inV (.str r) (([Str.ofString "up", Str.ofString "down", Str.ofString "near"] : List Str).map V.str) = true := by
      rcases hr' with rfl | rfl | rfl <;> decide +kernel
    simp only [Bool.false_eq_true, if_false]
    rw [e]
    exact kk
theorem ok_is_span {P : Program} {w : World} {K : PySem.W.Frag} {mg : Str → Option Value} {base : Heap} {φ : Fds} (T : Txt K mg φ) : FnOk P w K mg base CX0 2 (He.fAd K ("is_span", none)) φ.is_span p_is_span (sp_span (He.ga K "Measure")) := by
  obtain ⟨_, B0v, B0⟩ := b_Measure_is_below_3 T
  refine T.f_is_span.ok sc_is_span (fun vs H Q E h => ?_) (fun cdv A outer s H vs Q E hr h => ?_)
  · obtain ⟨l, h, k, lo, hi, rfl, ql, qh, hk, kk⟩ := h; rfl
  · obtain ⟨l, h, k, lo, hi, rfl, ql, qh, hk, kk⟩ := h
    refine ⟨_, PSs.nox (pss_one (ps_ret (pe_or (pe_cmpR op_isN (pv 0) pe_non (nomark _)) (pe_or (pe_cmpR op_isN (pv 1) pe_non (nomark _)) (pe_one (pe_meth (pv 0) T.cl_Measure T.me_Measure_is_below (ok_Measure_is_below (K := K) T) (hr.mono (by decide)) B0 B0v pass0 (pa_cons (pv 1) (pa_cons pe_bl pa_nil)))))))), ?_⟩
    cases lo with
    | none =>
      cases ql
      walk_at "w"
      exact kk
    | some a =>
      obtain ⟨pl, rfl, qa⟩ := ql
      cases hi with
      | none =>
        cases qh
        walk_at "w"
        exact kk
      | some b =>
        obtain ⟨ph, rfl, qb⟩ := qh
        rw [span_leq] at kk
        walk_at "w"
        exact kk
theorem ok_Ladder_init {P : Program} {w : World} {K : PySem.W.Frag} {mg : Str → Option Value} {base : Heap} {φ : Fds} (T : Txt K mg φ) : FnOk P w K mg base CX0 3 (He.fAd K ("Ladder", some "__init__")) φ.Ladder_init p_Ladder_init (sp_linit K (He.ga K "Measure") (He.ga K "Ladder")) := by
  obtain ⟨_, B0v, B0⟩ := b_are_marks_1 T
  obtain ⟨_, B1v, B1⟩ := b_is_rule_1 T
  obtain ⟨_, B2v, B2⟩ := b_is_measure_or_none_1 T
  obtain ⟨_, B3v, B3⟩ := b_is_span_2 T
  obtain ⟨_, B4v, B4⟩ := b_slip_of_1 T
  refine T.f_Ladder_init.ok sc_Ladder_init (fun vs H Q E h => ?_) (fun cdv A outer s H vs Q E hr h => ?_)
  · obtain ⟨p, dx, T', k, ps, zs, r, l, h, lo, hi, rfl, hp, hT, hm, hk, h0, h1, hri, hru, ql, qh, hsp, kk⟩ := h; rfl
  · obtain ⟨p, dx, T', k, ps, zs, r, l, h, lo, hi, rfl, hp, hT, hm, hk, h0, h1, hri, hru, ql, qh, hsp, kk⟩ := h
    refine ⟨_, PSs.nox (pss_cons (ps_if (pt_not (pt_val (pe_call (ok_are_marks (K := K) T) (hr.mono (by decide)) rfl T.g_are_marks T.f_are_marks.kp B0 B0v pass0 (pa_cons (pv 1) pa_nil))))
      (pss_one ps_never)
      pss_nil)
      (pss_cons (ps_if (pt_not (pt_val (pe_call (ok_is_rule (K := K) T) (hr.mono (by decide)) rfl T.g_is_rule T.f_is_rule.kp B1 B1v pass0 (pa_cons (pv 2) pa_nil))))
      (pss_one ps_never)
      pss_nil)
      (pss_cons (ps_if (PW.pt (pw_or (pt_not (pt_val (pe_call (ok_is_measure_or_none (K := K) T) (hr.mono (by decide)) rfl T.g_is_measure_or_none T.f_is_measure_or_none.kp B2 B2v pass0 (pa_cons (pv 3) pa_nil)))) (pw_or1 (pt_not (pt_val (pe_call (ok_is_measure_or_none (K := K) T) (hr.mono (by decide)) rfl T.g_is_measure_or_none T.f_is_measure_or_none.kp B2 B2v pass0 (pa_cons (pv 4) pa_nil)))))))
      (pss_one ps_never)
      pss_nil)
      (pss_cons (ps_if (pt_not (pt_val (pe_call (ok_is_span (K := K) T) (hr.mono (by decide)) rfl T.g_is_span T.f_is_span.kp B3 B3v pass0 (pa_cons (pv 3) (pa_cons (pv 4) pa_nil)))))
      (pss_one ps_never)
      pss_nil)
      (pss_cons (ps_set (i := 5) sc_Ladder_init.nd rfl (Or.inl rfl) (pe_call (ok_slip_of (K := K) T) (hr.mono (by decide)) rfl T.g_slip_of T.f_slip_of.kp B4 B4v pass0 (pa_cons (pv 1) pa_nil)))
      (pss_cons (ps_if (pt_cmpR op_notN (pv 5) pe_non (nomark _))
      (pss_one ps_never)
      pss_nil)
      (pss_cons (ps_fld (pv 0) (pv 1) rfl)
      (pss_cons (ps_fld (pv 0) (pv 2) rfl)
      (pss_cons (ps_fld (pv 0) (pv 3) rfl)
      (pss_one (ps_fld (pv 0) (pv 4) rfl))))))))))), ?_⟩
    have cl_Ladder := T.cl_Ladder
    have na_Ladder_marks := T.na_Ladder_marks
    have na_Ladder_rule := T.na_Ladder_rule
    have na_Ladder_least := T.na_Ladder_least
    have na_Ladder_most := T.na_Ladder_most
    
    walk_at "w"
    refine ⟨zs, rfl, hT, hm, h0, h1, fun H1 s1 => ?_⟩
    walk_at "w"
    refine ⟨lo, rfl, ql.same s1, ?_⟩
    walk_at "w"
    refine ⟨hi, rfl, qh.same s1, ?_⟩
    have hT1 := s1.sqt hT
    have hm1 := hm.same s1
    replace ql := ql.same s1
    replace qh := qh.same s1
    have hp1 := s1 _ _ hp
    walk_at "w"
    refine ⟨lo, hi, rfl, ql, qh, by omega, ?_⟩
    rw [hsp]
    walk_at "w"
    refine ⟨zs, rfl, hT1, hm1, by omega, by omega, fun o ho => ?_⟩
    have eo : o = none := by
      cases o with
      | none => rfl
      | some n =>
        obtain ⟨n1, n2, n3, _⟩ := ho
        obtain ⟨a, ha⟩ := ge2 (zs := zs) (n := n - 1) (by omega)
        obtain ⟨b, hb⟩ := ge2 (zs := zs) (n := n) n2
        have z1 := n3 a b ha hb
        have z2 := hri (n - 1) a b ha (by rw [Nat.sub_add_cancel n1]; exact hb)
        rw [z1] at z2
        cases z2
    subst eo
    walk_at "w"
    refine ⟨by show 0 < 1000; decide, ?_⟩
    refine ⟨_, rfl, _, rfl, p, _, dx, _, rfl, upd_same, cl_Ladder, na_Ladder_rule, by show 1 < 1000; decide, ?_⟩
    refine ⟨_, rfl, _, rfl, p, _, dx, _, rfl, upd_same, cl_Ladder, na_Ladder_least, by show 2 < 1000; decide, ?_⟩
    refine ⟨_, rfl, _, rfl, p, _, dx, _, rfl, upd_same, cl_Ladder, na_Ladder_most, by show 3 < 1000; decide, ?_⟩
    refine kk _ ?_ fun c o ec nc => ?_
    · rw [upd_same, lf_put]
    · rw [upd_ne nc, upd_ne nc, upd_ne nc, upd_ne nc]
      exact s1 _ _ ec
theorem ok_l_hand {P : Program} {w : World} {K : PySem.W.Frag} {mg : Str → Option Value} {base : Heap} {φ : Fds} (T : Txt K mg φ) : FnOk P w K mg base CX0 1 (He.fAd K ("_law_hand", none)) φ.l_hand p_l_hand (sp_hand K) := by
  refine T.f_l_hand.ok sc_l_hand (fun vs H Q E h => ?_) (fun cdv A outer s H vs Q E hr h => ?_)
  · obtain ⟨a, ns, kk, rfl, hS, hk, k⟩ := h; rfl
  · obtain ⟨a, ns, kk, rfl, hS, hk, k⟩ := h
    refine ⟨_, PSs.nox (pss_cons (ps_set (i := 2) sc_l_hand.nd rfl (Or.inl rfl) pe_int)
      (pss_cons (ps_cut (ps_if (pt_cmpR op_lt (pv 1) (pe_callB (id := "len") (lenS (K := K)) (by rfl) T.z_len PySem.boot_len (pa_cons (pv 0) pa_nil)) (nomark _))
      (pss_one (ps_set (i := 2) sc_l_hand.nd rfl (Or.inl rfl) (pe_ix (ixl (K := K)) (pv 0) (pv 1) (fun _ _ => rfl))))
      pss_nil))
      (pss_cons (ps_set (i := 3) sc_l_hand.nd rfl (Or.inl rfl) (pe_op op_mulA (pe_callB (id := "abs") call_abs (by rfl) T.z_abs (by decide +kernel) (pa_cons (pv 2) pa_nil)) (pe_callTy (T := "int") call_int1 (by rfl) T.z_int (by decide +kernel) (pa_cons (pe_cmpR op_ge (pe_callB (id := "abs") call_abs (by rfl) T.z_abs (by decide +kernel) (pa_cons (pv 2) pa_nil)) (pe_op op_pow pe_int pe_int) (nomark _)) pa_nil))))
      (pss_one (ps_ret (pe_lst (pa_cons (pv 3) (pa_cons (pe_op op_mod (pe_op op_add (pe_op op_add (pe_op op_mod (pv 2) pe_int) (pe_op op_mulA pe_int (pv 1))) pe_int) pe_int) (pa_cons pe_int pa_nil))))))))), ?_⟩
    refine ⟨fun σ' H' => H' = H ∧ ∃ z : Int, σ' = [some (.ref a), some (.int kk), some (.int z), none], ?_, ?_⟩
    · refine ⟨_, rfl, _, rfl, a, _, rfl, .inl hS, _, _, rfl, rfl, _, rfl, ?_⟩
      refine ite2 (fun e => ?_) (fun e => ?_)
      · have e0 : (kk : Int) < ((ns.map V.int).length : Int) := of_decide_eq_true e
        rw [List.length_map] at e0
        have e1 : kk < ns.length := by omega
        refine ⟨_, rfl, _, rfl, a, _, _, V.int ns[kk], rfl, rfl, hS, atI_nat ?_, rfl, _, rfl⟩
        rw [List.getElem?_map, List.getElem?_eq_getElem e1]
        rfl
      · exact ⟨rfl, 0, rfl⟩
    · rintro σ' H' ⟨rfl, z, rfl⟩
      refine ⟨_, rfl, _, rfl, _, rfl, _, rfl, _, _, rfl, rfl, ⟨by decide, by decide, by decide⟩, _, _, rfl, rfl, .inr ⟨_, rfl, _, _, rfl, rfl, .inl (.inr ?_), ?_⟩⟩
      · cases decide ((10 : Int) ^ Int.toNat 18 ≤ (if z < 0 then -z else z)) <;> exact ⟨by decide, by decide⟩
      refine ⟨_, rfl, _, rfl, _, _, rfl, rfl, (by show (0 : Int) < 2305843009213693951; decide), _, rfl, _, _, rfl, rfl, .inl (.inl ⟨by decide, by decide⟩), _, _, rfl, rfl, _, _, rfl, rfl, _, _, rfl, rfl, (by show (0 : Int) < 2305843009213693951; decide), by show 3 ≤ sizeLine; decide, fun p hp => ?_⟩
      refine k p _ hp (same1 hp) ⟨_, _, _, upd_same, ?_, Int.emod_nonneg _ (by decide), Int.lt_trans (Int.emod_lt_of_pos _ (by decide)) (by decide), by decide, by decide⟩
      have ez : 0 ≤ (if z < 0 then -z else z) := by split <;> omega
      generalize (if z < 0 then -z else z) = y at *
      by_cases e : (10 : Int) ^ Int.toNat 18 ≤ y
      · rw [decide_eq_true e]
        show 0 ≤ y * 1
        omega
      · rw [decide_eq_false e]
        show 0 ≤ y * 0
        omega
theorem ok_l_take {P : Program} {w : World} {K : PySem.W.Frag} {mg : Str → Option Value} {base : Heap} {φ : Fds} (T : Txt K mg φ) : FnOk P w K mg base CX0 1 (He.fAd K ("_law_take", none)) φ.l_take p_l_take sp_take := by
  refine T.f_l_take.ok sc_l_take (fun vs H Q E h => ?_) (fun cdv A outer s H vs Q E hr h => ?_)
  · obtain ⟨hd, n, m, rfl, hh, hn, hm, hl, k⟩ := h; rfl
  · obtain ⟨hd, n, m, rfl, hh, hn, hm, hl, k⟩ := h
    refine ⟨_, PSs.nox (pss_cons (ps_if (pt_cmpR op_gt (pe_ix (ixl (K := K)) (pv 0) pe_int (fun _ _ => rfl)) pe_int (nomark _))
      (pss_cons (ps_set (i := 2) sc_l_take.nd rfl (Or.inl rfl) (pe_op op_mod (pe_ix (ixl (K := K)) (pv 0) pe_int (fun _ _ => rfl)) (pv 1)))
      (pss_cons (ps_asg (pe_op op_fd (pe_ix (ixl (K := K)) (pv 0) pe_int (fun _ _ => rfl)) (pv 1)) (pg_sub (pv 0) pe_int set_list))
      (pss_one (ps_ret (pv 2)))))
      pss_nil)
      (pss_cons (ps_asg (pe_op op_add (pe_ix (ixl (K := K)) (pv 0) pe_int (fun _ _ => rfl)) pe_int) (pg_sub (pv 0) pe_int set_list))
      (pss_cons (ps_set (i := 3) sc_l_take.nd rfl (Or.inl rfl) (pe_op op_mod (pe_op op_pow (pe_op op_add (pe_op op_add (pe_ix (ixl (K := K)) (pv 0) pe_int (fun _ _ => rfl)) (pe_op op_mulA (pe_op op_mulA pe_int (pe_ix (ixl (K := K)) (pv 0) pe_int (fun _ _ => rfl))) (pe_ix (ixl (K := K)) (pv 0) pe_int (fun _ _ => rfl)))) pe_int) pe_int) pe_int))
      (pss_cons (ps_set (i := 3) sc_l_take.nd rfl (Or.inl rfl) (pe_op op_mod (pe_op op_mulA (pv 3) (pe_op op_add (pe_op op_mod (pv 3) pe_int) (pe_op op_mulA pe_int (pe_ix (ixl (K := K)) (pv 0) pe_int (fun _ _ => rfl))))) pe_int))
      (pss_one (ps_ret (pe_op op_mod (pe_op op_fd (pv 3) pe_int) (pv 1)))))))), ?_⟩
    obtain ⟨a, b, c, h0, ha, hb, hb2, hc, hc2⟩ := hh
    refine ⟨_, rfl, _, _, _, _, rfl, rfl, SqL.of h0, rfl, _, _, rfl, rfl, _, rfl, ?_⟩
    refine ite2 (fun e => ?_) (fun e => ?_)
    · have e0 : 0 < a := of_decide_eq_true e
      refine ⟨_, rfl, _, _, _, _, rfl, rfl, SqL.of h0, rfl, _, rfl, _, _, rfl, rfl, hm, ?_⟩
      refine ⟨_, rfl, _, _, _, _, rfl, rfl, SqL.of h0, rfl, _, rfl, _, _, rfl, rfl, ⟨by omega, hl⟩, _, rfl, _, _, _, _, rfl, rfl, h0, rfl, ?_⟩
      refine ⟨_, rfl, k _ _ (Int.emod_nonneg _ (by omega)) (Int.emod_lt_of_pos _ hm) ⟨a.fdiv m, b, c, upd_same, ?_, hb, hb2, hc, by omega⟩ (Kp.refl _ _).set⟩
      rw [Int.fdiv_eq_ediv_of_nonneg a (by omega)]
      exact Int.ediv_nonneg ha (by omega)
    · have c9 : c ≤ 1000000 := by omega
      refine ⟨_, rfl, _, _, _, _, rfl, rfl, SqL.of h0, rfl, _, _, rfl, rfl, _, rfl, _, _, _, _, rfl, rfl, h0, rfl, ?_⟩
      have h1 : (upd H hd (.lst ([V.int a, V.int b, V.int c].set 2 (V.int (c + 1))))) hd = some (.lst [V.int a, V.int b, V.int (c + 1)]) := upd_same
      have hcc : 0 ≤ 7919 * (c + 1) * (c + 1) := Int.mul_nonneg (Int.mul_nonneg (by omega) (by omega)) (by omega)
      have hcd : 7919 * (c + 1) * (c + 1) ≤ 7919 * 1000001 * 1000001 := Int.mul_le_mul (Int.mul_le_mul_of_nonneg_left (by omega) (by omega)) (by omega) (by omega) (by omega)
      refine ⟨_, rfl, _, _, _, _, rfl, rfl, SqL.of h1, rfl, _, rfl, _, _, _, _, rfl, rfl, SqL.of h1, rfl, _, _, rfl, rfl, .inl (.inl ⟨by decide, by decide⟩), _, rfl, _, _, _, _, rfl, rfl, SqL.of h1, rfl, _, _, rfl, rfl, .inl (.inr ⟨by omega, by omega⟩), _, _, rfl, rfl, _, _, rfl, rfl, _, _, rfl, rfl, ⟨by decide, by decide, by omega⟩, _, _, rfl, rfl, (by show (0 : Int) < 2305843009213693921; decide), ?_⟩
      refine ⟨_, rfl, _, rfl, _, _, rfl, rfl, (by show (0 : Int) < 1000003; decide), _, rfl, _, _, _, _, rfl, rfl, SqL.of h1, rfl, _, _, rfl, rfl, .inl (.inl ⟨by decide, by decide⟩), _, _, rfl, rfl, _, _, rfl, rfl, .inl (.inr ?_), _, _, rfl, rfl, (by show (0 : Int) < 2305843009213693907; decide), ?_⟩
      · generalize (b + 7919 * (c + 1) * (c + 1) + 11) ^ Int.toNat 3 % 2305843009213693921 = z
        constructor <;> omega
      · generalize (b + 7919 * (c + 1) * (c + 1) + 11) ^ Int.toNat 3 % 2305843009213693921 = z
        generalize z * (z % 1000003 + 99991 * (c + 1)) % 2305843009213693907 = y
        refine ⟨_, rfl, _, _, rfl, rfl, ⟨by decide, by decide +kernel⟩, _, rfl, _, _, rfl, rfl, hm, ?_⟩
        exact k _ _ (Int.emod_nonneg _ (by omega)) (Int.emod_lt_of_pos _ hm) ⟨a, b, c + 1, upd_same, ha, hb, hb2, by omega, by omega⟩ (Kp.refl _ _).set
theorem ok_l_pick {P : Program} {w : World} {K : PySem.W.Frag} {mg : Str → Option Value} {base : Heap} {φ : Fds} (T : Txt K mg φ) : FnOk P w K mg base CX0 2 (He.fAd K ("_law_pick", none)) φ.l_pick p_l_pick (sp_of K) := by
  obtain ⟨_, B0v, B0⟩ := b_l_take_2 T
  refine T.f_l_pick.ok sc_l_pick (fun vs H Q E h => ?_) (fun cdv A outer s H vs Q E hr h => ?_)
  · obtain ⟨h, l, n, xs, rfl, hh, hn, hl, ne, l0, l1, k⟩ := h; rfl
  · obtain ⟨h, l, n, xs, rfl, hh, hn, hl, ne, l0, l1, k⟩ := h
    refine ⟨_, PSs.nox (pss_one (ps_ret (pe_ix (ixl (K := K)) (pv 1) (pe_call (ok_l_take (K := K) T) (hr.mono (by decide)) rfl T.g_l_take T.f_l_take.kp B0 B0v pass0 (pa_cons (pv 0) (pa_cons (pe_callB (id := "len") (lenS (K := K)) (by rfl) T.z_len PySem.boot_len (pa_cons (pv 1) pa_nil)) pa_nil))) (fun _ _ => rfl)))), ?_⟩
    refine ⟨_, rfl, _, rfl, _, rfl, l, xs, rfl, .inl hl, h, n, (xs.length : Int), rfl, hh, by omega, by omega, ?_, fun d H1 d0 d1 hh1 k1 => ?_⟩
    · have : (xs.length : Int).natAbs = xs.length := by omega
      rw [this]
      have : xs.length < 2 ^ 10 := by omega
      exact Nat.lt_of_lt_of_le (PySem.Flt.log2_lt_of (by decide) this) (by decide)
    obtain ⟨j, rfl⟩ := Int.eq_ofNat_of_zero_le d0
    have hj : j < xs.length := by omega
    exact ⟨l, xs, _, xs[j], rfl, rfl, k1.seq ne hl, atI_nat (List.getElem?_eq_getElem hj), k j _ _ (List.getElem?_eq_getElem hj) hh1 k1⟩
theorem ok_l_plain {P : Program} {w : World} {K : PySem.W.Frag} {mg : Str → Option Value} {base : Heap} {φ : Fds} (T : Txt K mg φ) : FnOk P w K mg base CX0 1 (He.fAd K ("_law_plain", none)) φ.l_plain p_l_plain sp_plain := by
  refine T.f_l_plain.ok sc_l_plain (fun vs H Q E h => ?_) (fun cdv A outer s H vs Q E hr h => ?_)
  · obtain ⟨a, b, k, rfl, hb, sa, sb, k0, k1, kk⟩ := h; rfl
  · obtain ⟨a, b, k, rfl, hb, sa, sb, k0, k1, kk⟩ := h
    refine ⟨_, PSs.nox (pss_cons (ps_par (i := 2) (j := 3) rfl sc_l_plain.nd rfl rfl (by decide) rfl rfl (pa_cons (pe_callB (id := "abs") call_abs (by rfl) T.z_abs (by decide +kernel) (pa_cons (pv 0) pa_nil)) (pa_cons (pv 1) pa_nil)) (by rfl))
      (pss_cons (ps_while PassesOwn.never (pt_cmpR op_gt (pv 3) pe_int (nomark _))
      (pss_one (ps_par (i := 2) (j := 3) rfl sc_l_plain.nd rfl rfl (by decide) rfl rfl (pa_cons (pv 3) (pa_cons (pe_op op_mod (pv 2) (pv 3)) pa_nil)) (by rfl))))
      (pss_one (ps_ret (pe_tup (pa_cons (pe_op op_fd (pv 0) (pv 2)) (pa_cons (pe_op op_fd (pv 1) (pv 2)) pa_nil))))))), ?_⟩
    refine ⟨_, rfl, _, rfl, _, rfl, _, _, rfl, ?_⟩
    refine while_by (fun σ H' => H' = H ∧ ∃ g s : Int, σ = [some (.int a), some (.int b), some (.int g), some (.int s)] ∧ 0 ≤ g ∧ 0 ≤ s ∧ Int.gcd g s = Int.gcd a b)
      (fun σ _ => match σ with | [_, _, _, some (.int s)] => s.toNat | _ => 0) ⟨rfl, _, _, rfl, ?_, ?_, ?_⟩ ?_ (fun σ H Q Q' hQ ⟨v, e1, i, j, e2, e3, c, e4, q⟩ => ⟨v, e1, i, j, e2, e3, c, e4, hQ _ _ q⟩)
    · split <;> omega
    · omega
    · have e1 : (if a < 0 then -a else a) = (a.natAbs : Int) := by split <;> omega
      rw [e1]
      show Nat.gcd (a.natAbs : Int).natAbs b.natAbs = _
      rw [Int.natAbs_natCast]
      rfl
    rintro σ H' ⟨rfl, g, s, rfl, hg, hs, e⟩
    refine ⟨_, rfl, _, _, rfl, rfl, _, rfl, ?_⟩
    refine ite2 (fun c => ?_) (fun c => ?_)
    · have c0 : 0 < s := of_decide_eq_true c
      refine ⟨_, rfl, _, rfl, _, rfl, _, _, rfl, rfl, c0, _, _, rfl, ?_⟩
      refine ⟨⟨rfl, s, g % s, rfl, hs, Int.emod_nonneg _ (by omega), (gcd_step c0 hg).trans e⟩, ?_⟩
      show (g % s).toNat < s.toNat
      have h1 := Int.emod_nonneg g (show s ≠ 0 by omega)
      have h2 := Int.emod_lt_of_pos g c0
      omega
    · have c0 : ¬ 0 < s := fun z => c (decide_eq_true z)
      have s0 : s = 0 := by omega
      subst s0
      have eg : g = (Int.gcd a b : Int) := by
        rw [← e, Int.gcd_zero_right]
        omega
      subst eg
      have es : (Int.gcd a b : Int) = sgn b * (Int.gcd a b : Int) := by
        unfold sgn
        rw [if_pos hb, Int.one_mul]
      obtain ⟨c0, cl, fr⟩ := fr_mk (a := a) (b := b) (by omega) es
      have c9 : (Int.gcd a b : Int).natAbs.log2 < 9000 := (sb.le cl).log k0 (by omega)
      refine ⟨_, rfl, _, rfl, _, _, rfl, rfl, ⟨c0, c9⟩, _, rfl, _, rfl, _, _, rfl, rfl, ⟨c0, c9⟩, by show 2 ≤ sizeLine; decide, fun p np => ?_⟩
      exact kk _ (a.fdiv (Int.gcd a b : Int), b.fdiv (Int.gcd a b : Int)) _ (same1 np) (TQ.mk upd_same fr.pos (sa.le fr.lt) (sb.le fr.lu)) ⟨fr.pos, hb, fr.eq⟩
theorem ok_l_sum {P : Program} {w : World} {K : PySem.W.Frag} {mg : Str → Option Value} {base : Heap} {φ : Fds} (T : Txt K mg φ) : FnOk P w K mg base CX0 2 (He.fAd K ("_law_sum", none)) φ.l_sum p_l_sum sp_sum := by
  obtain ⟨_, B0v, B0⟩ := b_l_plain_2 T
  refine T.f_l_sum.ok sc_l_sum (fun vs H Q E h => ?_) (fun cdv A outer s H vs Q E hr h => ?_)
  · obtain ⟨v, w, k, j, x, y, rfl, ⟨p, rfl, hp, px, x1, x2⟩, ⟨q, rfl, hq, py, y1, y2⟩, k0, j0, l, kk⟩ := h; rfl
  · obtain ⟨v, w, k, j, x, y, rfl, ⟨p, rfl, hp, px, x1, x2⟩, ⟨q, rfl, hq, py, y1, y2⟩, k0, j0, l, kk⟩ := h
    refine ⟨_, PSs.nox (pss_one (ps_ret (pe_call (ok_l_plain (K := K) T) (hr.mono (by decide)) rfl T.g_l_plain T.f_l_plain.kp B0 B0v pass0 (pa_cons (pe_op op_add (pe_op op_mulA (pe_ix (ixt (K := K)) (pv 0) pe_int (fun _ _ => rfl)) (pe_ix (ixt (K := K)) (pv 1) pe_int (fun _ _ => rfl))) (pe_op op_mulA (pe_ix (ixt (K := K)) (pv 1) pe_int (fun _ _ => rfl)) (pe_ix (ixt (K := K)) (pv 0) pe_int (fun _ _ => rfl)))) (pa_cons (pe_op op_mulA (pe_ix (ixt (K := K)) (pv 0) pe_int (fun _ _ => rfl)) (pe_ix (ixt (K := K)) (pv 1) pe_int (fun _ _ => rfl))) pa_nil))))), ?_⟩
    walk_at "w"
    refine ⟨x1.cmul y2 k0 j0 (by omega), ?_⟩
    walk_at "w"
    refine ⟨y1.cmul x2 j0 k0 (by omega), ?_⟩
    walk_at "w"
    refine ⟨x2.cmul y2 k0 j0 (by omega), ?_⟩
    refine ⟨_, _, k + j + 1, rfl, Int.mul_pos px py, (x1.mul y2).add ?_, (x2.mul y2).mono (by omega), by omega, by omega, fun v z H' s t r => kk v z H' s t r⟩
    have := y1.mul x2
    rw [Nat.add_comm j k] at this
    exact this
theorem ok_l_measures {P : Program} {w : World} {K : PySem.W.Frag} {mg : Str → Option Value} {base : Heap} {φ : Fds} (T : Txt K mg φ) : FnOk P w K mg base CX0 4 (He.fAd K ("_law_measures", none)) φ.l_measures p_l_measures (sp_meass K (He.ga K "Measure")) := by
  obtain ⟨_, B0v, B0⟩ := b_Measure_init_3 T
  refine T.f_l_measures.ok sc_l_measures (fun vs H Q E h => ?_) (fun cdv A outer s H vs Q E hr h => ?_)
  · obtain ⟨p, k, us, zs, rfl, hq, hm, k0, k1, l1, kk⟩ := h; rfl
  · obtain ⟨p, k, us, zs, rfl, hq, hm, k0, k1, l1, kk⟩ := h
    refine ⟨_, PSs.nox (pss_one (ps_ret (pe_callTy (T := "tuple") (tupleL (K := K)) (by rfl) T.z_tuple (by decide +kernel) (pa_cons (pe_lc (own := [("_law_top", 1), ("_law_bottom", 2)]) (g := gTup K 2 (gCons (gName 1) (gCons (gName 2) (gNil)))) rfl sc_l_measures.nd (pi_seq (pv 0)) (blkOk_by (own := [("_law_top", 1), ("_law_bottom", 2)]) (N := N_l_measures) (sc := (defScope s_l_measures)) (by decide +kernel)) (fun _ _ _ _ _ => (pg_tup rfl (pgs_cons (pg_name (i := 1) sc_l_measures.nd rfl (Or.inl rfl)) (pgs_cons (pg_name (i := 2) sc_l_measures.nd rfl (Or.inl rfl)) pgs_nil)))) (fun _ _ _ _ _ => pts_nil) (fun _ _ _ _ _ => (pe_make T.mk_Measure (ok_Measure_init (K := K) T) (hr.mono (by decide)) rfl T.g_Measure B0 B0v pass0 (pa_cons (pv 1) (pa_cons (pv 2) pa_nil))))) pa_nil)))), ?_⟩
    have el : us.length = zs.length := hm.len
    have body : ∀ (i : Nat) (x : V) (H1 : Hp) (N : VK) (M : Hp → Prop), us[i]? = some x → Same H H1 → (∀ y H4, Same H1 H4 → (∃ q z, y = V.ref q ∧ zs[i]? = some z ∧ QAt (He.ga K "Measure") H4 q k z) → N y H4) → ∃ (q : Addr) (z : Q2), x = .ref q ∧ H1 q = some (.tup [.int z.1, .int z.2]) ∧ zs[i]? = some z ∧ 0 < z.2 ∧ Sz k z.1 ∧ Sz k z.2 := fun i x H1 N M hx s1 hN => by
      obtain ⟨z, hz, t⟩ := (hm.same s1).of hx
      obtain ⟨q, e, h2, h3, h4, h5⟩ := t
      exact ⟨q, z, e, h2, hz, h3, h4, h5⟩
    have fin : ∀ (D : Addr) (H1 : Hp) (ys : List V), Same H H1 → H1 D = some (.lst ys) → ys.length = us.length → (∀ (i : Nat) (y : V), ys[i]? = some y → ∃ q z, y = V.ref q ∧ zs[i]? = some z ∧ QAt (He.ga K "Measure") H1 q k z) → ∀ T2, H1 T2 = none → Q (.ref T2) (upd H1 T2 (.tup ys)) := fun D H1 ys s1 hD ly hy T2 nT2 => by
      refine kk T2 ys _ (s1.up nT2) upd_same ⟨by omega, fun i v z h1 h2 => ?_⟩
      obtain ⟨q, z', e1, e2, e3⟩ := hy i v h1
      rw [h2] at e2
      cases e2
      exact ⟨q, e1, e3.same (same1 nT2)⟩
    rcases hq with hq | hq
    · refine ⟨_, rfl, p, rfl, .inl ⟨⟨_, hq⟩, fun D nD => ?_⟩⟩
      refine lcr (n := us.length) walk_list (fun _ _ g s => s.seq g) (fun i H v => ∃ q z, v = .ref q ∧ zs[i]? = some z ∧ QAt (He.ga K "Measure") H q k z) (fun i H H' y ⟨q, m, e1, e2, e3⟩ n => ⟨q, m, e1, e2, e3.nl n⟩) (szs (by omega)) hq nD (fun i x H1 H2 N M hi s1 y hN => ?_) (fun H1 ys s1 hD ly hy => ?_)
      · obtain ⟨rfl, hx⟩ := y
        obtain ⟨q, z, rfl, h2, hz, h3, h4, h5⟩ := body i x _ N M hx s1 hN
        refine ⟨q, _, rfl, SqT.of h2, rfl, _, _, rfl, _, _, rfl, rfl, rfl, yesT ?_⟩
        walk_at "w"
        exact q_made (k := k) h3 h4 h5 k0 (by omega) fun q2 H3 s3 R => hN _ _ s3 ⟨q2, z, rfl, hz, R⟩
      · walk_at "w"
        exact fin D H1 ys s1 hD ly hy
    · refine ⟨_, rfl, p, rfl, .inr ⟨⟨_, hq⟩, fun D nD => ?_⟩⟩
      refine lcr (n := us.length) walk_tup (fun _ _ g s => s.sqt g) (fun i H v => ∃ q z, v = .ref q ∧ zs[i]? = some z ∧ QAt (He.ga K "Measure") H q k z) (fun i H H' y ⟨q, m, e1, e2, e3⟩ n => ⟨q, m, e1, e2, e3.nl n⟩) (szs (by omega)) hq nD (fun i x H1 H2 N M hi s1 y hN => ?_) (fun H1 ys s1 hD ly hy => ?_)
      · obtain ⟨rfl, hx⟩ := y
        obtain ⟨q, z, rfl, h2, hz, h3, h4, h5⟩ := body i x _ N M hx s1 hN
        refine ⟨q, _, rfl, SqT.of h2, rfl, _, _, rfl, _, _, rfl, rfl, rfl, yesT ?_⟩
        walk_at "w"
        exact q_made (k := k) h3 h4 h5 k0 (by omega) fun q2 H3 s3 R => hN _ _ s3 ⟨q2, z, rfl, hz, R⟩
      · walk_at "w"
        exact fin D H1 ys s1 hD ly hy
theorem ok_l_part {P : Program} {w : World} {K : PySem.W.Frag} {mg : Str → Option Value} {base : Heap} {φ : Fds} (T : Txt K mg φ) : FnOk P w K mg base CX0 3 (He.fAd K ("_law_part", none)) φ.l_part p_l_part sp_lpart := by
  obtain ⟨_, B0v, B0⟩ := b_l_plain_2 T
  obtain ⟨_, B1v, B1⟩ := b_l_pick_2 T
  obtain ⟨_, B2v, B2⟩ := b_l_take_2 T
  refine T.f_l_part.ok sc_l_part (fun vs H Q E h => ?_) (fun cdv A outer s H vs Q E hr h => ?_)
  · obtain ⟨h, n, rfl, hh, hn, kk⟩ := h; rfl
  · obtain ⟨h, n, rfl, hh, hn, kk⟩ := h
    refine ⟨_, PSs.nox (pss_one (ps_ret (pe_call (ok_l_plain (K := K) T) (hr.mono (by decide)) rfl T.g_l_plain T.f_l_plain.kp B0 B0v pass0 (pa_cons (pe_op op_add pe_int (pe_call (ok_l_take (K := K) T) (hr.mono (by decide)) rfl T.g_l_take T.f_l_take.kp B2 B2v pass0 (pa_cons (pv 0) (pa_cons pe_int pa_nil)))) (pa_cons (pe_call (ok_l_pick (K := K) T) (hr.mono (by decide)) rfl T.g_l_pick T.f_l_pick.kp B1 B1v pass0 (pa_cons (pv 0) (pa_cons (pe_lst (pa_cons pe_int (pa_cons pe_int (pa_cons pe_int (pa_cons pe_int (pa_cons pe_int (pa_cons pe_int (pa_cons pe_int pa_nil)))))))) pa_nil))) pa_nil))))), ?_⟩
    walk_at "w"
    intro d H1 d0 d1 hh1 k1
    walk_at "w"
    intro p1 np1
    refine ⟨h, p1, _, _, rfl, hh1.up np1, by omega, SqL.of upd_same, hh1.ne np1, by decide, by decide, fun i1 vb H2 hr1 hh2 k2 => ?_⟩
    have hb : ∃ b : Int, vb = .int b ∧ 0 < b ∧ b ≤ 1000003 := by
      have hm := List.mem_of_getElem? hr1
      simp at hm
      rcases hm with rfl | rfl | rfl | rfl | rfl | rfl <;> exact ⟨_, rfl, by decide, by decide⟩
    obtain ⟨b, rfl, b0, b1⟩ := hb
    refine ⟨1 + d, b, 20, rfl, b0, ?_, ?_, by decide, by decide, fun v z H3 s3 t r => ?_⟩
    · show (1 + d).natAbs < 2 ^ 20
      omega
    · show b.natAbs < 2 ^ 20
      omega
    exact kk v z H3 (hh2.same s3) (((k1.up np1).trans k2).trans (Kp.same s3)) t (r.pos1 (by show 0 < 1 + d; omega))
theorem ok_l_marks_of {P : Program} {w : World} {K : PySem.W.Frag} {mg : Str → Option Value} {base : Heap} {φ : Fds} (T : Txt K mg φ) : FnOk P w K mg base CX0 4 (He.fAd K ("_law_marks_of", none)) φ.l_marks_of p_l_marks_of sp_marks := by
  obtain ⟨_, B0v, B0⟩ := b_l_part_1 T
  obtain ⟨_, B1v, B1⟩ := b_l_take_2 T
  obtain ⟨_, B2v, B2⟩ := b_l_plain_2 T
  obtain ⟨_, B3v, B3⟩ := b_l_pick_2 T
  obtain ⟨_, B4v, B4⟩ := b_l_sum_2 T
  refine T.f_l_marks_of.ok sc_l_marks_of (fun vs H Q E h => ?_) (fun cdv A outer s H vs Q E hr h => ?_)
  · obtain ⟨h, n, m, rfl, hh, hn, m0, m1, kk⟩ := h; rfl
  · obtain ⟨h, n, m, rfl, hh, hn, m0, m1, kk⟩ := h
    refine ⟨_, PSs.nox (pss_cons (ps_par3 (i := 2) (j := 3) (l := 4) rfl sc_l_marks_of.nd rfl rfl rfl (by decide) (by decide) (by decide) rfl rfl rfl (pa_cons (pe_call (ok_l_take (K := K) T) (hr.mono (by decide)) rfl T.g_l_take T.f_l_take.kp B1 B1v pass0 (pa_cons (pv 0) (pa_cons pe_int pa_nil))) (pa_cons (pe_op op_add pe_int (pe_call (ok_l_take (K := K) T) (hr.mono (by decide)) rfl T.g_l_take T.f_l_take.kp B1 B1v pass0 (pa_cons (pv 0) (pa_cons (pv 1) pa_nil)))) (pa_cons (pe_call (ok_l_part (K := K) T) (hr.mono (by decide)) rfl T.g_l_part T.f_l_part.kp B0 B0v pass0 (pa_cons (pv 0) pa_nil)) pa_nil))) (by rfl))
      (pss_cons (ps_set (i := 5) sc_l_marks_of.nd rfl (Or.inl rfl) (pe_lst (pa_cons (pe_call (ok_l_plain (K := K) T) (hr.mono (by decide)) rfl T.g_l_plain T.f_l_plain.kp B2 B2v pass0 (pa_cons (pe_call (ok_l_take (K := K) T) (hr.mono (by decide)) rfl T.g_l_take T.f_l_take.kp B1 B1v pass0 (pa_cons (pv 0) (pa_cons pe_int pa_nil))) (pa_cons (pe_call (ok_l_pick (K := K) T) (hr.mono (by decide)) rfl T.g_l_pick T.f_l_pick.kp B3 B3v pass0 (pa_cons (pv 0) (pa_cons (pe_lst (pa_cons pe_int (pa_cons pe_int (pa_cons pe_int (pa_cons pe_int pa_nil))))) pa_nil))) pa_nil))) pa_nil)))
      (pss_cons (ps_for PassesOwn.never rfl (pi_range1 rfl T.z_range (pa_cons (pe_op op_sub (pv 3) pe_int) pa_nil)) (pg_name (i := 6) sc_l_marks_of.nd rfl (Or.inl rfl))
      (pss_one (ps_expr (pe_bm PySem.F.plainAttrs_list PySem.F.slot_list_append PySem.F.type_list_append mt_append (pv 5) (pa_cons (pe_call (ok_l_sum (K := K) T) (hr.mono (by decide)) rfl T.g_l_sum T.f_l_sum.kp B4 B4v pass0 (pa_cons (pe_ix (ixl (K := K)) (pv 5) (pe_un un_neg pe_int) (fun _ _ => rfl)) (pa_cons (pe_ifExp (pt_cmpR op_eq (pv 2) pe_int (nomark _)) (pv 4) (pe_call (ok_l_part (K := K) T) (hr.mono (by decide)) rfl T.g_l_part T.f_l_part.kp B0 B0v pass0 (pa_cons (pv 0) pa_nil))) pa_nil))) pa_nil)))))
      (pss_one (ps_ret (pv 5)))))), ?_⟩
    walk_at "w"
    intro al H1 al0 al1 hh1 k1
    walk_at "w"
    intro mn H2 mn0 mn1 hh2 k2
    obtain ⟨mn, rfl⟩ := Int.eq_ofNat_of_zero_le mn0
    walk_at "w"
    intro vs zs H3 hh3 k3 ts zs0
    walk_at "w"
    intro d H4 d0 d1 hh4 k4
    walk_at "w"
    intro p1 np1
    refine ⟨h, p1, _, _, rfl, hh4.up np1, by omega, SqL.of upd_same, hh4.ne np1, by decide, by decide, fun i1 vb H5 hr1 hh5 k5 => ?_⟩
    have hb : ∃ b : Int, vb = .int b ∧ 0 < b ∧ b ≤ 12 := by
      have hm := List.mem_of_getElem? hr1
      simp at hm
      rcases hm with rfl | rfl | rfl | rfl <;> exact ⟨_, rfl, by decide, by decide⟩
    obtain ⟨b, rfl, b0, b1⟩ := hb
    refine ⟨_, b, 12, rfl, b0, ?_, ?_, by decide, by decide, fun v z H6 s6 t r => ?_⟩
    · show d.natAbs < 2 ^ 12
      omega
    · show b.natAbs < 2 ^ 12
      omega
    have kA := ((((k1.trans k2).trans k3).trans (k4.up np1)).trans k5).trans (Kp.same s6 : Kp h _ _)
    replace ts := ((((ts.kp hh3 k4).same (same1 np1)).kp (hh4.up np1) k5).same s6)
    have hhA := hh5.same s6
    clear hh1 hh2 hh3 hh4 hh5 k1 k2 k3 k4 k5 hr1 np1 s6
    walk_at "w"
    intro l nl
    have nlh := hhA.ne nl
    have nlH : H l = none := kA.fresh nl nlh
    replace kA := kA.up (u := .lst [v]) nl
    replace ts := ts.same (same1 (u := .lst [v]) nl)
    replace t := t.same (same1 (u := .lst [v]) nl)
    replace hhA := hhA.up (u := .lst [v]) nl
    have hlA : upd H6 l (.lst [v]) l = some (.lst [v]) := upd_same
    generalize upd H6 l (.lst [v]) = HA at *
    walk_at "w"
    refine for_range (fun i σ H' => ∃ (us : List V) (qs : List Q2) (vk : Option V), σ = [some (.ref h), some (.int m), some (.int al), some (.int (1 + (mn : Int))), some vs, some (.ref l), vk] ∧ H' l = some (.lst us) ∧ us.length = i + 1 ∧ HandAt H' h (n + 6 + 2 * i) ∧ Kp h H H' ∧ TQ H' vs 20 zs ∧ Tqs H' (12 + 21 * i) us qs ∧ RiseQ qs) ?_ ?_ ?_
    · exact ⟨[v], [z], _, rfl, hlA, rfl, hhA, kA, ts, Tqs.one t, fun i a b h1 h2 => by simp at h2⟩
    · rintro i σ H7 hi ⟨us, qs, vk, rfl, hl, lus, hh7, k7, ts7, tq, ri⟩
      have hi2 : i < 24 := by omega
      have lq := tq.len
      obtain ⟨x, hx⟩ := ge2 (zs := qs) (n := i) (by omega)
      obtain ⟨vx, hvx, tx⟩ := tq.at hx
      have last : ∀ (vy : V) (y : Q2) (H8 : Hp), Nl H7 H8 → H8 l = some (.lst us) → HandAt H8 h (n + 6 + 2 * i + 2) → Kp h H H8 → TQ H8 vy 20 y → 0 < y.1 → TQ H8 vx (12 + 21 * i) x → Tqs H8 (12 + 21 * i) us qs → TQ H8 vs 20 zs → ∀ (v9 : V) (z9 : Q2) (H9 : Hp), Same H8 H9 → TQ H9 v9 (12 + 21 * i + 20 + 1) z9 → Re z9 (qadd x y) →
          (∃ (us' : List V) (qs' : List Q2) (vk' : Option V), [some (.ref h), some (.int m), some (.int al), some (.int (1 + (mn : Int))), some vs, some (.ref l), some (.int (0 + (i : Int)))] = [some (.ref h), some (.int m), some (.int al), some (.int (1 + (mn : Int))), some vs, some (.ref l), vk'] ∧ upd H9 l (.lst (us ++ [v9])) l = some (.lst us') ∧ us'.length = i + 1 + 1 ∧ HandAt (upd H9 l (.lst (us ++ [v9]))) h (n + 6 + 2 * (i + 1)) ∧ Kp h H (upd H9 l (.lst (us ++ [v9]))) ∧ TQ (upd H9 l (.lst (us ++ [v9]))) vs 20 zs ∧ Tqs (upd H9 l (.lst (us ++ [v9]))) (12 + 21 * (i + 1)) us' qs' ∧ RiseQ qs') := by
        intro vy y H8 _ hl8 hh8 k8 ty y0 tx8 tq8 ts8 v9 z9 H9 s9 t9 r9
        have pl : Nl H9 (upd H9 l (.lst (us ++ [v9]))) := Nl.put (s9 _ _ hl8)
        refine ⟨us ++ [v9], qs ++ [z9], _, rfl, upd_same, by rw [List.length_append, lus]; rfl, ((hh8.same s9).put nlh).mono (by omega), (k8.trans (Kp.same s9)).putN nlH, (ts8.same s9).nl pl, (((tq8.same s9).mono (by omega)).snoc (t9.mono (by omega))).nl pl, rise_snocQ ri fun n a ha hn => ?_⟩
        have en : n = i := by omega
        subst en
        rw [hx] at ha
        cases ha
        exact ltq_moreR tx8.pos ty.pos y0 r9
      walk_at "w"
      refine ⟨atI_end (n := i) (by omega) hvx, ?_⟩
      refine ⟨_, rfl, rfl, _, rfl, ?_⟩
      rw [dI]
      refine ite2 (fun e => ?_) (fun e => ?_)
      · refine ⟨_, rfl, vx, vs, _, _, x, zs, rfl, tx, ts7, by omega, by decide, by omega, fun v9 z9 H9 s9 t9 r9 => ?_⟩
        refine ⟨l, us, _, rfl, rfl, s9 _ _ hl, szs (by omega), ?_⟩
        exact last vs zs H7 (fun _ _ z _ => z) hl (hh7.mono (by omega)) k7 ts7 zs0 tx tq ts7 v9 z9 H9 s9 t9 r9
      · refine ⟨_, rfl, h, _, rfl, hh7, by omega, fun vy y H8 hh8 k8 ty y0 => ?_⟩
        refine ⟨vx, vy, _, _, x, y, rfl, tx.kp hh7 k8, ty, by omega, by decide, by omega, fun v9 z9 H9 s9 t9 r9 => ?_⟩
        refine ⟨l, us, _, rfl, rfl, s9 _ _ (k8 _ _ hl nlh), szs (by omega), ?_⟩
        exact last vy y H8 (fun c o e no => k8 _ _ e (hh7.apart e no)) (k8 _ _ hl nlh) hh8 (k7.trans k8) ty y0 (tx.kp hh7 k8) (tq.kp hh7 k8) (ts7.kp hh7 k8) v9 z9 H9 s9 t9 r9
    rintro σ H7 ⟨us, qs, vk, rfl, hl, lus, hh7, k7, ts7, tq, ri⟩
    have lq := tq.len
    refine ⟨_, rfl, kk l us qs H7 (hh7.mono (by omega)) k7 nlh hl (tq.mono (by omega)) (by omega) (by omega) ri⟩
theorem ok_l_any_ladder {P : Program} {w : World} {K : PySem.W.Frag} {mg : Str → Option Value} {base : Heap} {φ : Fds} (T : Txt K mg φ) : FnOk P w K mg base CX0 5 (He.fAd K ("_law_any_ladder", none)) φ.l_any_ladder p_l_any_ladder (sp_anyl K (He.ga K "Measure") (He.ga K "Ladder")) := by
  obtain ⟨_, B0v, B0⟩ := b_l_pick_2 T
  obtain ⟨_, B1v, B1⟩ := b_l_sum_2 T
  obtain ⟨_, B2v, B2⟩ := b_Measure_init_3 T
  obtain ⟨_, B3v, B3⟩ := b_Ladder_init_5 T
  obtain ⟨_, B4v, B4⟩ := b_l_measures_1 T
  refine T.f_l_any_ladder.ok sc_l_any_ladder (fun vs H Q E h => ?_) (fun cdv A outer s H vs Q E hr h => ?_)
  · obtain ⟨h, l, n, k, us, zs, rfl, hh, hn, nlh, hl, tq, k0, k1, l0, l1, ri, kk⟩ := h; rfl
  · obtain ⟨h, l, n, k, us, zs, rfl, hh, hn, nlh, hl, tq, k0, k1, l0, l1, ri, kk⟩ := h
    refine ⟨_, PSs.nox (pss_cons (ps_set (i := 2) sc_l_any_ladder.nd rfl (Or.inl rfl) (pe_call (ok_l_pick (K := K) T) (hr.mono (by decide)) rfl T.g_l_pick T.f_l_pick.kp B0 B0v pass0 (pa_cons (pv 0) (pa_cons (pe_lst (pa_cons pe_str (pa_cons pe_str (pa_cons pe_str pa_nil)))) pa_nil))))
      (pss_cons (ps_par (i := 3) (j := 4) rfl sc_l_any_ladder.nd rfl rfl (by decide) rfl rfl (pa_cons (pe_call (ok_l_pick (K := K) T) (hr.mono (by decide)) rfl T.g_l_pick T.f_l_pick.kp B0 B0v pass0 (pa_cons (pv 0) (pa_cons (pe_lst (pa_cons pe_non (pa_cons (pe_ix (ixl (K := K)) (pv 1) pe_int (fun _ _ => rfl)) pa_nil))) pa_nil))) (pa_cons (pe_call (ok_l_pick (K := K) T) (hr.mono (by decide)) rfl T.g_l_pick T.f_l_pick.kp B0 B0v pass0 (pa_cons (pv 0) (pa_cons (pe_lst (pa_cons pe_non (pa_cons (pe_ix (ixl (K := K)) (pv 1) (pe_un un_neg pe_int) (fun _ _ => rfl)) (pa_cons (pe_call (ok_l_sum (K := K) T) (hr.mono (by decide)) rfl T.g_l_sum T.f_l_sum.kp B1 B1v pass0 (pa_cons (pe_ix (ixl (K := K)) (pv 1) (pe_un un_neg pe_int) (fun _ _ => rfl)) (pa_cons (pe_tup (pa_cons pe_int (pa_cons pe_int pa_nil))) pa_nil))) pa_nil)))) pa_nil))) pa_nil)) (by rfl))
      (pss_cons (ps_setLc (i := 5) (own := [("_law_one", 6)]) (g := gName 6) rfl sc_l_any_ladder.nd rfl rfl (sw_true rfl rfl rfl (by decide +kernel)) (pi_tup (pe_tup (pa_cons (pv 3) (pa_cons (pv 4) pa_nil)))) (blkOk_by (own := [("_law_one", 6)]) (N := N_l_any_ladder) (sc := (defScope s_l_any_ladder)) (by decide +kernel)) (fun _ _ _ _ _ => (pg_name (i := 6) sc_l_any_ladder.nd rfl (Or.inl rfl))) (fun _ _ _ _ _ => pts_nil) (fun _ _ _ _ _ => (pe_ifExp (pt_cmpR op_isN (pv 6) pe_non (nomark _)) pe_non (pe_make T.mk_Measure (ok_Measure_init (K := K) T) (hr.mono (by decide)) rfl T.g_Measure B2 B2v pass0 (pa_cons (pe_ix (ixt (K := K)) (pv 6) pe_int (fun _ _ => rfl)) (pa_cons (pe_ix (ixt (K := K)) (pv 6) pe_int (fun _ _ => rfl)) pa_nil))))))
      (pss_one (ps_ret (pe_make T.mk_Ladder (ok_Ladder_init (K := K) T) (hr.mono (by decide)) rfl T.g_Ladder B3 B3v pass0 (pa_cons (pe_call (ok_l_measures (K := K) T) (hr.mono (by decide)) rfl T.g_l_measures T.f_l_measures.kp B4 B4v pass0 (pa_cons (pv 1) pa_nil)) (pa_cons (pv 2) (pa_cons (pe_ix (ixl (K := K)) (pv 5) pe_int (fun _ _ => rfl)) (pa_cons (pe_ix (ixl (K := K)) (pv 5) pe_int (fun _ _ => rfl)) pa_nil)))))))))), ?_⟩
    have lq := tq.len
    walk_at "w"
    intro p1 np1
    refine ⟨h, p1, n, _, rfl, hh.up np1, by omega, SqL.of upd_same, hh.ne np1, by decide, by decide, fun i1 vr H1 hr1 hh1 k1' => ?_⟩
    have hru : ∃ r : Str, vr = .str r ∧ IsRule r := by
      have hm := List.mem_of_getElem? hr1
      simp at hm
      rcases hm with rfl | rfl | rfl
      · exact ⟨_, rfl, .inl rfl⟩
      · exact ⟨_, rfl, .inr (.inl rfl)⟩
      · exact ⟨_, rfl, .inr (.inr rfl)⟩
    obtain ⟨r, rfl, hru⟩ := hru
    have kA := ((Kp.refl h H).up (u := .lst [V.str "up", V.str "down", V.str "near"]) np1).trans k1'
    obtain ⟨z0, hz0⟩ := ge2 (zs := zs) (n := 0) l0
    obtain ⟨z1, hz1⟩ := ge2 (zs := zs) (n := zs.length - 1) (by omega)
    obtain ⟨v0, hv0, _⟩ := tq.at hz0
    obtain ⟨v1, hv1, _⟩ := tq.at hz1
    have hl1 := kA _ _ hl nlh
    replace tq := tq.kp hh kA
    have t0 := tq.all 0 v0 z0 hv0 hz0
    have t1 := tq.all _ v1 z1 hv1 hz1
    walk_at "w"
    intro p2 np2
    refine ⟨h, p2, _, _, rfl, hh1.up np2, by omega, SqL.of upd_same, hh1.ne np2, Nat.le_of_ble_eq_true rfl, Nat.le_of_ble_eq_true rfl, fun i2 vl H2 hr2 hh2 k2 => ?_⟩
    have kB := (k2.trans (Kp.refl _ _) : Kp h _ H2)
    have kC := (kA.up (u := .lst [V.non, v0]) np2).trans k2
    have hl2 := k2 _ _ (up1 np2 hl1) nlh
    have tqB := (tq.same (same1 (u := .lst [V.non, v0]) np2)).kp (hh1.up np2) k2
    have t0B := (t0.same (same1 (u := .lst [V.non, v0]) np2)).kp (hh1.up np2) k2
    have t1B := (t1.same (same1 (u := .lst [V.non, v0]) np2)).kp (hh1.up np2) k2
    have hvl : vl = .non ∨ vl = v0 := by
      have hm := List.mem_of_getElem? hr2
      simpa using hm
    walk_at "w"
    refine ⟨atI_end (n := zs.length - 1) (by omega) hv1, ?_⟩
    walk_at "w"
    refine ⟨atI_end (n := zs.length - 1) (by omega) hv1, ?_⟩
    walk_at "w"
    intro p3 np3
    have t1C := t1B.same (same1 (u := .tup [V.int 1, V.int 2]) np3)
    refine ⟨v1, .ref p3, k, 3, z1, (1, 2), rfl, t1C, TQ.mk upd_same (by decide) (by decide) (by decide), k0, by decide, by omega, fun v3 z3 H3 s3 t3 r3 => ?_⟩
    have s23 : Same H2 H3 := (same1 np3 : Same H2 _).trans s3
    walk_at "w"
    intro p4 np4
    have s24 := s23.up (u := .lst [V.non, v1, v3]) np4
    refine ⟨h, p4, _, _, rfl, (hh2.same s23).up np4, by omega, SqL.of upd_same, (hh2.same s23).ne np4, Nat.le_of_ble_eq_true rfl, Nat.le_of_ble_eq_true rfl, fun i4 vh H4 hr4 hh4 k4 => ?_⟩
    have kD := (kC.trans (Kp.same s24)).trans k4
    have hl4 := k4 _ _ (s24 _ _ hl2) nlh
    have tqD := (tqB.same s24).kp ((hh2.same s23).up np4) k4
    have t0D := (t0B.same s24).kp ((hh2.same s23).up np4) k4
    have t1D := (t1B.same s24).kp ((hh2.same s23).up np4) k4
    have t3D := (t3.same (same1 (u := .lst [V.non, v1, v3]) np4)).kp ((hh2.same s23).up np4) k4
    have hvh : vh = .non ∨ vh = v1 ∨ vh = v3 := by
      have hm := List.mem_of_getElem? hr4
      simpa using hm
    clear hr1 hr2 hr4
    have le01 : ltq z1 z0 = false := rise_ends ri tqD.posL hz0 hz1
    have lt13 : ltq z1 z3 = true := ltq_moreR t1D.pos (by decide) (by decide) r3
    have hlo : ∃ lo : Option Q2, (lo = none ∨ lo = some z0) ∧ TOq H4 (k + 4) vl lo := by
      rcases hvl with rfl | rfl
      · exact ⟨none, .inl rfl, rfl⟩
      · exact ⟨some z0, .inr rfl, t0D.mono (by omega)⟩
    have hhi : ∃ hi : Option Q2, (hi = none ∨ hi = some z1 ∨ hi = some z3) ∧ TOq H4 (k + 4) vh hi := by
      rcases hvh with rfl | rfl | rfl
      · exact ⟨none, .inl rfl, rfl⟩
      · exact ⟨some z1, .inr (.inl rfl), t1D.mono (by omega)⟩
      · exact ⟨some z3, .inr (.inr rfl), t3D.mono (by omega)⟩
    obtain ⟨lo, elo, tlo⟩ := hlo
    obtain ⟨hi, ehi, thi⟩ := hhi
    have span : spanB lo hi = true := by
      rcases elo with rfl | rfl
      · cases hi <;> rfl
      · rcases ehi with rfl | rfl | rfl
        · rfl
        · show (!ltq z1 z0) = true
          rw [le01]; rfl
        · show (!ltq z3 z0) = true
          have := ltq_notlt t1D.pos t3D.pos t0D.pos le01 lt13
          rw [this]; rfl
    walk_at "w"
    intro p5 np5
    refine ⟨p5, rfl, ⟨_, SqT.of upd_same⟩, fun D nD => ?_⟩
    have s45 : Same H4 (upd H4 p5 (.tup [vl, vh])) := same1 np5
    refine lcr (n := [vl, vh].length) walk_tup (fun _ _ g s => s.sqt g) (fun i H v => QO (He.ga K "Measure") H (k + 4) v (if i = 0 then lo else hi)) (fun i H H' y q nl => QO.nl nl q) (szs (Nat.le_of_ble_eq_true rfl)) (SqT.of upd_same) nD (fun i x H6 H7 N M hi' s6 y hN => ?_) (fun H6 ys s6 hD ly hy => ?_)
    · obtain ⟨rfl, hx⟩ := y
      have hi2 : i < 2 := hi'
      have ht : TOq H7 (k + 4) x (if i = 0 then lo else hi) := by
        obtain rfl | rfl : i = 0 ∨ i = 1 := by omega
        · cases hx
          exact (tlo.same s45).same s6
        · cases hx
          exact (thi.same s45).same s6
      refine ⟨rfl, yesT ?_⟩
      revert ht hN
      generalize (if i = 0 then lo else hi) = o
      intro hN ht
      cases o with
      | none =>
        cases ht
        walk_at "w"
        exact hN _ _ (Same.refl _) rfl
      | some z =>
        obtain ⟨q, rfl, hq, hz, sz1, sz2⟩ := ht
        refine ⟨_, rfl, rfl, _, rfl, iteF ?_⟩
        walk_at "w"
        exact q_made (k := k + 4) hz sz1 sz2 (by omega) (by omega) fun q2 H8 s8 R => hN _ _ s8 ⟨q2, rfl, R⟩
    have ly2 : ys.length = 2 := ly
    obtain ⟨y0, hy0⟩ := geV (xs := ys) (n := 0) (by omega)
    obtain ⟨y1, hy1⟩ := geV (xs := ys) (n := 1) (by omega)
    have q0 : QO (He.ga K "Measure") H6 (k + 4) y0 lo := hy 0 y0 hy0
    have q1 : QO (He.ga K "Measure") H6 (k + 4) y1 hi := hy 1 y1 hy1
    have s46 := s45.trans s6
    walk_at "w"
    refine ⟨zs, rfl, .inl (SqL.of (s46 _ _ hl4)), tqD.same s46, k0, by omega, l1, fun T2 ps H8 s8 hT2 hm => ?_⟩
    have hD8 := s8 _ _ hD
    walk_at "w"
    refine lad_made (k := k + 4) (SqT.of hT2) (hm.mono (by omega)) (by omega) l0 l1 ri hru (q0.same s8) (q1.same s8) span fun q H9 _ s9 L9 _ => kk q r lo hi H9 ?_ ?_ L9
    · exact ((hh4.same s46).same s8).same s9 |>.mono (by omega)
    · exact ((kD.trans (Kp.same s46)).trans (Kp.same s8)).trans (Kp.same s9)
theorem ok_Measure_plus {P : Program} {w : World} {K : PySem.W.Frag} {mg : Str → Option Value} {base : Heap} {φ : Fds} (T : Txt K mg φ) : FnOk P w K mg base CX0 4 (He.fAd K ("Measure", some "plus")) φ.Measure_plus p_Measure_plus (sp_bin2 (He.ga K "Measure") (fun t u t' u' => t * u' + t' * u) (fun t u t' u' => u * u')) := by
  obtain ⟨_, B0v, B0⟩ := b_Measure_init_3 T
  refine T.f_Measure_plus.ok sc_Measure_plus (fun vs H Q E h => ?_) (fun cdv A outer s H vs Q E hr h => ?_)
  · obtain ⟨p, q, t, u, t', u', rfl, ⟨dp, hp⟩, ⟨dq, hq⟩, hu, hu', st, su, st', su', sg, k⟩ := h; rfl
  · obtain ⟨p, q, t, u, t', u', rfl, ⟨dp, hp⟩, ⟨dq, hq⟩, hu, hu', st, su, st', su', sg, k⟩ := h
    refine ⟨_, PSs.nox (pss_one (ps_ret (pe_make T.mk_Measure (ok_Measure_init (K := K) T) (hr.mono (by decide)) rfl T.g_Measure B0 B0v pass0 (pa_cons (pe_op op_add (pe_op op_mulA (fldK (K := K) (pv 0) rfl) (fldK (K := K) (pv 1) rfl)) (pe_op op_mulA (fldK (K := K) (pv 1) rfl) (fldK (K := K) (pv 0) rfl))) (pa_cons (pe_op op_mulA (fldK (K := K) (pv 0) rfl) (fldK (K := K) (pv 1) rfl)) pa_nil))))), ?_⟩
    refine ⟨_, rfl, _, _, _, _, _, rfl, hp, T.cl_Measure, T.na_Measure_top, mf_top _ _, _, rfl, _, _, _, _, _, rfl, hq, T.cl_Measure, T.na_Measure_bottom, mf_bottom _ _, _, _, rfl, rfl, st.cmul su' (by decide) (by decide) (by decide), _, rfl, _, _, _, _, _, rfl, hq, T.cl_Measure, T.na_Measure_top, mf_top _ _, _, rfl, _, _, _, _, _, rfl, hp, T.cl_Measure, T.na_Measure_bottom, mf_bottom _ _, _, _, rfl, rfl, st'.cmul su (by decide) (by decide) (by decide), _, _, rfl, rfl, _, rfl, _, _, _, _, _, rfl, hp, T.cl_Measure, T.na_Measure_bottom, mf_bottom _ _, _, rfl, _, _, _, _, _, rfl, hq, T.cl_Measure, T.na_Measure_bottom, mf_bottom _ _, _, _, rfl, rfl, su.cmul su' (by decide) (by decide) (by decide), ?_⟩
    intro x dx nx nd ne
    refine ⟨x, dx, _, _, rfl, upd_same, Int.mul_ne_zero (by omega) (by omega), sg.log (by decide) (by decide), fun t2 u2 H' fr hx kp => ⟨rfl, ?_⟩⟩
    exact k x t2 u2 H' nx (made_same nx nd kp) ⟨_, hx⟩ fr
theorem ok_Measure_times {P : Program} {w : World} {K : PySem.W.Frag} {mg : Str → Option Value} {base : Heap} {φ : Fds} (T : Txt K mg φ) : FnOk P w K mg base CX0 4 (He.fAd K ("Measure", some "times")) φ.Measure_times p_Measure_times (sp_bin2 (He.ga K "Measure") (fun t u t' u' => t * t') (fun t u t' u' => u * u')) := by
  obtain ⟨_, B0v, B0⟩ := b_Measure_init_3 T
  refine T.f_Measure_times.ok sc_Measure_times (fun vs H Q E h => ?_) (fun cdv A outer s H vs Q E hr h => ?_)
  · obtain ⟨p, q, t, u, t', u', rfl, ⟨dp, hp⟩, ⟨dq, hq⟩, hu, hu', st, su, st', su', sg, k⟩ := h; rfl
  · obtain ⟨p, q, t, u, t', u', rfl, ⟨dp, hp⟩, ⟨dq, hq⟩, hu, hu', st, su, st', su', sg, k⟩ := h
    refine ⟨_, PSs.nox (pss_one (ps_ret (pe_make T.mk_Measure (ok_Measure_init (K := K) T) (hr.mono (by decide)) rfl T.g_Measure B0 B0v pass0 (pa_cons (pe_op op_mulA (fldK (K := K) (pv 0) rfl) (fldK (K := K) (pv 1) rfl)) (pa_cons (pe_op op_mulA (fldK (K := K) (pv 0) rfl) (fldK (K := K) (pv 1) rfl)) pa_nil))))), ?_⟩
    refine ⟨_, rfl, _, _, _, _, _, rfl, hp, T.cl_Measure, T.na_Measure_top, mf_top _ _, _, rfl, _, _, _, _, _, rfl, hq, T.cl_Measure, T.na_Measure_top, mf_top _ _, _, _, rfl, rfl, st.cmul st' (by decide) (by decide) (by decide), _, rfl, _, _, _, _, _, rfl, hp, T.cl_Measure, T.na_Measure_bottom, mf_bottom _ _, _, rfl, _, _, _, _, _, rfl, hq, T.cl_Measure, T.na_Measure_bottom, mf_bottom _ _, _, _, rfl, rfl, su.cmul su' (by decide) (by decide) (by decide), ?_⟩
    intro x dx nx nd ne
    refine ⟨x, dx, _, _, rfl, upd_same, Int.mul_ne_zero (by omega) (by omega), sg.log (by decide) (by decide), fun t2 u2 H' fr hx kp => ⟨rfl, ?_⟩⟩
    exact k x t2 u2 H' nx (made_same nx nd kp) ⟨_, hx⟩ fr
theorem ok_measure_or {P : Program} {w : World} {K : PySem.W.Frag} {mg : Str → Option Value} {base : Heap} {φ : Fds} (T : Txt K mg φ) : FnOk P w K mg base CX0 4 (He.fAd K ("measure_or", none)) φ.measure_or p_measure_or (sp_mor (He.ga K "Measure")) := by
  obtain ⟨_, B0v, B0⟩ := b_Measure_init_2 T
  refine T.f_measure_or.ok sc_measure_or (fun vs H Q E h => ?_) (fun cdv A outer s H vs Q E hr h => ?_)
  · obtain ⟨v, k, e, rfl, he, k0, k1, kk⟩ := h; rfl
  · obtain ⟨v, k, e, rfl, he, k0, k1, kk⟩ := h
    refine ⟨_, PSs.nox (pss_cons (ps_if (pt_cmpR op_isN (pv 0) pe_non (nomark _))
      (pss_one (ps_ret (pe_make T.mk_Measure (ok_Measure_init (K := K) T) (hr.mono (by decide)) rfl T.g_Measure B0 B0v pass0 (pa_cons (pv 1) pa_nil))))
      pss_nil)
      (pss_one (ps_ret (pv 0)))), ?_⟩
    cases e with
    | none =>
      cases he
      walk_at "w"
      refine q_made (k := k) (by decide) ?_ ?_ k0 (by omega) fun q H1 s1 R => kk q H1 s1 R
      · show (0 : Int).natAbs < 2 ^ k
        exact Nat.two_pow_pos k
      · show (1 : Int).natAbs < 2 ^ k
        exact Nat.one_lt_two_pow (by omega)
    | some z =>
      obtain ⟨p, rfl, qz⟩ := he
      walk_at "w"
      exact kk p H (Same.refl _) qz
theorem ok_Grid_init {P : Program} {w : World} {K : PySem.W.Frag} {mg : Str → Option Value} {base : Heap} {φ : Fds} (T : Txt K mg φ) : FnOk P w K mg base CX0 5 (He.fAd K ("Grid", some "__init__")) φ.Grid_init p_Grid_init (sp_ginit K (He.ga K "Measure") (He.ga K "Ladder") (He.ga K "Grid")) := by
  obtain ⟨_, B0v, B0⟩ := b_is_measure_or_none_1 T
  obtain ⟨_, B1v, B1⟩ := b_measure_or_2 T
  refine T.f_Grid_init.ok sc_Grid_init (fun vs H Q E h => ?_) (fun cdv A outer s H vs Q E hr h => ?_)
  · obtain ⟨p, dx, L1, L2', v, k, j, zs, ys, r1, r2, lo1, hi1, lo2, hi2, e, rfl, hp, hL1, hL2, qv, j0, j1, kk⟩ := h; rfl
  · obtain ⟨p, dx, L1, L2', v, k, j, zs, ys, r1, r2, lo1, hi1, lo2, hi2, e, rfl, hp, hL1, hL2, qv, j0, j1, kk⟩ := h
    refine ⟨_, PSs.nox (pss_cons (ps_if (PW.pt (pw_or (pt_not (pt_val (pe_callB (id := "isinstance") (isi (K := K)) (by rfl) T.z_isinstance (by decide +kernel) (pa_cons (pv 1) (pa_cons (pe_glob (v := .ref (He.ga K "Ladder")) rfl T.g_Ladder rfl) pa_nil))))) (pw_or1 (pt_not (pt_val (pe_callB (id := "isinstance") (isi (K := K)) (by rfl) T.z_isinstance (by decide +kernel) (pa_cons (pv 2) (pa_cons (pe_glob (v := .ref (He.ga K "Ladder")) rfl T.g_Ladder rfl) pa_nil))))))))
      (pss_one ps_never)
      pss_nil)
      (pss_cons (ps_if (pt_not (pt_val (pe_call (ok_is_measure_or_none (K := K) T) (hr.mono (by decide)) rfl T.g_is_measure_or_none T.f_is_measure_or_none.kp B0 B0v pass0 (pa_cons (pv 3) pa_nil))))
      (pss_one ps_never)
      pss_nil)
      (pss_cons (ps_fld (pv 0) (pv 1) rfl)
      (pss_cons (ps_fld (pv 0) (pv 2) rfl)
      (pss_one (ps_fld (pv 0) (pe_call (ok_measure_or (K := K) T) (hr.mono (by decide)) rfl T.g_measure_or T.f_measure_or.kp B1 B1v pass0 (pa_cons (pv 3) (pa_cons pe_int pa_nil))) rfl)))))), ?_⟩
    have na_Grid_lengths := T.na_Grid_lengths
    have na_Grid_breadths := T.na_Grid_breadths
    have na_Grid_grade := T.na_Grid_grade
    have cl_Grid := T.cl_Grid
    
    obtain ⟨⟨d1, T1, ps1, l1, h1, hq1, _⟩, _⟩ := hL1
    obtain ⟨⟨d2, T2, ps2, l2, h2, hq2, _⟩, _⟩ := hL2
    refine ⟨_, rfl, _, _, _, _, _, rfl, .own _, tyM hq1 T.cl_Ladder T.ii_Ladder, T.k_Ladder_Ladder, _, rfl, iteF ?_⟩
    refine ⟨_, rfl, _, _, _, _, _, rfl, .own _, tyM hq2 T.cl_Ladder T.ii_Ladder, T.k_Ladder_Ladder, _, rfl, iteF ?_⟩
    walk_at "w"
    refine ⟨e, rfl, qv, ?_⟩
    walk_at "w"
    refine ⟨by show 0 < 1000; decide, ?_⟩
    refine ⟨_, rfl, _, rfl, p, _, dx, _, rfl, upd_same, cl_Grid, na_Grid_breadths, by show 1 < 1000; decide, ?_⟩
    have qv2 : QO (He.ga K "Measure") (upd (upd H p (.ins (He.ga K "Grid") dx (putF "lengths" (.ref L1) []))) p (.ins (He.ga K "Grid") dx (putF "breadths" (.ref L2') (putF "lengths" (.ref L1) [])))) j v e := by
      cases e with
      | none => exact qv
      | some z =>
        obtain ⟨q, rfl, qz⟩ := qv
        obtain ⟨⟨t, u, ⟨dq, hq⟩, f⟩, a1, a2, a3⟩ := qz
        refine ⟨q, rfl, ⟨t, u, ⟨dq, ?_⟩, f⟩, a1, a2, a3⟩
        rw [upd_ne (ne_fields hq hp), upd_ne (ne_fields hq hp)]
        exact hq
    walk_at "w"
    refine ⟨e, rfl, qv2, j0, by omega, fun q H3 s3 qq => ?_⟩
    have hp3 := s3 _ _ upd_same
    walk_at "w"
    refine ⟨by show 2 < 1000; decide, ?_⟩
    refine kk q _ ?_ ?_ fun b o eb nb => ?_
    · rw [upd_same, gf_put]
    · obtain ⟨⟨t, u, ⟨dq, hq⟩, f⟩, a1, a2, a3⟩ := qq
      refine ⟨⟨t, u, ⟨dq, ?_⟩, f⟩, a1, a2, a3⟩
      rw [upd_ne (ne_fields2 hq hp3)]
      exact hq
    · rw [upd_ne nb]
      refine s3 _ _ ?_
      rw [upd_ne nb, upd_ne nb]
      exact eb
theorem ok_Grid_long_mark {P : Program} {w : World} {K : PySem.W.Frag} {mg : Str → Option Value} {base : Heap} {φ : Fds} (T : Txt K mg φ) : FnOk P w K mg base CX0 1 (He.fAd K ("Grid", some "long_mark")) φ.Grid_long_mark p_Grid_long_mark (sp_longm K (He.ga K "Measure") (He.ga K "Ladder") (He.ga K "Grid")) := by
  refine T.f_Grid_long_mark.ok sc_Grid_long_mark (fun vs H Q E h => ?_) (fun cdv A outer s H vs Q E hr h => ?_)
  · obtain ⟨p, t, L1, L2', i, w', k, j, g, a, zs, rfl, hG, ⟨r, lo, hi, hL⟩, ht, ha, kk⟩ := h; rfl
  · obtain ⟨p, t, L1, L2', i, w', k, j, g, a, zs, rfl, hG, ⟨r, lo, hi, hL⟩, ht, ha, kk⟩ := h
    refine ⟨_, PSs.nox (pss_one (ps_ret (pe_ix (ixt (K := K)) (fldK (K := K) (fldK (K := K) (pv 0) rfl) rfl) (pe_ix (ixt (K := K)) (pv 1) pe_int (fun _ _ => rfl)) (fun _ _ => rfl)))), ?_⟩
    have na_Grid_lengths := T.na_Grid_lengths
    have na_Grid_breadths := T.na_Grid_breadths
    have na_Grid_grade := T.na_Grid_grade
    have cl_Grid := T.cl_Grid
    have cl_Ladder := T.cl_Ladder
    have na_Ladder_marks := T.na_Ladder_marks
    have na_Ladder_rule := T.na_Ladder_rule
    have na_Ladder_least := T.na_Ladder_least
    have na_Ladder_most := T.na_Ladder_most
    
    obtain ⟨dx, q, hp, qg⟩ := hG.ob
    obtain ⟨⟨d1, T1, ps1, l1, h1, hq1, hT1, hm1, _⟩, _⟩ := hL
    obtain ⟨pa, epa, qa⟩ := hm1.at ha
    refine ⟨_, rfl, p, _, dx, _, _, rfl, hp, cl_Grid, na_Grid_lengths, gf_lengths _ _ _, ?_⟩
    walk_at "w"
    exact kk pa qa
theorem ok_Grid_graded {P : Program} {w : World} {K : PySem.W.Frag} {mg : Str → Option Value} {base : Heap} {φ : Fds} (T : Txt K mg φ) : FnOk P w K mg base CX0 5 (He.fAd K ("Grid", some "graded")) φ.Grid_graded p_Grid_graded (sp_graded K (He.ga K "Measure") (He.ga K "Ladder") (He.ga K "Grid")) := by
  obtain ⟨_, B0v, B0⟩ := b_Measure_times_2 T
  obtain ⟨_, B1v, B1⟩ := b_Measure_init_2 T
  refine T.f_Grid_graded.ok sc_Grid_graded (fun vs H Q E h => ?_) (fun cdv A outer s H vs Q E hr h => ?_)
  · obtain ⟨p, L1, L2', i, j, g, rfl, hG, hi, j0, j1, kk⟩ := h; rfl
  · obtain ⟨p, L1, L2', i, j, g, rfl, hG, hi, j0, j1, kk⟩ := h
    refine ⟨_, PSs.nox (pss_one (ps_ret (pe_meth (fldK (K := K) (pv 0) rfl) T.cl_Measure T.me_Measure_times (ok_Measure_times (K := K) T) (hr.mono (by decide)) B0 B0v pass0 (pa_cons (pe_make T.mk_Measure (ok_Measure_init (K := K) T) (hr.mono (by decide)) rfl T.g_Measure B1 B1v pass0 (pa_cons (pv 1) pa_nil)) pa_nil)))), ?_⟩
    have na_Grid_lengths := T.na_Grid_lengths
    have na_Grid_breadths := T.na_Grid_breadths
    have na_Grid_grade := T.na_Grid_grade
    have cl_Grid := T.cl_Grid
    
    obtain ⟨dx, q, hp, qg⟩ := hG.ob
    refine ⟨_, rfl, p, _, dx, _, _, rfl, hp, cl_Grid, na_Grid_grade, gf_grade _ _ _, ?_⟩
    refine meth_q qg (by decide +kernel) (by decide +kernel) ?_
    walk_at "w"
    refine q_made (k := 6) (by decide) ?_ (by decide) (by decide) (by decide) fun q2 H1 s1 a1 => ?_
    · show ((i : Nat) : Int).natAbs < 2 ^ 6
      omega
    exact q_mulT (qg.same s1) a1 (by omega) j0 (by decide) fun q3 H2 s2 a2 => kk q3 H2 (s1.trans s2) a2
theorem ok_Grid_broad_mark {P : Program} {w : World} {K : PySem.W.Frag} {mg : Str → Option Value} {base : Heap} {φ : Fds} (T : Txt K mg φ) : FnOk P w K mg base CX0 6 (He.fAd K ("Grid", some "broad_mark")) φ.Grid_broad_mark p_Grid_broad_mark (sp_broadm K (He.ga K "Measure") (He.ga K "Ladder") (He.ga K "Grid")) := by
  obtain ⟨_, B0v, B0⟩ := b_Measure_plus_2 T
  obtain ⟨_, B1v, B1⟩ := b_Grid_graded_2 T
  refine T.f_Grid_broad_mark.ok sc_Grid_broad_mark (fun vs H Q E h => ?_) (fun cdv A outer s H vs Q E hr h => ?_)
  · obtain ⟨p, t, L1, L2', i, w', k, j, g, b, ys, rfl, hG, ⟨r, lo, hi', hL⟩, ht, hb, hi, j0, j1, k0, k1, kk⟩ := h; rfl
  · obtain ⟨p, t, L1, L2', i, w', k, j, g, b, ys, rfl, hG, ⟨r, lo, hi', hL⟩, ht, hb, hi, j0, j1, k0, k1, kk⟩ := h
    refine ⟨_, PSs.nox (pss_one (ps_ret (pe_meth (pe_ix (ixt (K := K)) (fldK (K := K) (fldK (K := K) (pv 0) rfl) rfl) (pe_ix (ixt (K := K)) (pv 1) pe_int (fun _ _ => rfl)) (fun _ _ => rfl)) T.cl_Measure T.me_Measure_plus (ok_Measure_plus (K := K) T) (hr.mono (by decide)) B0 B0v pass0 (pa_cons (pe_meth (pv 0) T.cl_Grid T.me_Grid_graded (ok_Grid_graded (K := K) T) (hr.mono (by decide)) B1 B1v pass0 (pa_cons (pe_ix (ixt (K := K)) (pv 1) pe_int (fun _ _ => rfl)) pa_nil)) pa_nil)))), ?_⟩
    have na_Grid_lengths := T.na_Grid_lengths
    have na_Grid_breadths := T.na_Grid_breadths
    have na_Grid_grade := T.na_Grid_grade
    have cl_Grid := T.cl_Grid
    have cl_Ladder := T.cl_Ladder
    have na_Ladder_marks := T.na_Ladder_marks
    have na_Ladder_rule := T.na_Ladder_rule
    have na_Ladder_least := T.na_Ladder_least
    have na_Ladder_most := T.na_Ladder_most
    
    obtain ⟨dx, q, hp, qg⟩ := hG.ob
    obtain ⟨⟨d1, T1, ps1, l1, h1, hq1, hT1, hm1, _⟩, _⟩ := hL
    obtain ⟨pb, epb, qb⟩ := hm1.at hb
    refine ⟨_, rfl, p, _, dx, _, _, rfl, hp, cl_Grid, na_Grid_breadths, gf_breadths _ _ _, ?_⟩
    walk_at "w"
    refine ⟨g, rfl, hG, hi, j0, by omega, fun q2 H1 s1 a1 => ?_⟩
    exact q_addT (qb.same s1) a1 (by omega) k0 (by omega) fun q3 H2 s2 a2 => kk q3 H2 (s1.trans s2) a2
theorem ok_broken {P : Program} {w : World} {K : PySem.W.Frag} {mg : Str → Option Value} {base : Heap} {φ : Fds} (T : Txt K mg φ) : FnOk P w K mg base CX0 7 (He.fAd K ("broken", none)) φ.broken p_broken (sp_broken K (He.ga K "Measure") (He.ga K "Ladder") (He.ga K "Grid")) := by
  obtain ⟨_, B0v, B0⟩ := b_Grid_long_mark_2 T
  obtain ⟨_, B1v, B1⟩ := b_Grid_broad_mark_2 T
  obtain ⟨_, B2v, B2⟩ := b_Measure_is_below_2 T
  obtain ⟨_, B3v, B3⟩ := b_Measure_plus_2 T
  refine T.f_broken.ok sc_broken (fun vs H Q E h => ?_) (fun cdv A outer s H vs Q E hr h => ?_)
  · obtain ⟨p, t, f, s', L1, L2', f1, f2, i, w', k, j, m, g, a, b, x1, x2, y, zs, ys, rfl, hG, hL1, hL2, ht, ha, hb, hf, q1, q2, qs, hi, j0, j1, k0, k1, m0, m1, kk⟩ := h; rfl
  · obtain ⟨p, t, f, s', L1, L2', f1, f2, i, w', k, j, m, g, a, b, x1, x2, y, zs, ys, rfl, hG, hL1, hL2, ht, ha, hb, hf, q1, q2, qs, hi, j0, j1, k0, k1, m0, m1, kk⟩ := h
    refine ⟨_, PSs.nox (pss_cons (ps_asg (pv 2) (pg_tup rfl (pgs_cons (pg_name (i := 4) sc_broken.nd rfl (Or.inl rfl)) (pgs_cons (pg_name (i := 5) sc_broken.nd rfl (Or.inl rfl)) pgs_nil))))
      (pss_cons (ps_set (i := 6) sc_broken.nd rfl (Or.inl rfl) (pe_meth (pv 0) T.cl_Grid T.me_Grid_long_mark (ok_Grid_long_mark (K := K) T) (hr.mono (by decide)) B0 B0v pass0 (pa_cons (pv 1) pa_nil)))
      (pss_cons (ps_set (i := 7) sc_broken.nd rfl (Or.inl rfl) (pe_meth (pv 0) T.cl_Grid T.me_Grid_broad_mark (ok_Grid_broad_mark (K := K) T) (hr.mono (by decide)) B1 B1v pass0 (pa_cons (pv 1) pa_nil)))
      (pss_cons (ps_set (i := 8) sc_broken.nd rfl (Or.inl rfl) (pe_lst (pa_cons (pe_tup (pa_cons pe_str (pa_cons (pe_meth (pe_meth (pv 5) T.cl_Measure T.me_Measure_plus (ok_Measure_plus (K := K) T) (hr.mono (by decide)) B3 B3v pass0 (pa_cons (pv 3) pa_nil)) T.cl_Measure T.me_Measure_is_below (ok_Measure_is_below (K := K) T) (hr.mono (by decide)) B2 B2v pass0 (pa_cons (pv 7) pa_nil)) pa_nil))) (pa_cons (pe_tup (pa_cons pe_str (pa_cons (pe_meth (pe_meth (pv 4) T.cl_Measure T.me_Measure_plus (ok_Measure_plus (K := K) T) (hr.mono (by decide)) B3 B3v pass0 (pa_cons (pv 3) pa_nil)) T.cl_Measure T.me_Measure_is_below (ok_Measure_is_below (K := K) T) (hr.mono (by decide)) B2 B2v pass0 (pa_cons (pv 6) pa_nil)) pa_nil))) (pa_cons (pe_tup (pa_cons pe_str (pa_cons (pe_meth (pv 7) T.cl_Measure T.me_Measure_is_below (ok_Measure_is_below (K := K) T) (hr.mono (by decide)) B2 B2v pass0 (pa_cons (pv 5) pa_nil)) pa_nil))) (pa_cons (pe_tup (pa_cons pe_str (pa_cons (pe_meth (pv 6) T.cl_Measure T.me_Measure_is_below (ok_Measure_is_below (K := K) T) (hr.mono (by decide)) B2 B2v pass0 (pa_cons (pv 4) pa_nil)) pa_nil))) pa_nil))))))
      (pss_one (ps_ret (pe_callTy (T := "tuple") (tupleL (K := K)) (by rfl) T.z_tuple (by decide +kernel) (pa_cons (pe_lc (own := [("rule", 9), ("breaks", 10)]) (g := gTup K 2 (gCons (gName 9) (gCons (gName 10) (gNil)))) rfl sc_broken.nd (pi_list (pv 8)) (blkOk_by (own := [("rule", 9), ("breaks", 10)]) (N := N_broken) (sc := (defScope s_broken)) (by decide +kernel)) (fun _ _ _ _ _ => (pg_tup rfl (pgs_cons (pg_name (i := 9) sc_broken.nd rfl (Or.inl rfl)) (pgs_cons (pg_name (i := 10) sc_broken.nd rfl (Or.inl rfl)) pgs_nil)))) (fun _ _ _ _ _ => (pts_one (pt_val (pv 10)))) (fun _ _ _ _ _ => (pv 9))) pa_nil)))))))), ?_⟩
    have na_Grid_lengths := T.na_Grid_lengths
    have na_Grid_breadths := T.na_Grid_breadths
    have na_Grid_grade := T.na_Grid_grade
    have cl_Grid := T.cl_Grid
    
    obtain ⟨dx, qg, hp, _⟩ := hG.ob
    walk_at "w"
    refine ⟨g, a, zs, rfl, hG, hL1, ht, ha, fun pa qa => ?_⟩
    walk_at "w"
    refine ⟨g, b, ys, rfl, hG, hL2, ht, hb, hi, j0, j1, k0, k1, fun pb H1 s1 qb => ?_⟩
    replace qa := qa.same s1
    replace q1 := q1.same s1
    replace q2 := q2.same s1
    replace qs := qs.same s1
    walk_at "wa"
    intro p2 H2 s2 a2
    replace qb := qb.same s2
    replace qa := qa.same s2
    replace q1 := q1.same s2
    replace q2 := q2.same s2
    replace qs := qs.same s2
    walk_at "wa"
    intro t1 nt1
    have sA : Same H2 (upd H2 t1 (.tup [.str "broad", .bl (ltq (qadd x2 y) (grdQ b g i))])) := same1 nt1
    have ht1 : upd H2 t1 (.tup [.str "broad", .bl (ltq (qadd x2 y) (grdQ b g i))]) t1 = some (.tup [.str "broad", .bl (ltq (qadd x2 y) (grdQ b g i))]) := upd_same
    generalize upd H2 t1 (.tup [.str "broad", .bl (ltq (qadd x2 y) (grdQ b g i))]) = H3 at *
    replace qb := qb.same sA
    replace qa := qa.same sA
    replace q1 := q1.same sA
    replace q2 := q2.same sA
    replace qs := qs.same sA
    walk_at "wa"
    intro p4 H4 s4 a4
    replace ht1 := s4 _ _ ht1
    replace qb := qb.same s4
    replace qa := qa.same s4
    replace q1 := q1.same s4
    replace q2 := q2.same s4
    walk_at "wa"
    intro t2 nt2
    have sB : Same H4 (upd H4 t2 (.tup [.str "long", .bl (ltq (qadd x1 y) a)])) := same1 nt2
    have ht2 : upd H4 t2 (.tup [.str "long", .bl (ltq (qadd x1 y) a)]) t2 = some (.tup [.str "long", .bl (ltq (qadd x1 y) a)]) := upd_same
    generalize upd H4 t2 (.tup [.str "long", .bl (ltq (qadd x1 y) a)]) = H5 at *
    replace ht1 := sB _ _ ht1
    replace qb := qb.same sB
    replace qa := qa.same sB
    replace q1 := q1.same sB
    replace q2 := q2.same sB
    walk_at "wa"
    intro t3 nt3
    have sC : Same H5 (upd H5 t3 (.tup [.str "narrow", .bl (ltq (grdQ b g i) x2)])) := same1 nt3
    have ht3 : upd H5 t3 (.tup [.str "narrow", .bl (ltq (grdQ b g i) x2)]) t3 = some (.tup [.str "narrow", .bl (ltq (grdQ b g i) x2)]) := upd_same
    generalize upd H5 t3 (.tup [.str "narrow", .bl (ltq (grdQ b g i) x2)]) = H6 at *
    replace ht1 := sC _ _ ht1
    replace ht2 := sC _ _ ht2
    replace qa := qa.same sC
    replace q1 := q1.same sC
    walk_at "wa"
    intro t4 nt4
    have sD : Same H6 (upd H6 t4 (.tup [.str "short", .bl (ltq a x1)])) := same1 nt4
    have ht4 : upd H6 t4 (.tup [.str "short", .bl (ltq a x1)]) t4 = some (.tup [.str "short", .bl (ltq a x1)]) := upd_same
    generalize upd H6 t4 (.tup [.str "short", .bl (ltq a x1)]) = H7 at *
    replace ht1 := sD _ _ ht1
    replace ht2 := sD _ _ ht2
    replace ht3 := sD _ _ ht3
    have s17 : Same H H7 := (((((s1.trans s2).trans sA).trans s4).trans sB).trans sC).trans sD
    clear qa qb q1 q2 qs a2 a4 s1 s2 sA s4 sB sC sD nt1 nt2 nt3 nt4
    walk_at "wa"
    intro lr nlr
    have sE : Same H7 (upd H7 lr (.lst [.ref t1, .ref t2, .ref t3, .ref t4])) := same1 nlr
    have hlr : upd H7 lr (.lst [.ref t1, .ref t2, .ref t3, .ref t4]) lr = some (.lst [.ref t1, .ref t2, .ref t3, .ref t4]) := upd_same
    generalize upd H7 lr (.lst [.ref t1, .ref t2, .ref t3, .ref t4]) = H8 at *
    replace ht1 := sE _ _ ht1
    replace ht2 := sE _ _ ht2
    replace ht3 := sE _ _ ht3
    replace ht4 := sE _ _ ht4
    have fin := words4 (K := K) (b1 := ltq (qadd x2 y) (grdQ b g i)) (b2 := ltq (qadd x1 y) a) (b3 := ltq (grdQ b g i) x2) (b4 := ltq a x1) ht1 ht2 ht3 ht4
    walk_at "wa"
    intro D nD
    refine lcz (n := [V.ref t1, V.ref t2, V.ref t3, V.ref t4].length) walk_list (fun _ _ g s => s.seq g) _ (words_len (ltq (qadd x2 y) (grdQ b g i)) (ltq (qadd x1 y) a) (ltq (grdQ b g i) x2) (ltq a x1)) (szs (Nat.le_of_ble_eq_true rfl)) (SqL.of hlr) nD (fun n v H9 HA o N M hi ho sF yy hN hM => ?_) (fun H9 sF hD => ?_)
    · obtain ⟨rfl, hx⟩ := yy
      obtain ⟨t, wd, bb, rfl, ht, rfl⟩ := fin n v o hx ho
      have ht' := sF _ _ ht
      refine ⟨t, _, rfl, SqT.of ht', rfl, _, _, rfl, _, _, rfl, rfl, rfl, ?_⟩
      refine ⟨_, rfl, _, rfl, ?_⟩
      cases bb with
      | true => exact iteT ⟨_, rfl, hN _ _ rfl (Same.refl _)⟩
      | false => exact iteF (hM _ rfl (Same.refl _))
    rw [words_fm] at hD
    walk_at "wa"
    intro T2 nT2
    exact kk T2 _ (((s17.trans sE).trans sF).up nT2) upd_same
theorem ok_l_grades {P : Program} {w : World} {K : PySem.W.Frag} {mg : Str → Option Value} {base : Heap} {φ : Fds} (T : Txt K mg φ) : FnOk P w K mg base CX0 4 (He.fAd K ("_law_grades", none)) φ.l_grades p_l_grades sp_gr := by
  obtain ⟨_, B0v, B0⟩ := b_l_pick_2 T
  obtain ⟨_, B1v, B1⟩ := b_l_part_1 T
  refine T.f_l_grades.ok sc_l_grades (fun vs H Q E h => ?_) (fun cdv A outer s H vs Q E hr h => ?_)
  · obtain ⟨h, n, rfl, hh, hn, kk⟩ := h; rfl
  · obtain ⟨h, n, rfl, hh, hn, kk⟩ := h
    refine ⟨_, PSs.nox (pss_one (ps_ret (pe_call (ok_l_pick (K := K) T) (hr.mono (by decide)) rfl T.g_l_pick T.f_l_pick.kp B0 B0v pass0 (pa_cons (pv 0) (pa_cons (pe_lst (pa_cons (pe_tup (pa_cons pe_int (pa_cons pe_int pa_nil))) (pa_cons (pe_call (ok_l_part (K := K) T) (hr.mono (by decide)) rfl T.g_l_part T.f_l_part.kp B1 B1v pass0 (pa_cons (pv 0) pa_nil)) (pa_cons (pe_tup (pa_cons pe_int (pa_cons pe_int pa_nil))) (pa_cons (pe_tup (pa_cons (pe_un un_neg pe_int) (pa_cons pe_int pa_nil))) (pa_cons (pe_tup (pa_cons (pe_op op_sub pe_int pe_int) (pa_cons pe_int pa_nil))) (pa_cons (pe_tup (pa_cons pe_int (pa_cons pe_int pa_nil))) pa_nil))))))) pa_nil))))), ?_⟩
    have hh0 := hh
    walk_at "wa"
    intro p0 np0
    have sN : Same H (upd H p0 (.tup [.int 0, .int 1])) := same1 np0
    have t0 : TQ (upd H p0 (.tup [.int 0, .int 1])) (.ref p0) 20 (0, 1) := TQ.mk upd_same (by decide) (by decide) (by decide)
    generalize upd H p0 (.tup [.int 0, .int 1]) = G0 at *
    replace hh0 := hh0.same sN
    have s_all := sN
    clear sN np0
    walk_at "wa"
    intro vp zp HP hhp kp' tp _
    replace t0 := t0.kp hh0 kp'
    have kA : Kp h H HP := (Kp.same s_all).trans kp'
    clear kp' hh0 s_all
    have s_all : Same HP HP := Same.refl _
    have hh0 := hhp
    walk_at "wa"
    intro p2 np2
    have sN : Same HP (upd HP p2 (.tup [.int 1, .int 3])) := same1 np2
    have t2 : TQ (upd HP p2 (.tup [.int 1, .int 3])) (.ref p2) 20 (1, 3) := TQ.mk upd_same (by decide) (by decide) (by decide)
    generalize upd HP p2 (.tup [.int 1, .int 3]) = G2 at *
    replace t0 := t0.same sN
    replace tp := tp.same sN
    replace hh0 := hh0.same sN
    replace s_all := s_all.trans sN
    clear sN np2
    walk_at "wa"
    intro p3 np3
    have sN : Same G2 (upd G2 p3 (.tup [.int (-1), .int 2])) := same1 np3
    have t3 : TQ (upd G2 p3 (.tup [.int (-1), .int 2])) (.ref p3) 20 ((-1), 2) := TQ.mk upd_same (by decide) (by decide) (by decide)
    generalize upd G2 p3 (.tup [.int (-1), .int 2]) = G3 at *
    replace t0 := t0.same sN
    replace tp := tp.same sN
    replace t2 := t2.same sN
    replace hh0 := hh0.same sN
    replace s_all := s_all.trans sN
    clear sN np3
    walk_at "wa"
    intro p4 np4
    have sN : Same G3 (upd G3 p4 (.tup [.int (0 - 1), .int 7])) := same1 np4
    have t4 : TQ (upd G3 p4 (.tup [.int (0 - 1), .int 7])) (.ref p4) 20 ((0 - 1), 7) := TQ.mk upd_same (by decide) (by decide) (by decide)
    generalize upd G3 p4 (.tup [.int (0 - 1), .int 7]) = G4 at *
    replace t0 := t0.same sN
    replace tp := tp.same sN
    replace t2 := t2.same sN
    replace t3 := t3.same sN
    replace hh0 := hh0.same sN
    replace s_all := s_all.trans sN
    clear sN np4
    walk_at "wa"
    intro p5 np5
    have sN : Same G4 (upd G4 p5 (.tup [.int 2, .int 1])) := same1 np5
    have t5 : TQ (upd G4 p5 (.tup [.int 2, .int 1])) (.ref p5) 20 (2, 1) := TQ.mk upd_same (by decide) (by decide) (by decide)
    generalize upd G4 p5 (.tup [.int 2, .int 1]) = G5 at *
    replace t0 := t0.same sN
    replace tp := tp.same sN
    replace t2 := t2.same sN
    replace t3 := t3.same sN
    replace t4 := t4.same sN
    replace hh0 := hh0.same sN
    replace s_all := s_all.trans sN
    clear sN np5
    walk_at "wa"
    intro pl npl
    have sN : Same G5 (upd G5 pl (.lst [.ref p0, vp, .ref p2, .ref p3, .ref p4, .ref p5])) := same1 npl
    have all : ∀ x ∈ [V.ref p0, vp, V.ref p2, V.ref p3, V.ref p4, V.ref p5], ∃ z, TQ (upd G5 pl (.lst [.ref p0, vp, .ref p2, .ref p3, .ref p4, .ref p5])) x 20 z := fun x hx => by
      simp only [List.mem_cons, List.not_mem_nil, or_false] at hx
      rcases hx with rfl | rfl | rfl | rfl | rfl | rfl
      · exact ⟨_, t0.same sN⟩
      · exact ⟨_, tp.same sN⟩
      · exact ⟨_, t2.same sN⟩
      · exact ⟨_, t3.same sN⟩
      · exact ⟨_, t4.same sN⟩
      · exact ⟨_, t5.same sN⟩
    refine ⟨h, pl, _, _, rfl, hh0.same sN, by omega, SqL.of upd_same, hh0.ne npl, Nat.le_of_ble_eq_true rfl, Nat.le_of_ble_eq_true rfl, fun i vx HX hx hhX kX => ?_⟩
    obtain ⟨zx, tx⟩ := all vx (List.mem_of_getElem? hx)
    replace tx := tx.kp (hh0.same sN) kX
    exact kk vx zx HX hhX ((kA.trans (Kp.same (s_all.trans sN))).trans kX) tx
theorem ok_l_loose {P : Program} {w : World} {K : PySem.W.Frag} {mg : Str → Option Value} {base : Heap} {φ : Fds} (T : Txt K mg φ) : FnOk P w K mg base CX0 4 (He.fAd K ("_law_loose", none)) φ.l_loose p_l_loose sp_gr := by
  obtain ⟨_, B0v, B0⟩ := b_l_pick_2 T
  obtain ⟨_, B1v, B1⟩ := b_l_part_1 T
  refine T.f_l_loose.ok sc_l_loose (fun vs H Q E h => ?_) (fun cdv A outer s H vs Q E hr h => ?_)
  · obtain ⟨h, n, rfl, hh, hn, kk⟩ := h; rfl
  · obtain ⟨h, n, rfl, hh, hn, kk⟩ := h
    refine ⟨_, PSs.nox (pss_one (ps_ret (pe_call (ok_l_pick (K := K) T) (hr.mono (by decide)) rfl T.g_l_pick T.f_l_pick.kp B0 B0v pass0 (pa_cons (pv 0) (pa_cons (pe_lst (pa_cons (pe_tup (pa_cons pe_int (pa_cons pe_int pa_nil))) (pa_cons (pe_call (ok_l_part (K := K) T) (hr.mono (by decide)) rfl T.g_l_part T.f_l_part.kp B1 B1v pass0 (pa_cons (pv 0) pa_nil)) (pa_cons (pe_tup (pa_cons pe_int (pa_cons pe_int pa_nil))) (pa_cons (pe_tup (pa_cons pe_int (pa_cons pe_int pa_nil))) (pa_cons (pe_tup (pa_cons pe_int (pa_cons pe_int pa_nil))) (pa_cons (pe_tup (pa_cons pe_int (pa_cons pe_int pa_nil))) pa_nil))))))) pa_nil))))), ?_⟩
    have hh0 := hh
    walk_at "wa"
    intro p0 np0
    have sN : Same H (upd H p0 (.tup [.int 0, .int 1])) := same1 np0
    have t0 : TQ (upd H p0 (.tup [.int 0, .int 1])) (.ref p0) 20 (0, 1) := TQ.mk upd_same (by decide) (by decide) (by decide)
    generalize upd H p0 (.tup [.int 0, .int 1]) = G0 at *
    replace hh0 := hh0.same sN
    have s_all := sN
    clear sN np0
    walk_at "wa"
    intro vp zp HP hhp kp' tp _
    replace t0 := t0.kp hh0 kp'
    have kA : Kp h H HP := (Kp.same s_all).trans kp'
    clear kp' hh0 s_all
    have s_all : Same HP HP := Same.refl _
    have hh0 := hhp
    walk_at "wa"
    intro p2 np2
    have sN : Same HP (upd HP p2 (.tup [.int 1, .int 2])) := same1 np2
    have t2 : TQ (upd HP p2 (.tup [.int 1, .int 2])) (.ref p2) 20 (1, 2) := TQ.mk upd_same (by decide) (by decide) (by decide)
    generalize upd HP p2 (.tup [.int 1, .int 2]) = G2 at *
    replace t0 := t0.same sN
    replace tp := tp.same sN
    replace hh0 := hh0.same sN
    replace s_all := s_all.trans sN
    clear sN np2
    walk_at "wa"
    intro p3 np3
    have sN : Same G2 (upd G2 p3 (.tup [.int 1, .int 1])) := same1 np3
    have t3 : TQ (upd G2 p3 (.tup [.int 1, .int 1])) (.ref p3) 20 (1, 1) := TQ.mk upd_same (by decide) (by decide) (by decide)
    generalize upd G2 p3 (.tup [.int 1, .int 1]) = G3 at *
    replace t0 := t0.same sN
    replace tp := tp.same sN
    replace t2 := t2.same sN
    replace hh0 := hh0.same sN
    replace s_all := s_all.trans sN
    clear sN np3
    walk_at "wa"
    intro p4 np4
    have sN : Same G3 (upd G3 p4 (.tup [.int 3, .int 1])) := same1 np4
    have t4 : TQ (upd G3 p4 (.tup [.int 3, .int 1])) (.ref p4) 20 (3, 1) := TQ.mk upd_same (by decide) (by decide) (by decide)
    generalize upd G3 p4 (.tup [.int 3, .int 1]) = G4 at *
    replace t0 := t0.same sN
    replace tp := tp.same sN
    replace t2 := t2.same sN
    replace t3 := t3.same sN
    replace hh0 := hh0.same sN
    replace s_all := s_all.trans sN
    clear sN np4
    walk_at "wa"
    intro p5 np5
    have sN : Same G4 (upd G4 p5 (.tup [.int 12, .int 1])) := same1 np5
    have t5 : TQ (upd G4 p5 (.tup [.int 12, .int 1])) (.ref p5) 20 (12, 1) := TQ.mk upd_same (by decide) (by decide) (by decide)
    generalize upd G4 p5 (.tup [.int 12, .int 1]) = G5 at *
    replace t0 := t0.same sN
    replace tp := tp.same sN
    replace t2 := t2.same sN
    replace t3 := t3.same sN
    replace t4 := t4.same sN
    replace hh0 := hh0.same sN
    replace s_all := s_all.trans sN
    clear sN np5
    walk_at "wa"
    intro pl npl
    have sN : Same G5 (upd G5 pl (.lst [.ref p0, vp, .ref p2, .ref p3, .ref p4, .ref p5])) := same1 npl
    have all : ∀ x ∈ [V.ref p0, vp, V.ref p2, V.ref p3, V.ref p4, V.ref p5], ∃ z, TQ (upd G5 pl (.lst [.ref p0, vp, .ref p2, .ref p3, .ref p4, .ref p5])) x 20 z := fun x hx => by
      simp only [List.mem_cons, List.not_mem_nil, or_false] at hx
      rcases hx with rfl | rfl | rfl | rfl | rfl | rfl
      · exact ⟨_, t0.same sN⟩
      · exact ⟨_, tp.same sN⟩
      · exact ⟨_, t2.same sN⟩
      · exact ⟨_, t3.same sN⟩
      · exact ⟨_, t4.same sN⟩
      · exact ⟨_, t5.same sN⟩
    refine ⟨h, pl, _, _, rfl, hh0.same sN, by omega, SqL.of upd_same, hh0.ne npl, Nat.le_of_ble_eq_true rfl, Nat.le_of_ble_eq_true rfl, fun i vx HX hx hhX kX => ?_⟩
    obtain ⟨zx, tx⟩ := all vx (List.mem_of_getElem? hx)
    replace tx := tx.kp (hh0.same sN) kX
    exact kk vx zx HX hhX ((kA.trans (Kp.same (s_all.trans sN))).trans kX) tx
theorem ok_l_broad {P : Program} {w : World} {K : PySem.W.Frag} {mg : Str → Option Value} {base : Heap} {φ : Fds} (T : Txt K mg φ) : FnOk P w K mg base CX0 3 (He.fAd K ("_law_broad", none)) φ.l_broad p_l_broad sp_lbroad := by
  obtain ⟨_, B0v, B0⟩ := b_l_sum_2 T
  refine T.f_l_broad.ok sc_l_broad (fun vs H Q E h => ?_) (fun cdv A outer s H vs Q E hr h => ?_)
  · obtain ⟨h, p, i, w', k, zs, ys, g, b, rfl, hS, hb, hi, k0, k1, kk⟩ := h; rfl
  · obtain ⟨h, p, i, w', k, zs, ys, g, b, rfl, hS, hb, hi, k0, k1, kk⟩ := h
    refine ⟨_, PSs.nox (pss_one (ps_ret (pe_call (ok_l_sum (K := K) T) (hr.mono (by decide)) rfl T.g_l_sum T.f_l_sum.kp B0 B0v pass0 (pa_cons (pe_ix (ixl (K := K)) (pe_ix (ixl (K := K)) (pv 0) pe_int (fun _ _ => rfl)) (pv 2) (fun _ _ => rfl)) (pa_cons (pe_tup (pa_cons (pe_op op_mulA (pv 1) (pe_ix (ixt (K := K)) (pe_ix (ixl (K := K)) (pv 0) pe_int (fun _ _ => rfl)) pe_int (fun _ _ => rfl))) (pa_cons (pe_ix (ixt (K := K)) (pe_ix (ixl (K := K)) (pv 0) pe_int (fun _ _ => rfl)) pe_int (fun _ _ => rfl)) pa_nil))) pa_nil))))), ?_⟩
    obtain ⟨l1, l2, v, us, ws, hp, hl1, hl2, tq1, tq2, ⟨qv, rfl, hqv, pg, g1, g2⟩, _⟩ := hS.ob
    obtain ⟨vb, hvb, tb⟩ := tq2.at hb
    walk_at "wa"
    have si : Sz 5 ((i : Nat) : Int) := by
      show ((i : Nat) : Int).natAbs < 2 ^ 5
      omega
    try refine ⟨si.cmul g1 (by decide) (by decide) (by decide), ?_⟩
    walk_at "wa"
    intro p1 np1
    refine ⟨vb, .ref p1, k, 25, b, ((i : Int) * g.1, g.2), rfl, tb.same (same1 np1), TQ.mk upd_same pg (si.mul g1) (g2.mono (by decide)), k0, by decide, by omega, fun v2 z2 H2 s2 t2 r2 => ?_⟩
    rw [← grdQ_eq] at r2
    exact kk v2 z2 H2 ((same1 np1 : Same H _).trans s2) t2 r2
theorem ok_l_foot_of {P : Program} {w : World} {K : PySem.W.Frag} {mg : Str → Option Value} {base : Heap} {φ : Fds} (T : Txt K mg φ) : FnOk P w K mg base CX0 4 (He.fAd K ("_law_foot_of", none)) φ.l_foot_of p_l_foot_of (sp_footof K) := by
  obtain ⟨_, B0v, B0⟩ := b_l_broad_3 T
  obtain ⟨_, B1v, B1⟩ := b_l_pick_2 T
  obtain ⟨_, B2v, B2⟩ := b_l_sum_2 T
  refine T.f_l_foot_of.ok sc_l_foot_of (fun vs H Q E h => ?_) (fun cdv A outer s H vs Q E hr h => ?_)
  · obtain ⟨h, p, t, s', i, w', k, n, zs, ys, g, a, b, y, rfl, hh, hn, hS, ht, ha, hb, hi, ⟨qy, rfl, hqy, py, y1, y2⟩, k0, k1, kk⟩ := h; rfl
  · obtain ⟨h, p, t, s', i, w', k, n, zs, ys, g, a, b, y, rfl, hh, hn, hS, ht, ha, hb, hi, ⟨qy, rfl, hqy, py, y1, y2⟩, k0, k1, kk⟩ := h
    refine ⟨_, PSs.nox (pss_cons (ps_set (i := 4) sc_l_foot_of.nd rfl (Or.inl rfl) (pe_lst pa_nil))
      (pss_cons (ps_for PassesOwn.never rfl (pi_tup (pe_tup (pa_cons (pe_ix (ixl (K := K)) (pe_ix (ixl (K := K)) (pv 1) pe_int (fun _ _ => rfl)) (pe_ix (ixt (K := K)) (pv 2) pe_int (fun _ _ => rfl)) (fun _ _ => rfl)) (pa_cons (pe_call (ok_l_broad (K := K) T) (hr.mono (by decide)) rfl T.g_l_broad T.f_l_broad.kp B0 B0v pass0 (pa_cons (pv 1) (pa_cons (pe_ix (ixt (K := K)) (pv 2) pe_int (fun _ _ => rfl)) (pa_cons (pe_ix (ixt (K := K)) (pv 2) pe_int (fun _ _ => rfl)) pa_nil)))) pa_nil)))) (pg_name (i := 5) sc_l_foot_of.nd rfl (Or.inl rfl))
      (pss_cons (ps_cut (ps_set (i := 6) sc_l_foot_of.nd rfl (Or.inl rfl) (pe_call (ok_l_pick (K := K) T) (hr.mono (by decide)) rfl T.g_l_pick T.f_l_pick.kp B1 B1v pass0 (pa_cons (pv 0) (pa_cons (pe_lst (pa_cons (pe_tup (pa_cons pe_int (pa_cons pe_int pa_nil))) (pa_cons (pe_tup (pa_cons pe_int (pa_cons pe_int pa_nil))) (pa_cons (pv 3) (pa_cons (pv 3) (pa_cons (pe_tup (pa_cons (pe_ix (ixt (K := K)) (pv 3) pe_int (fun _ _ => rfl)) (pa_cons (pe_op op_mulA pe_int (pe_ix (ixt (K := K)) (pv 3) pe_int (fun _ _ => rfl))) pa_nil))) (pa_cons (pe_tup (pa_cons pe_int (pa_cons pe_int pa_nil))) (pa_cons (pe_tup (pa_cons (pe_un un_neg pe_int) (pa_cons pe_int pa_nil))) pa_nil)))))))) pa_nil)))))
      (pss_cons (ps_cut (ps_set (i := 7) sc_l_foot_of.nd rfl (Or.inl rfl) (pe_call (ok_l_pick (K := K) T) (hr.mono (by decide)) rfl T.g_l_pick T.f_l_pick.kp B1 B1v pass0 (pa_cons (pv 0) (pa_cons (pe_lst (pa_cons (pe_tup (pa_cons pe_int (pa_cons pe_int pa_nil))) (pa_cons (pe_tup (pa_cons pe_int (pa_cons pe_int pa_nil))) (pa_cons (pe_tup (pa_cons pe_int (pa_cons pe_int pa_nil))) (pa_cons (pe_tup (pa_cons pe_int (pa_cons pe_int pa_nil))) (pa_cons (pe_tup (pa_cons (pe_un un_neg pe_int) (pa_cons pe_int pa_nil))) pa_nil)))))) pa_nil)))))
      (pss_one (ps_expr (pe_bm PySem.F.plainAttrs_list PySem.F.slot_list_append PySem.F.type_list_append mt_append (pv 4) (pa_cons (pe_call (ok_l_sum (K := K) T) (hr.mono (by decide)) rfl T.g_l_sum T.f_l_sum.kp B2 B2v pass0 (pa_cons (pe_call (ok_l_sum (K := K) T) (hr.mono (by decide)) rfl T.g_l_sum T.f_l_sum.kp B2 B2v pass0 (pa_cons (pv 5) (pa_cons (pe_tup (pa_cons (pe_op op_sub pe_int (pe_ix (ixt (K := K)) (pv 6) pe_int (fun _ _ => rfl))) (pa_cons (pe_ix (ixt (K := K)) (pv 6) pe_int (fun _ _ => rfl)) pa_nil))) pa_nil))) (pa_cons (pv 7) pa_nil))) pa_nil)))))))
      (pss_one (ps_ret (pe_callTy (T := "tuple") (tupleL (K := K)) (by rfl) T.z_tuple (by decide +kernel) (pa_cons (pv 4) pa_nil)))))), ?_⟩
    have hS0 := hS
    obtain ⟨l1, l2, v, us, ws, hp, hl1, hl2, tq1, tq2, tg, _⟩ := hS.ob
    obtain ⟨va, hva, ta⟩ := tq1.at ha
    walk_at "w"
    intro lf nlf
    have sA : Same H (upd H lf (.lst [])) := same1 nlf
    have hlf : upd H lf (.lst []) lf = some (.lst []) := upd_same
    have nlh := hh.ne nlf
    have nlfH := nlf
    generalize upd H lf (.lst []) = H1 at *
    replace hp := sA _ _ hp
    replace hl1 := sA _ _ hl1
    replace ht := sA.sqt ht
    walk_at "w"
    refine ⟨zs, ys, g, b, rfl, hS.same sA, hb, hi, k0, k1, fun vb zb H2 s2 tb _ => ?_⟩
    have s12 := sA.trans s2
    replace hlf := s2 _ _ hlf
    replace ta := (ta.same s12).mono (show k ≤ k + 26 by omega)
    replace hqy := s12 _ _ hqy
    replace hh := hh.same s12
    clear hp hl1 hl2 tq1 tq2 tg hS hS0 s2 sA
    walk_at "w"
    intro pt npt
    have sB : Same H2 (upd H2 pt (.tup [va, vb])) := same1 npt
    have hpt : upd H2 pt (.tup [va, vb]) pt = some (.tup [va, vb]) := upd_same
    generalize upd H2 pt (.tup [va, vb]) = H3 at *
    replace hlf := sB _ _ hlf
    replace ta := ta.same sB
    replace tb := tb.same sB
    replace hqy := sB _ _ hqy
    replace hh := hh.same sB
    replace s12 := s12.trans sB
    clear sB npt
    have tab : ∀ x ∈ [va, vb], ∃ z, TQ H3 x (k + 26) z := fun x hx => by
      simp only [List.mem_cons, List.not_mem_nil, or_false] at hx
      rcases hx with rfl | rfl
      · exact ⟨_, ta⟩
      · exact ⟨_, tb⟩
    have kA : Kp h H H3 := Kp.same s12
    have ty : TQ H3 (.ref qy) 20 y := ⟨qy, rfl, hqy, py, y1, y2⟩
    refine ⟨pt, rfl, ⟨_, SqT.of hpt⟩, for_tup (K := K) (a := pt) (xs := [va, vb]) (fun i' σ H' => ∃ (vs' : List V) (v1 v2 v3 : Option V), σ = [some (.ref h), some (.ref p), some (.ref t), some (.ref qy), some (.ref lf), v1, v2, v3] ∧ H' lf = some (.lst vs') ∧ vs'.length = i' ∧ (∀ x ∈ vs', ∃ z, TQ H' x (k + 80) z) ∧ HandAt H' h (n + 2 * i') ∧ Kp h H H' ∧ Nl H3 H') ?_ ?_ ?_ ?_⟩
    · exact ⟨[], _, _, _, rfl, hlf, rfl, fun x hx => by simp at hx, hh, kA, fun _ _ z _ => z⟩
    · rintro i' σ H' _ ⟨vs', v1, v2, v3, rfl, h1, h2, h3, h4, h5, h6⟩
      exact SqT.of (h6 _ _ hpt rfl)
    · rintro i' x σ H4 hx ⟨vs', v1, v2, v3, rfl, hl4, lv, av, hh4, k4, n4⟩
      have hi' : i' < 2 := (List.getElem?_eq_some_iff.mp hx).1
      obtain ⟨zx, tx⟩ := tab x (List.mem_of_getElem? hx)
      replace tx := tx.nl n4
      have ty4 := ty.nl n4
      obtain ⟨_, e, hqy4, _⟩ := ty.nl n4
      cases e
      refine ⟨fun σ' H' => ∃ (vF : V) (zF : Q2), σ' = [some (.ref h), some (.ref p), some (.ref t), some (.ref qy), some (.ref lf), some x, some vF, v3] ∧ HandAt H' h (n + 2 * i' + 1) ∧ Kp h H4 H' ∧ TQ H' vF 22 zF, ?_, ?_⟩
      · clear hl4 av tx k4 n4 tab kA ty hh hlf hpt ta tb hqy s12
        have hh0 := hh4
        have sS : Same H4 H4 := Same.refl _
        walk_at "w"
        intro pF0 npF0
        have sN : Same H4 (upd H4 pF0 (.tup [.int 0, .int 1])) := same1 npF0
        have tF0 : TQ (upd H4 pF0 (.tup [.int 0, .int 1])) (.ref pF0) 22 (0, 1) := TQ.mk upd_same (by decide) (by decide) (by decide)
        generalize upd H4 pF0 (.tup [.int 0, .int 1]) = GF0 at *
        replace ty4 := ty4.same sN
        replace hqy4 := sN _ _ hqy4
        replace hh0 := hh0.same sN
        replace sS := sS.trans sN
        clear sN npF0
        walk_at "w"
        intro pF1 npF1
        have sN : Same GF0 (upd GF0 pF1 (.tup [.int 0, .int 1])) := same1 npF1
        have tF1 : TQ (upd GF0 pF1 (.tup [.int 0, .int 1])) (.ref pF1) 22 (0, 1) := TQ.mk upd_same (by decide) (by decide) (by decide)
        generalize upd GF0 pF1 (.tup [.int 0, .int 1]) = GF1 at *
        replace ty4 := ty4.same sN
        replace hqy4 := sN _ _ hqy4
        replace tF0 := tF0.same sN
        replace hh0 := hh0.same sN
        replace sS := sS.trans sN
        clear sN npF1
        walk_at "w"
        intro pF4 npF4
        have sN : Same GF1 (upd GF1 pF4 (.tup [.int y.1, .int (2 * y.2)])) := same1 npF4
        have tF4 : TQ (upd GF1 pF4 (.tup [.int y.1, .int (2 * y.2)])) (.ref pF4) 22 (y.1, (2 * y.2)) := TQ.mk upd_same (by omega) (y1.mono (by decide)) (((show Sz 2 (2 : Int) by decide).mul y2).mono (by decide))
        generalize upd GF1 pF4 (.tup [.int y.1, .int (2 * y.2)]) = GF4 at *
        replace ty4 := ty4.same sN
        replace hqy4 := sN _ _ hqy4
        replace tF0 := tF0.same sN
        replace tF1 := tF1.same sN
        replace hh0 := hh0.same sN
        replace sS := sS.trans sN
        clear sN npF4
        walk_at "w"
        intro pF5 npF5
        have sN : Same GF4 (upd GF4 pF5 (.tup [.int 3, .int 1])) := same1 npF5
        have tF5 : TQ (upd GF4 pF5 (.tup [.int 3, .int 1])) (.ref pF5) 22 (3, 1) := TQ.mk upd_same (by decide) (by decide) (by decide)
        generalize upd GF4 pF5 (.tup [.int 3, .int 1]) = GF5 at *
        replace ty4 := ty4.same sN
        replace hqy4 := sN _ _ hqy4
        replace tF0 := tF0.same sN
        replace tF1 := tF1.same sN
        replace tF4 := tF4.same sN
        replace hh0 := hh0.same sN
        replace sS := sS.trans sN
        clear sN npF5
        walk_at "w"
        intro pF6 npF6
        have sN : Same GF5 (upd GF5 pF6 (.tup [.int (-2), .int 1])) := same1 npF6
        have tF6 : TQ (upd GF5 pF6 (.tup [.int (-2), .int 1])) (.ref pF6) 22 ((-2), 1) := TQ.mk upd_same (by decide) (by decide) (by decide)
        generalize upd GF5 pF6 (.tup [.int (-2), .int 1]) = GF6 at *
        replace ty4 := ty4.same sN
        replace hqy4 := sN _ _ hqy4
        replace tF0 := tF0.same sN
        replace tF1 := tF1.same sN
        replace tF4 := tF4.same sN
        replace tF5 := tF5.same sN
        replace hh0 := hh0.same sN
        replace sS := sS.trans sN
        clear sN npF6
        walk_at "w"
        intro pl npl
        have sN : Same GF6 (upd GF6 pl (.lst [.ref pF0, .ref pF1, .ref qy, .ref qy, .ref pF4, .ref pF5, .ref pF6])) := same1 npl
        have all : ∀ x ∈ [V.ref pF0, V.ref pF1, V.ref qy, V.ref qy, V.ref pF4, V.ref pF5, V.ref pF6], ∃ z, TQ (upd GF6 pl (.lst [.ref pF0, .ref pF1, .ref qy, .ref qy, .ref pF4, .ref pF5, .ref pF6])) x 22 z := fun x hx => by
          simp only [List.mem_cons, List.not_mem_nil, or_false] at hx
          rcases hx with rfl | rfl | rfl | rfl | rfl | rfl | rfl
          · exact ⟨_, (tF0.mono (by omega)).same sN⟩
          · exact ⟨_, (tF1.mono (by omega)).same sN⟩
          · exact ⟨_, (ty4.mono (by omega)).same sN⟩
          · exact ⟨_, (ty4.mono (by omega)).same sN⟩
          · exact ⟨_, (tF4.mono (by omega)).same sN⟩
          · exact ⟨_, (tF5.mono (by omega)).same sN⟩
          · exact ⟨_, (tF6.mono (by omega)).same sN⟩
        have nplh := hh0.ne npl
        replace hh0 := hh0.same sN
        replace ty4 := ty4.same sN
        replace hqy4 := sN _ _ hqy4
        refine ⟨h, pl, _, _, rfl, hh0, by omega, SqL.of upd_same, nplh, Nat.le_of_ble_eq_true rfl, Nat.le_of_ble_eq_true rfl, fun iF vF HF hx hhF kX => ?_⟩
        obtain ⟨zF, tF⟩ := all vF (List.mem_of_getElem? hx)
        replace tF := tF.kp hh0 kX
        replace ty4 := ty4.kp hh0 kX
        replace hqy4 := kX.get hh0 hqy4 rfl
        have kF : Kp h H4 HF := (Kp.same (sS.trans sN)).trans kX
        clear all hx sN sS kX hh0 npl nplh tF0 tF1 tF4 tF5 tF6
        exact ⟨vF, zF, rfl, hhF, kF, tF⟩
      rintro σ' HF ⟨vF, zF, rfl, hhF, kF, tF⟩
      replace tx := tx.kp hh4 kF
      replace hl4 := kF _ _ hl4 nlh
      refine ⟨fun σ' H' => ∃ (vG : V) (zG : Q2), σ' = [some (.ref h), some (.ref p), some (.ref t), some (.ref qy), some (.ref lf), some x, some vF, some vG] ∧ HandAt H' h (n + 2 * i' + 1 + 1) ∧ Kp h HF H' ∧ TQ H' vG 20 zG, ?_, ?_⟩
      · clear hl4 av tx k4 n4 tab kA ty hh hlf hpt ta tb hqy s12 tF kF ty4 hqy4
        have hh0 := hhF
        have sS : Same HF HF := Same.refl _
        walk_at "w"
        intro pG0 npG0
        have sN : Same HF (upd HF pG0 (.tup [.int 0, .int 1])) := same1 npG0
        have tG0 : TQ (upd HF pG0 (.tup [.int 0, .int 1])) (.ref pG0) 20 (0, 1) := TQ.mk upd_same (by decide) (by decide) (by decide)
        generalize upd HF pG0 (.tup [.int 0, .int 1]) = GG0 at *
        replace hh0 := hh0.same sN
        replace sS := sS.trans sN
        clear sN npG0
        walk_at "w"
        intro pG1 npG1
        have sN : Same GG0 (upd GG0 pG1 (.tup [.int 0, .int 1])) := same1 npG1
        have tG1 : TQ (upd GG0 pG1 (.tup [.int 0, .int 1])) (.ref pG1) 20 (0, 1) := TQ.mk upd_same (by decide) (by decide) (by decide)
        generalize upd GG0 pG1 (.tup [.int 0, .int 1]) = GG1 at *
        replace tG0 := tG0.same sN
        replace hh0 := hh0.same sN
        replace sS := sS.trans sN
        clear sN npG1
        walk_at "w"
        intro pG2 npG2
        have sN : Same GG1 (upd GG1 pG2 (.tup [.int 0, .int 1])) := same1 npG2
        have tG2 : TQ (upd GG1 pG2 (.tup [.int 0, .int 1])) (.ref pG2) 20 (0, 1) := TQ.mk upd_same (by decide) (by decide) (by decide)
        generalize upd GG1 pG2 (.tup [.int 0, .int 1]) = GG2 at *
        replace tG0 := tG0.same sN
        replace tG1 := tG1.same sN
        replace hh0 := hh0.same sN
        replace sS := sS.trans sN
        clear sN npG2
        walk_at "w"
        intro pG3 npG3
        have sN : Same GG2 (upd GG2 pG3 (.tup [.int 1, .int 1000003])) := same1 npG3
        have tG3 : TQ (upd GG2 pG3 (.tup [.int 1, .int 1000003])) (.ref pG3) 20 (1, 1000003) := TQ.mk upd_same (by decide) (by decide) (by decide)
        generalize upd GG2 pG3 (.tup [.int 1, .int 1000003]) = GG3 at *
        replace tG0 := tG0.same sN
        replace tG1 := tG1.same sN
        replace tG2 := tG2.same sN
        replace hh0 := hh0.same sN
        replace sS := sS.trans sN
        clear sN npG3
        walk_at "w"
        intro pG4 npG4
        have sN : Same GG3 (upd GG3 pG4 (.tup [.int (-1), .int 1000003])) := same1 npG4
        have tG4 : TQ (upd GG3 pG4 (.tup [.int (-1), .int 1000003])) (.ref pG4) 20 ((-1), 1000003) := TQ.mk upd_same (by decide) (by decide) (by decide)
        generalize upd GG3 pG4 (.tup [.int (-1), .int 1000003]) = GG4 at *
        replace tG0 := tG0.same sN
        replace tG1 := tG1.same sN
        replace tG2 := tG2.same sN
        replace tG3 := tG3.same sN
        replace hh0 := hh0.same sN
        replace sS := sS.trans sN
        clear sN npG4
        walk_at "w"
        intro pl npl
        have sN : Same GG4 (upd GG4 pl (.lst [.ref pG0, .ref pG1, .ref pG2, .ref pG3, .ref pG4])) := same1 npl
        have all : ∀ x ∈ [V.ref pG0, V.ref pG1, V.ref pG2, V.ref pG3, V.ref pG4], ∃ z, TQ (upd GG4 pl (.lst [.ref pG0, .ref pG1, .ref pG2, .ref pG3, .ref pG4])) x 20 z := fun x hx => by
          simp only [List.mem_cons, List.not_mem_nil, or_false] at hx
          rcases hx with rfl | rfl | rfl | rfl | rfl
          · exact ⟨_, (tG0.mono (by omega)).same sN⟩
          · exact ⟨_, (tG1.mono (by omega)).same sN⟩
          · exact ⟨_, (tG2.mono (by omega)).same sN⟩
          · exact ⟨_, (tG3.mono (by omega)).same sN⟩
          · exact ⟨_, (tG4.mono (by omega)).same sN⟩
        have nplh := hh0.ne npl
        replace hh0 := hh0.same sN
        refine ⟨h, pl, _, _, rfl, hh0, by omega, SqL.of upd_same, nplh, Nat.le_of_ble_eq_true rfl, Nat.le_of_ble_eq_true rfl, fun iG vG HG hx hhG kX => ?_⟩
        obtain ⟨zG, tG⟩ := all vG (List.mem_of_getElem? hx)
        replace tG := tG.kp hh0 kX
        have kG : Kp h HF HG := (Kp.same (sS.trans sN)).trans kX
        clear all hx sN sS kX hh0 npl nplh tG0 tG1 tG2 tG3 tG4
        exact ⟨vG, zG, rfl, hhG, kG, tG⟩
      rintro σ' HG ⟨vG, zG, rfl, hhG, kG, tG⟩
      replace tx := tx.kp hhF kG
      replace hl4 := kG _ _ hl4 nlh
      replace tF := tF.kp hhF kG
      obtain ⟨qF, rfl, hqF, pF, f1, f2⟩ := tF
      walk_at "w"
      intro pn npn
      have sN : Same HG (upd HG pn (.tup [.int (0 - zF.1), .int zF.2])) := same1 npn
      refine ⟨x, .ref pn, k + 26, 22, zx, (0 - zF.1, zF.2), rfl, tx.same sN, TQ.mk upd_same pF (by rw [Int.zero_sub]; exact f1.neg) f2, by omega, by decide, by omega, fun v7 z7 H7 s7 t7 _ => ?_⟩
      replace s7 := sN.trans s7
      walk_at "w"
      refine ⟨z7, zG, rfl, t7, tG.same s7, by omega, by decide, by omega, fun v8 z8 H8 s8 t8 _ => ?_⟩
      have s78 := s7.trans s8
      have hl8 := s78 _ _ hl4
      refine ⟨lf, _, _, rfl, rfl, hl8, szs (by omega), ?_⟩
      have pn8 : Nl H8 (upd H8 lf (.lst (vs' ++ [v8]))) := Nl.put hl8
      have k48 := (kF.trans kG).trans (Kp.same s78)
      refine ⟨vs' ++ [v8], _, _, _, rfl, upd_same, by rw [List.length_append, lv]; rfl, fun y hy => ?_, ((hhG.same s78).put nlh).mono (by omega), (k4.trans k48).putN ?_, fun c o e no => pn8 _ _ ((k48.nlh hh4) _ _ (n4 _ _ e no) no) no⟩
      · rcases List.mem_append.mp hy with hy | hy
        · obtain ⟨z, tz⟩ := av y hy
          exact ⟨z, (tz.nl (k48.nlh hh4)).nl pn8⟩
        · have : y = v8 := by simpa using hy
          subst this
          exact ⟨z8, (t8.mono (by omega)).nl pn8⟩
      · exact nlfH
    · rintro σ H4 ⟨vs', v1, v2, v3, rfl, hl4, lv, av, hh4, k4, n4⟩
      have lv2 : vs'.length = 2 := lv
      match vs', lv2 with
      | [u1, u2], _ =>
        obtain ⟨x1, a1⟩ := av u1 (by simp)
        obtain ⟨x2, a2⟩ := av u2 (by simp)
        walk_at "w"
        intro T2 nT2
        exact kk T2 u1 u2 x1 x2 _ ((hh4.up nT2).mono (by omega)) (k4.up nT2) upd_same (a1.same (same1 nT2)) (a2.same (same1 nT2))
theorem ok_Ladder_len {P : Program} {w : World} {K : PySem.W.Frag} {mg : Str → Option Value} {base : Heap} {φ : Fds} (T : Txt K mg φ) : FnOk P w K mg base CX0 1 (He.fAd K ("Ladder", some "__len__")) φ.Ladder_len p_Ladder_len (sp_llen K (He.ga K "Measure") (He.ga K "Ladder")) := by
  refine T.f_Ladder_len.ok sc_Ladder_len (fun vs H Q E h => ?_) (fun cdv A outer s H vs Q E hr h => ?_)
  · obtain ⟨p, k, zs, r, lo, hi, rfl, hL, kk⟩ := h; rfl
  · obtain ⟨p, k, zs, r, lo, hi, rfl, hL, kk⟩ := h
    refine ⟨_, PSs.nox (pss_one (ps_ret (pe_callB (id := "len") (lenS (K := K)) (by rfl) T.z_len PySem.boot_len (pa_cons (fldK (K := K) (pv 0) rfl) pa_nil)))), ?_⟩
    have cl_Ladder := T.cl_Ladder
    have na_Ladder_marks := T.na_Ladder_marks
    have na_Ladder_rule := T.na_Ladder_rule
    have na_Ladder_least := T.na_Ladder_least
    have na_Ladder_most := T.na_Ladder_most
    
    obtain ⟨⟨dx, T', ps, l, h, hp, hT, hm, ql, qh⟩, l0, l1, hri, hru, hsp⟩ := hL
    have el : ps.length = zs.length := hm.len
    walk_at "w"
    rw [el]
    exact kk
theorem ok_pairs_of {P : Program} {w : World} {K : PySem.W.Frag} {mg : Str → Option Value} {base : Heap} {φ : Fds} (T : Txt K mg φ) : FnOk P w K mg base CX0 3 (He.fAd K ("pairs_of", none)) φ.pairs_of p_pairs_of (sp_pairs K (He.ga K "Measure") (He.ga K "Ladder") (He.ga K "Grid")) := by
  obtain ⟨_, B0v, B0⟩ := b_Ladder_len_1 T
  refine T.f_pairs_of.ok sc_pairs_of (fun vs H Q E h => ?_) (fun cdv A outer s H vs Q E hr h => ?_)
  · obtain ⟨p, L1, L2', j, k, zs, ys, g, rfl, G, kk⟩ := h; rfl
  · obtain ⟨p, L1, L2', j, k, zs, ys, g, rfl, G, kk⟩ := h
    refine ⟨_, PSs.nox (pss_one (ps_ret (pe_lc2 (own := [("long", 1), ("broad", 2)]) (g := gName 1) (g1 := gName 2) (vs1 := [2]) rfl sc_pairs_of.nd (pi_range1 rfl T.z_range (pa_cons (pe_callB (id := "len") (call_lenO (ok_Ladder_len (K := K) T) T.me_Ladder_len (bnil B0v B0) pass0 (hr.mono (by decide))) (by rfl) T.z_len PySem.boot_len (pa_cons (fldK (K := K) (pv 0) rfl) pa_nil)) pa_nil)) (blkOk_by (own := [("long", 1), ("broad", 2)]) (N := N_pairs_of) (sc := (defScope s_pairs_of)) (by decide +kernel)) (by decide) (fun _ _ _ _ _ => (pg_name (i := 1) sc_pairs_of.nd rfl (Or.inl rfl))) (fun _ _ _ _ _ => pts_nil) (fun _ _ _ _ _ => (pi_range1 rfl T.z_range (pa_cons (pe_callB (id := "len") (call_lenO (ok_Ladder_len (K := K) T) T.me_Ladder_len (bnil B0v B0) pass0 (hr.mono (by decide))) (by rfl) T.z_len PySem.boot_len (pa_cons (fldK (K := K) (pv 0) rfl) pa_nil)) pa_nil))) (fun _ _ _ _ _ => (pg_name (i := 2) sc_pairs_of.nd rfl (Or.inl rfl))) (fun _ _ _ _ _ => pts_nil) (fun _ _ _ _ _ => (pe_tup (pa_cons (pv 1) (pa_cons (pv 2) pa_nil))))))), ?_⟩
    have na_Grid_lengths := T.na_Grid_lengths
    have na_Grid_breadths := T.na_Grid_breadths
    have na_Grid_grade := T.na_Grid_grade
    have cl_Grid := T.cl_Grid
    have cl_Ladder := T.cl_Ladder
    have na_Ladder_marks := T.na_Ladder_marks
    have na_Ladder_rule := T.na_Ladder_rule
    have na_Ladder_least := T.na_Ladder_least
    have na_Ladder_most := T.na_Ladder_most
    
    obtain ⟨dx, q, hp, aq⟩ := G.ag.ob
    obtain ⟨r1, lo1, hi1, A1⟩ := G.a1
    obtain ⟨r2, lo2, hi2, A2⟩ := G.a2
    have A1' := A1
    have A2' := A2
    obtain ⟨⟨d1, T1, ps1, u1, h1, hq1, _⟩, _⟩ := A1'
    obtain ⟨⟨d2, T2, ps2, u2, h2, hq2, _⟩, _⟩ := A2'
    have l1 := G.l1
    have m1 := G.m1
    walk_at "y"
    intro D nD
    have tn : ∀ n : Nat, ((n : Int)).toNat = n := fun n => rfl
    refine lc2s (n := zs.length) (m := ys.length) walk_range (fun _ _ _ _ => trivial) (fun c H v => PrV H v (c / ys.length, c % ys.length)) (fun c H H' v h s => h.nl s) (Nat.lt_of_le_of_lt (Nat.mul_le_mul l1 m1) (szs (Nat.le_of_ble_eq_true rfl))) trivial nD (fun i x H1 H2 NX hi s1 yy hin => ?_) (fun H1 us s1 hD lu hu => ?_)
    · obtain ⟨rfl, rfl⟩ := yy
      refine ⟨rfl, yesT ?_⟩
      have hp1 := s1 _ _ hp
      have hq21 := s1 _ _ hq2
      have A21 := A2.same s1
      walk_at "y"
      refine hin _ _ _ _ _ (Same.refl _) walk_range (fun _ _ => trivial) (fun w x H5 H6 N M hw s5 yy hN => ?_)
      obtain ⟨rfl, rfl⟩ := yy
      refine ⟨rfl, yesT ?_⟩
      walk_at "y"
      intro T nT
      refine hN _ _ (same1 nT) ?_
      have z := prs_ij hi hw
      have z2 := prs_lt z
      rw [prs_at (by have := (List.getElem?_eq_some_iff.mp z).1; rw [prs_len] at this; exact this)] at z
      have z3 := Option.some.inj z
      rw [z3]
      exact ⟨T, rfl, by rw [upd_same]; show some (HO.tup [V.int (0 + (i : Int)), V.int (0 + (w : Int))]) = _; rw [Int.zero_add, Int.zero_add]⟩
    exact kk D us H1 s1 hD lu hu
theorem ok_first_broken {P : Program} {w : World} {K : PySem.W.Frag} {mg : Str → Option Value} {base : Heap} {φ : Fds} (T : Txt K mg φ) : FnOk P w K mg base CX0 8 (He.fAd K ("first_broken", none)) φ.first_broken p_first_broken (sp_firstb K (He.ga K "Measure") (He.ga K "Ladder") (He.ga K "Grid")) := by
  obtain ⟨_, B0v, B0⟩ := b_broken_4 T
  refine T.f_first_broken.ok sc_first_broken (fun vs H Q E h => ?_) (fun cdv A outer s H vs Q E hr h => ?_)
  · obtain ⟨p, t, F, s', L1, L2', i, w', j, k, m, zs, ys, g, y, us, fs, rfl, G, ht, hi, hw, hF, hf, qy, m0, m1, lf, kk⟩ := h; rfl
  · obtain ⟨p, t, F, s', L1, L2', i, w', j, k, m, zs, ys, g, y, us, fs, rfl, G, ht, hi, hw, hF, hf, qy, m0, m1, lf, kk⟩ := h
    refine ⟨_, PSs.nox (pss_cons (ps_for PassesOwn.never rfl (pi_enumT (by rfl) T.z_enumerate (pa_cons (pv 2) pa_nil)) (pg_tup rfl (pgs_cons (pg_name (i := 4) sc_first_broken.nd rfl (Or.inl rfl)) (pgs_cons (pg_name (i := 5) sc_first_broken.nd rfl (Or.inl rfl)) pgs_nil)))
      (pss_cons (ps_set (i := 6) sc_first_broken.nd rfl (Or.inl rfl) (pe_call (ok_broken (K := K) T) (hr.mono (by decide)) rfl T.g_broken T.f_broken.kp B0 B0v pass0 (pa_cons (pv 0) (pa_cons (pv 1) (pa_cons (pv 5) (pa_cons (pv 3) pa_nil))))))
      (pss_one (ps_if (pt_cmpR op_gt (pe_callB (id := "len") (lenS (K := K)) (by rfl) T.z_len PySem.boot_len (pa_cons (pv 6) pa_nil)) pe_int (nomark _))
      (pss_one (ps_ret (pe_tup (pa_cons (pv 4) (pa_cons (pe_ix (ixt (K := K)) (pv 6) pe_int (fun _ _ => rfl)) pa_nil)))))
      pss_nil))))
      (pss_one (ps_ret pe_non))), ?_⟩
    have na_Grid_lengths := T.na_Grid_lengths
    have na_Grid_breadths := T.na_Grid_breadths
    have na_Grid_grade := T.na_Grid_grade
    have cl_Grid := T.cl_Grid
    
    obtain ⟨a, ha⟩ := ge2 (zs := zs) hi
    obtain ⟨b, hb⟩ := ge2 (zs := ys) hw
    have lu : us.length = fs.length := hf.len
    walk_at "w"
    refine (for_it (walk_enumT (K := K) (a := F) (xs := us)) (fun n σ H' => (∃ v4 v5 v6, σ = [some (.ref p), some (.ref t), some (.ref F), some (.ref s'), v4, v5, v6]) ∧ Same H H' ∧ ∀ n' < n, (fs.map (brkP zs ys g y (i, w')))[n']? = some []) ⟨⟨_, _, _, rfl⟩, Same.refl _, fun n' h => by omega⟩ (fun n σ H' _ q => q.2.1.sqt hF) ?_ ?_)
    · rintro n x σ H1 H2 hn ⟨⟨v4, v5, v6, rfl⟩, s1, hb0⟩ ⟨T, a0, b0, rfl, nT, rfl, e1, e2⟩
      cases e1
      obtain ⟨f, hfn, t1, f1, f2, rfl, hft, qf1, qf2⟩ := (hf.same s1).of e2
      have sT : Same H1 (upd H1 T (.tup [.int (n : Nat), .ref t1])) := same1 nT
      have s2 := s1.trans sT
      refine ⟨T, _, rfl, SqT.of upd_same, rfl, _, _, rfl, _, _, rfl, rfl, ?_⟩
      generalize upd H1 T (.tup [.int (n : Nat), .ref t1]) = H3 at *
      replace G := G.same s2
      walk_at "w"
      refine ⟨g, a, b, f.1, f.2, y, zs, ys, rfl, G.ag, G.a1, G.a2, s2.sqt ht, ha, hb, sT.sqt hft, qf1.same sT, qf2.same sT, qy.same s2, by have := G.l1; omega, G.j0, G.j1, G.k0, G.k1, m0, m1, fun T2 H4 s4 hT2 => ?_⟩
      rw [← brkP_at (zs := zs) (ys := ys) (p := (i, w')) (f := f) ha hb] at hT2
      have sq := SqT.of (K := K) hT2
      have eg : (fs.map (brkP zs ys g y (i, w')))[n]? = some (brkP zs ys g y (i, w') f) := by rw [List.getElem?_map, hfn]; rfl
      walk_at "w"
      refine ite2 (fun e => ?_) (fun e => ?_)
      · cases hr : brkP zs ys g y (i, w') f with
        | nil => rw [hr] at e; exact absurd (of_decide_eq_true e) (by simp)
        | cons c r =>
          rw [hr] at hT2 sq eg
          walk_at "w"
          refine ⟨atI_of (n := 0) rfl rfl, ?_⟩
          walk_at "w"
          intro T3 nT3
          refine kk _ _ ((s2.trans s4).up nT3) ?_
          show FoV _ _ (fstB 0 _)
          rw [fstB_go hb0 eg (by simp) c rfl, Nat.zero_add]
          exact ⟨T3, rfl, upd_same⟩
      · refine ⟨⟨_, _, _, rfl⟩, s2.trans s4, fun n' hn' => ?_⟩
        by_cases q : n' = n
        · subst q
          rw [eg]
          cases hr : brkP zs ys g y (i, w') f with
          | nil => rfl
          | cons c r => rw [hr] at e; exact absurd (decide_eq_true (by show (0 : Int) < ((((c :: r).map V.str).length : Nat) : Int); rw [List.length_map, List.length_cons]; omega)) e
        · exact hb0 n' (by omega)
    · rintro σ H1 ⟨⟨v4, v5, v6, rfl⟩, s1, hb0⟩
      walk_at "w"
      refine kk _ _ s1 ?_
      have : frstB zs ys g y fs (i, w') = none := by
        refine fstB_none.mpr fun r hr => ?_
        obtain ⟨n, hn⟩ := List.mem_iff_getElem?.mp hr
        have l := (List.getElem?_eq_some_iff.mp hn).1
        rw [List.length_map] at l
        rw [hb0 n (by omega)] at hn
        exact (Option.some.inj hn).symm
      rw [this]
      exact rfl
theorem ok_pair_for {P : Program} {w : World} {K : PySem.W.Frag} {mg : Str → Option Value} {base : Heap} {φ : Fds} (T : Txt K mg φ) : FnOk P w K mg base CX0 9 (He.fAd K ("pair_for", none)) φ.pair_for p_pair_for (sp_pairfor K (He.ga K "Measure") (He.ga K "Ladder") (He.ga K "Grid")) := by
  obtain ⟨_, B0v, B0⟩ := b_pairs_of_1 T
  obtain ⟨_, B1v, B1⟩ := b_first_broken_4 T
  refine T.f_pair_for.ok sc_pair_for (fun vs H Q E h => ?_) (fun cdv A outer s H vs Q E hr h => ?_)
  · obtain ⟨p, F, s', L1, L2', j, k, m, zs, ys, g, y, us, fs, rfl, G, hF, hf, qy, m0, m1, lf, kk⟩ := h; rfl
  · obtain ⟨p, F, s', L1, L2', j, k, m, zs, ys, g, y, us, fs, rfl, G, hF, hf, qy, m0, m1, lf, kk⟩ := h
    refine ⟨_, PSs.nox (pss_cons (ps_set (i := 3) sc_pair_for.nd rfl (Or.inl rfl) (pe_lst pa_nil))
      (pss_cons (ps_for PassesOwn.never rfl (pi_list (pe_call (ok_pairs_of (K := K) T) (hr.mono (by decide)) rfl T.g_pairs_of T.f_pairs_of.kp B0 B0v pass0 (pa_cons (pv 0) pa_nil))) (pg_name (i := 4) sc_pair_for.nd rfl (Or.inl rfl))
      (pss_cons (ps_set (i := 5) sc_pair_for.nd rfl (Or.inl rfl) (pe_call (ok_first_broken (K := K) T) (hr.mono (by decide)) rfl T.g_first_broken T.f_first_broken.kp B1 B1v pass0 (pa_cons (pv 0) (pa_cons (pv 4) (pa_cons (pv 1) (pa_cons (pv 2) pa_nil))))))
      (pss_cons (ps_if (pt_cmpR op_isN (pv 5) pe_non (nomark _))
      (pss_one (ps_ret (pe_tup (pa_cons pe_str (pa_cons (pv 4) pa_nil)))))
      pss_nil)
      (pss_one (ps_expr (pe_bm PySem.F.plainAttrs_list PySem.F.slot_list_append PySem.F.type_list_append mt_append (pv 3) (pa_cons (pe_op catH (pv 4) (pv 5)) pa_nil)))))))
      (pss_one (ps_ret (pe_tup (pa_cons pe_str (pa_cons (pe_callTy (T := "tuple") (tupleL (K := K)) (by rfl) T.z_tuple (by decide +kernel) (pa_cons (pv 3) pa_nil)) pa_nil))))))), ?_⟩
    have na_Grid_lengths := T.na_Grid_lengths
    have na_Grid_breadths := T.na_Grid_breadths
    have na_Grid_grade := T.na_Grid_grade
    have cl_Grid := T.cl_Grid
    
    walk_at "w"
    intro pl npl
    have s0 : Same H (upd H pl (.lst [])) := same1 npl
    have hpl : upd H pl (.lst []) pl = some (.lst []) := upd_same
    generalize upd H pl (.lst []) = H1 at *
    walk_at "w"
    refine ⟨zs, ys, g, rfl, G.same s0, fun D pus H2 s2 hD lD hpr => ?_⟩
    replace hpl := s2 _ _ hpl
    have nD : D ≠ pl := by
      intro e
      subst e
      rw [hpl] at hD
      cases hD
      have l0 := Nat.mul_pos G.l0 G.m0
      rw [← lD] at l0
      simp at l0
    replace s2 := s0.trans s2
    clear s0
    refine ⟨D, rfl, ⟨_, SqL.of hD⟩, for_list (K := K) (a := D) (xs := pus) (fun n σ H' => ∃ (v4 v5 : Option V) (ws : List V), σ = [some (.ref p), some (.ref F), some (.ref s'), some (.ref pl), v4, v5] ∧ Same H H' ∧ H' D = some (.lst pus) ∧ Nl H2 H' ∧ H' pl = some (.lst ws) ∧ ws.length = n ∧ (∀ (i : Nat) (v : V) (pr : Nat × Nat), ws[i]? = some v → (prs zs.length ys.length)[i]? = some pr → ∃ q, frstB zs ys g y fs pr = some q ∧ PpV H' v pr q) ) ?_ ?_ ?_ ?_⟩
    · exact ⟨_, _, [], rfl, s2, hD, fun _ _ z _ => z, hpl, rfl, fun i v pr h => by simp at h⟩
    · rintro n σ H' _ ⟨v4, v5, ws, rfl, a1, a2, _⟩
      exact SqL.of a2
    · rintro n x σ H3 hx ⟨v4, v5, ws, rfl, s3, hD3, n3, hp3, lw, hw⟩
      have hn : n < zs.length * ys.length := by
        have := (List.getElem?_eq_some_iff.mp hx).1
        omega
      have hpn := prs_at hn
      have hlt := prs_lt hpn
      have px := (hpr n x hx).nl n3
      generalize hpq : (n / ys.length, n % ys.length) = pr at *
      obtain ⟨T, rfl, hT⟩ := px
      walk_at "w"
      refine ⟨zs, ys, g, y, us, fs, rfl, G.same s3, SqT.of hT, hlt.1, hlt.2, s3.sqt hF, hf.same s3, qy.same s3, m0, m1, lf, fun v H4 s4 hv => ?_⟩
      have hp4 := s4 _ _ hp3
      have hD4 := s4 _ _ hD3
      have hT4 := s4 _ _ hT
      have hw4 : ∀ (i : Nat) (v : V) (pr : Nat × Nat), ws[i]? = some v → (prs zs.length ys.length)[i]? = some pr → ∃ q, frstB zs ys g y fs pr = some q ∧ PpV H4 v pr q := fun i v pr h1 h2 => by
        obtain ⟨q, e1, e2⟩ := hw i v pr h1 h2
        exact ⟨q, e1, e2.same s4⟩
      cases ef : frstB zs ys g y fs (pr.1, pr.2) with
      | none =>
        rw [ef] at hv
        have hv : v = V.non := hv
        subst hv
        walk_at "w"
        intro T5 nT5
        refine kk _ _ ((s3.trans s4).up nT5) ?_
        have eg : goodP (prs zs.length ys.length) (frstB zs ys g y fs) = some pr := by
          unfold goodP
          rw [List.find?_eq_some_iff_getElem]
          refine ⟨by rw [show frstB zs ys g y fs pr = none from ef]; rfl, n, by rw [prs_len]; exact hn, ?_, fun i hi => ?_⟩
          · exact Option.some.inj ((List.getElem?_eq_getElem (by rw [prs_len]; exact hn)).symm.trans hpn)
          · have hi2 : i < (prs zs.length ys.length).length := by rw [prs_len]; omega
            obtain ⟨q, e1, _⟩ := hw i ws[i] _ (List.getElem?_eq_getElem (by omega)) (List.getElem?_eq_getElem hi2)
            rw [e1]
            rfl
        rw [eg]
        exact ⟨T5, .ref T, rfl, upd_same, T, rfl, up1 nT5 hT4⟩
      | some q =>
        rw [ef] at hv
        obtain ⟨T6, rfl, hT6⟩ := hv
        walk_at "w"
        intro T7 H7 s7 hT7
        have hp7 := s7 _ _ hp4
        refine ⟨pl, _, _, rfl, rfl, hp7, szs (by rw [lw]; exact Nat.lt_of_lt_of_le hn (Nat.le_trans (Nat.mul_le_mul G.l1 G.m1) (by decide))), ?_⟩
        have n7 : Nl H7 (upd H7 pl (.lst (ws ++ [.ref T7]))) := Nl.put hp7
        refine ⟨_, _, ws ++ [.ref T7], rfl, ?_, ?_, ?_, upd_same, by rw [List.length_append, lw]; rfl, fun i v pr' h1 h2 => ?_⟩
        · intro c o e
          rw [upd_ne (ne_of_none e npl)]
          exact s7 _ _ (s4 _ _ (s3 _ _ e))
        · rw [upd_ne nD]
          exact s7 _ _ hD4
        · intro c o e no
          exact n7 _ _ (s7 _ _ (s4 _ _ (n3 _ _ e no))) no
        · by_cases hi : i < ws.length
          · rw [List.getElem?_append_left hi] at h1
            obtain ⟨q', e1, e2⟩ := hw4 i v pr' h1 h2
            exact ⟨q', e1, (e2.same s7).nl n7⟩
          · have l1 := (List.getElem?_eq_some_iff.mp h1).1
            rw [List.length_append, List.length_singleton] at l1
            have ei : i = ws.length := by omega
            subst ei
            rw [List.getElem?_append_right (Nat.le_refl _), Nat.sub_self] at h1
            cases h1
            rw [lw, hpn] at h2
            cases h2
            exact ⟨q, ef, T7, rfl, n7 _ _ hT7 rfl⟩
    · rintro σ H3 ⟨v4, v5, ws, rfl, s3, hD3, n3, hp3, lw, hw⟩
      have hall : ∀ pr ∈ prs zs.length ys.length, (frstB zs ys g y fs pr).isSome = true := fun pr hm => by
        obtain ⟨i, hi⟩ := List.mem_iff_getElem?.mp hm
        have li := (List.getElem?_eq_some_iff.mp hi).1
        rw [prs_len] at li
        obtain ⟨q, e1, _⟩ := hw i ws[i] pr (List.getElem?_eq_getElem (by omega)) hi
        rw [e1]
        rfl
      have eg := good_none.mpr hall
      rw [eg] at kk
      walk_at "w"
      intro T5 nT5
      have s5 : Same H3 (upd H3 T5 (.tup ws)) := same1 nT5
      have hT5 : upd H3 T5 (.tup ws) T5 = some (.tup ws) := upd_same
      generalize upd H3 T5 (.tup ws) = H5 at *
      walk_at "w"
      intro T6 nT6
      have s6 := s5.up (u := .tup [.str "none", .ref T5]) nT6
      refine kk _ _ (s3.trans s6) ⟨T6, T5, ws, rfl, upd_same, up1 nT6 hT5, by rw [prs_len, lw, lD], fun i v pr h1 h2 => ?_⟩
      obtain ⟨q, e1, e2⟩ := hw i v pr h1 h2
      exact ⟨q, e1, e2.same s6⟩
theorem ok_is_tuple_of {P : Program} {w : World} {K : PySem.W.Frag} {mg : Str → Option Value} {base : Heap} {φ : Fds} (T : Txt K mg φ) : FnOk P w K mg base CX0 1 (He.fAd K ("is_tuple_of", none)) φ.is_tuple_of p_is_tuple_of (sp_istup K) := by
  refine T.f_is_tuple_of.ok sc_is_tuple_of (fun vs H Q E h => ?_) (fun cdv A outer s H vs Q E hr h => ?_)
  · obtain ⟨a, xs, n, rfl, hT, kk⟩ := h; rfl
  · obtain ⟨a, xs, n, rfl, hT, kk⟩ := h
    refine ⟨_, PSs.nox (pss_one (ps_ret (pe_and (pe_callB (id := "isinstance") (isi (K := K)) (by rfl) T.z_isinstance (by decide +kernel) (pa_cons (pv 0) (pa_cons (pe_bltn (v := .ty "tuple") rfl T.z_tuple (by decide +kernel) rfl) pa_nil))) (pe_one (pe_cmpR op_eq (pe_callB (id := "len") (lenS (K := K)) (by rfl) T.z_len PySem.boot_len (pa_cons (pv 0) pa_nil)) (pv 1) (nomark _)))))), ?_⟩
    walk_at "w"
    refine ⟨_, _, _, rfl, .ty _, tyTup hT, kit_ty (r := true) (by decide +kernel), ?_⟩
    walk_at "w"
    have e : decide (V.int ((xs.length : Nat) : Int) = V.int n) = decide ((xs.length : Int) = n) := decide_eq_decide.mpr ⟨fun h => V.int.inj h, fun h => by rw [h]⟩
    rw [e]
    exact kk
theorem ok_is_number {P : Program} {w : World} {K : PySem.W.Frag} {mg : Str → Option Value} {base : Heap} {φ : Fds} (T : Txt K mg φ) : FnOk P w K mg base CX0 2 (He.fAd K ("is_number", none)) φ.is_number p_is_number sp_isnum := by
  obtain ⟨_, B0v, B0⟩ := b_is_whole_1 T
  refine T.f_is_number.ok sc_is_number (fun vs H Q E h => ?_) (fun cdv A outer s H vs Q E hr h => ?_)
  · obtain ⟨a, b, rfl, kk⟩ := h; rfl
  · obtain ⟨a, b, rfl, kk⟩ := h
    refine ⟨_, PSs.nox (pss_one (ps_ret (pe_and (pe_call (ok_is_whole (K := K) T) (hr.mono (by decide)) rfl T.g_is_whole T.f_is_whole.kp B0 B0v pass0 (pa_cons (pv 0) pa_nil)) (pe_one (pe_cmpR op_eq (pv 0) (pv 1) (nomark _)))))), ?_⟩
    walk_at "w"
    have e : decide (V.int a = V.int b) = decide (a = b) := decide_eq_decide.mpr ⟨fun h => V.int.inj h, fun h => by rw [h]⟩
    rw [e]
    exact kk
theorem ok_is_word {P : Program} {w : World} {K : PySem.W.Frag} {mg : Str → Option Value} {base : Heap} {φ : Fds} (T : Txt K mg φ) : FnOk P w K mg base CX0 1 (He.fAd K ("is_word", none)) φ.is_word p_is_word sp_isword := by
  refine T.f_is_word.ok sc_is_word (fun vs H Q E h => ?_) (fun cdv A outer s H vs Q E hr h => ?_)
  · obtain ⟨a, b, rfl, kk⟩ := h; rfl
  · obtain ⟨a, b, rfl, kk⟩ := h
    refine ⟨_, PSs.nox (pss_one (ps_ret (pe_and (pe_callB (id := "isinstance") (isi (K := K)) (by rfl) T.z_isinstance (by decide +kernel) (pa_cons (pv 0) (pa_cons (pe_bltn (v := .ty "str") rfl T.z_str (by decide +kernel) rfl) pa_nil))) (pe_one (pe_cmpR op_eq (pv 0) (pv 1) (nomark _)))))), ?_⟩
    walk_at "w"
    refine ⟨_, _, _, rfl, .ty _, .base (.str _), kit_ty (r := true) (by decide +kernel), ?_⟩
    walk_at "w"
    have e : decide (V.str a = V.str b) = decide (a = b) := decide_eq_decide.mpr ⟨fun h => V.str.inj h, fun h => by rw [h]⟩
    rw [e]
    exact kk
theorem ok_are_wholes {P : Program} {w : World} {K : PySem.W.Frag} {mg : Str → Option Value} {base : Heap} {φ : Fds} (T : Txt K mg φ) : FnOk P w K mg base CX0 2 (He.fAd K ("are_wholes", none)) φ.are_wholes p_are_wholes (sp_arew K) := by
  obtain ⟨_, B0v, B0⟩ := b_is_whole_1 T
  refine T.f_are_wholes.ok sc_are_wholes (fun vs H Q E h => ?_) (fun cdv A outer s H vs Q E hr h => ?_)
  · obtain ⟨a, ns, rfl, hT, hn, kk⟩ := h; rfl
  · obtain ⟨a, ns, rfl, hT, hn, kk⟩ := h
    refine ⟨_, PSs.nox (pss_one (ps_ret (pe_and (pe_callB (id := "isinstance") (isi (K := K)) (by rfl) T.z_isinstance (by decide +kernel) (pa_cons (pv 0) (pa_cons (pe_bltn (v := .ty "tuple") rfl T.z_tuple (by decide +kernel) rfl) pa_nil))) (pe_one (pe_callB (id := "all") (allK (K := K)) (by rfl) T.z_all (by decide +kernel) (pa_cons (pe_lc (own := [("part", 1)]) (g := gName 1) rfl sc_are_wholes.nd (pi_tup (pv 0)) (blkOk_by (own := [("part", 1)]) (N := N_are_wholes) (sc := (defScope s_are_wholes)) (by decide +kernel)) (fun _ _ _ _ _ => (pg_name (i := 1) sc_are_wholes.nd rfl (Or.inl rfl))) (fun _ _ _ _ _ => pts_nil) (fun _ _ _ _ _ => (pe_call (ok_is_whole (K := K) T) (hr.mono (by decide)) rfl T.g_is_whole T.f_is_whole.kp B0 B0v pass0 (pa_cons (pv 1) pa_nil)))) pa_nil)))))), ?_⟩
    walk_at "w"
    refine ⟨_, _, _, rfl, .ty _, tyTup hT, kit_ty (r := true) (by decide +kernel), ?_⟩
    walk_at "w"
    refine ⟨⟨_, hT⟩, fun D nD => ?_⟩
    refine lcz (n := (ns.map V.int).length) walk_tup (fun _ _ g s => s.sqt g) (List.replicate (ns.map V.int).length (some (V.bl true))) List.length_replicate (szs (by rw [List.length_map]; omega)) hT nD (fun i x H1 H2 o N M hi ho s1 yy hN hM => ?_) (fun H1 s1 hD => ?_)
    · obtain ⟨rfl, hx⟩ := yy
      obtain ⟨z, _, rfl⟩ := List.mem_map.mp (List.mem_of_getElem? hx)
      rw [List.getElem?_replicate, if_pos hi] at ho
      cases ho
      refine ⟨rfl, yesT ?_⟩
      walk_at "w"
      exact hN _ _ rfl (Same.refl _)
    rw [filT] at hD
    refine ⟨D, _, rfl, SqL.of hD, ?_⟩
    rw [allT]
    exact kk _ s1
theorem ok_is_paper {P : Program} {w : World} {K : PySem.W.Frag} {mg : Str → Option Value} {base : Heap} {φ : Fds} (T : Txt K mg φ) : FnOk P w K mg base CX0 8 (He.fAd K ("is_paper", none)) φ.is_paper p_is_paper (sp_paperT K (He.ga K "Measure") (He.ga K "Ladder") (He.ga K "Grid")) := by
  obtain ⟨_, B0v, B0⟩ := b_is_tuple_of_2 T
  obtain ⟨_, B1v, B1⟩ := b_is_number_2 T
  obtain ⟨_, B2v, B2⟩ := b_is_whole_1 T
  obtain ⟨_, B3v, B3⟩ := b_broken_4 T
  refine T.f_is_paper.ok sc_is_paper (fun vs H Q E h => ?_) (fun cdv A outer s H vs Q E hr h => ?_)
  · obtain ⟨p, F, s', t, L1, L2', v, i, w', j, k, m, zs, ys, g, y, us, fs, q, f, rfl, G, ht, hi, hw, hF, hf, qy, m0, m1, lf, pq, hq, hm, kk⟩ := h; rfl
  · obtain ⟨p, F, s', t, L1, L2', v, i, w', j, k, m, zs, ys, g, y, us, fs, q, f, rfl, G, ht, hi, hw, hF, hf, qy, m0, m1, lf, pq, hq, hm, kk⟩ := h
    refine ⟨_, PSs.nox (pss_cons (ps_if (pt_not (pt_val (pe_call (ok_is_tuple_of (K := K) T) (hr.mono (by decide)) rfl T.g_is_tuple_of T.f_is_tuple_of.kp B0 B0v pass0 (pa_cons (pv 4) (pa_cons pe_int pa_nil)))))
      (pss_one (ps_ret pe_bl))
      pss_nil)
      (pss_cons (ps_asg (pv 4) (pg_tup rfl (pgs_cons (pg_name (i := 5) sc_is_paper.nd rfl (Or.inl rfl)) (pgs_cons (pg_name (i := 6) sc_is_paper.nd rfl (Or.inl rfl)) (pgs_cons (pg_name (i := 7) sc_is_paper.nd rfl (Or.inl rfl)) (pgs_cons (pg_name (i := 8) sc_is_paper.nd rfl (Or.inl rfl)) pgs_nil))))))
      (pss_cons (ps_if (PW.pt (pw_or (pt_not (pt_val (pe_call (ok_is_number (K := K) T) (hr.mono (by decide)) rfl T.g_is_number T.f_is_number.kp B1 B1v pass0 (pa_cons (pv 5) (pa_cons (pe_ix (ixt (K := K)) (pv 3) pe_int (fun _ _ => rfl)) pa_nil))))) (pw_or1 (pt_not (pt_val (pe_call (ok_is_number (K := K) T) (hr.mono (by decide)) rfl T.g_is_number T.f_is_number.kp B1 B1v pass0 (pa_cons (pv 6) (pa_cons (pe_ix (ixt (K := K)) (pv 3) pe_int (fun _ _ => rfl)) pa_nil))))))))
      (pss_one (ps_ret pe_bl))
      pss_nil)
      (pss_cons (ps_if (PW.pt (pw_or (pt_not (pt_val (pe_call (ok_is_whole (K := K) T) (hr.mono (by decide)) rfl T.g_is_whole T.f_is_whole.kp B2 B2v pass0 (pa_cons (pv 7) pa_nil)))) (pw_or1 (pt_not (pt_chain op_le op_lt pe_int (pv 7) (pe_callB (id := "len") (lenS (K := K)) (by rfl) T.z_len PySem.boot_len (pa_cons (pv 1) pa_nil)))))))
      (pss_one (ps_ret pe_bl))
      pss_nil)
      (pss_one (ps_ret (pe_and (pe_callB (id := "isinstance") (isi (K := K)) (by rfl) T.z_isinstance (by decide +kernel) (pa_cons (pv 8) (pa_cons (pe_bltn (v := .ty "str") rfl T.z_str (by decide +kernel) rfl) pa_nil))) (pe_one (pe_cmpR (inK (K := K)) (pv 8) (pe_call (ok_broken (K := K) T) (hr.mono (by decide)) rfl T.g_broken T.f_broken.kp B3 B3v pass0 (pa_cons (pv 0) (pa_cons (pv 3) (pa_cons (pe_ix (ixt (K := K)) (pv 1) (pv 7) (fun _ _ => rfl)) (pa_cons (pv 2) pa_nil))))) (by rfl)))))))))), ?_⟩
    have na_Grid_lengths := T.na_Grid_lengths
    have na_Grid_breadths := T.na_Grid_breadths
    have na_Grid_grade := T.na_Grid_grade
    have cl_Grid := T.cl_Grid
    
    obtain ⟨a, ha⟩ := ge2 (zs := zs) hi
    obtain ⟨b, hb⟩ := ge2 (zs := ys) hw
    obtain ⟨u, hu, tf, f1, f2, rfl, hft, qf1, qf2⟩ := hf.at hq
    obtain ⟨T, rfl, hT⟩ := pq
    have hT2 := SqT.of (K := K) hT
    have hqn : q.1 < fs.length := (List.getElem?_eq_some_iff.mp hq).1
    have lu : us.length = fs.length := hf.len
    walk_at "w"
    refine ⟨_, _, _, rfl, .ty _, .base (.str _), kit_ty (r := true) (by decide +kernel), ?_⟩
    walk_at "w"
    refine ⟨g, a, b, f.1, f.2, y, zs, ys, rfl, G.ag, G.a1, G.a2, ht, ha, hb, hft, qf1, qf2, qy, by have := G.l1; omega, G.j0, G.j1, G.k0, G.k1, m0, m1, fun T2 H4 s4 hT2 => ?_⟩
    rw [← brkP_at (zs := zs) (ys := ys) (p := (i, w')) (f := f) ha hb] at hT2
    refine ⟨T2, _, rfl, .inr (SqT.of hT2), rfl, flat_strs _, ?_⟩
    simp only [Bool.false_eq_true, if_false]
    rw [inV_str, decide_eq_true hm]
    exact kk _ s4
theorem ok_are_papers {P : Program} {w : World} {K : PySem.W.Frag} {mg : Str → Option Value} {base : Heap} {φ : Fds} (T : Txt K mg φ) : FnOk P w K mg base CX0 9 (He.fAd K ("are_papers", none)) φ.are_papers p_are_papers (sp_papersT K (He.ga K "Measure") (He.ga K "Ladder") (He.ga K "Grid")) := by
  obtain ⟨_, B0v, B0⟩ := b_pairs_of_1 T
  obtain ⟨_, B1v, B1⟩ := b_is_tuple_of_2 T
  obtain ⟨_, B2v, B2⟩ := b_is_paper_5 T
  refine T.f_are_papers.ok sc_are_papers (fun vs H Q E h => ?_) (fun cdv A outer s H vs Q E hr h => ?_)
  · obtain ⟨p, F, s', t, L1, L2', j, k, m, zs, ys, g, y, us, ws, fs, rfl, G, hF, hf, qy, m0, m1, lf, ht, hw, kk⟩ := h; rfl
  · obtain ⟨p, F, s', t, L1, L2', j, k, m, zs, ys, g, y, us, ws, fs, rfl, G, hF, hf, qy, m0, m1, lf, ht, hw, kk⟩ := h
    refine ⟨_, PSs.nox (pss_cons (ps_set (i := 4) sc_are_papers.nd rfl (Or.inl rfl) (pe_call (ok_pairs_of (K := K) T) (hr.mono (by decide)) rfl T.g_pairs_of T.f_pairs_of.kp B0 B0v pass0 (pa_cons (pv 0) pa_nil)))
      (pss_cons (ps_if (pt_not (pt_val (pe_call (ok_is_tuple_of (K := K) T) (hr.mono (by decide)) rfl T.g_is_tuple_of T.f_is_tuple_of.kp B1 B1v pass0 (pa_cons (pv 3) (pa_cons (pe_callB (id := "len") (lenS (K := K)) (by rfl) T.z_len PySem.boot_len (pa_cons (pv 4) pa_nil)) pa_nil)))))
      (pss_one (ps_ret pe_bl))
      pss_nil)
      (pss_one (ps_ret (pe_callB (id := "all") (allK (K := K)) (by rfl) T.z_all (by decide +kernel) (pa_cons (pe_lc (own := [("pair", 5), ("paper", 6)]) (g := gTup K 2 (gCons (gName 5) (gCons (gName 6) (gNil)))) rfl sc_are_papers.nd (pi_zipMK (K := K) (by rfl) T.z_zip (pa_cons (pv 4) (pa_cons (pv 3) pa_nil))) (blkOk_by (own := [("pair", 5), ("paper", 6)]) (N := N_are_papers) (sc := (defScope s_are_papers)) (by decide +kernel)) (fun _ _ _ _ _ => (pg_tup rfl (pgs_cons (pg_name (i := 5) sc_are_papers.nd rfl (Or.inl rfl)) (pgs_cons (pg_name (i := 6) sc_are_papers.nd rfl (Or.inl rfl)) pgs_nil)))) (fun _ _ _ _ _ => pts_nil) (fun _ _ _ _ _ => (pe_call (ok_is_paper (K := K) T) (hr.mono (by decide)) rfl T.g_is_paper T.f_is_paper.kp B2 B2v pass0 (pa_cons (pv 0) (pa_cons (pv 1) (pa_cons (pv 2) (pa_cons (pv 5) (pa_cons (pv 6) pa_nil)))))))) pa_nil)))))), ?_⟩
    have na_Grid_lengths := T.na_Grid_lengths
    have na_Grid_breadths := T.na_Grid_breadths
    have na_Grid_grade := T.na_Grid_grade
    have cl_Grid := T.cl_Grid
    
    walk_at "w"
    refine ⟨zs, ys, g, rfl, G, fun D pus H2 s2 hD lD hpr => ?_⟩
    have lw : ws.length = zs.length * ys.length := by rw [hw.len, prs_len]
    have ht2 := s2.sqt ht
    have hsz : pus.length < 1000 := by
      rw [lD]
      exact Nat.lt_of_le_of_lt (Nat.mul_le_mul G.l1 G.m1) (by decide)
    have elen : decide ((ws.length : Int) = (pus.length : Int)) = true := decide_eq_true (by rw [lD, lw])
    have hw2 := hw.same s2
    walk_at "w"
    intro E nE
    refine lcz (n := pus.length) (walk_zipM (by omega)) (fun _ _ q s => ⟨s.seq q.1, s.sqt q.2⟩) (List.replicate pus.length (some (V.bl true))) List.length_replicate (szs hsz) ⟨SqL.of hD, ht2⟩ nE (fun i x H3 H4 o N M hi ho s3 yy hN hM => ?_) (fun H3 s3 hE => ?_)
    · obtain ⟨T, a0, b0, rfl, nT, rfl, e1, e2⟩ := yy
      have hn : i < zs.length * ys.length := by omega
      have hpn := prs_at hn
      have hlt := prs_lt hpn
      have px := hpr i a0 e1
      obtain ⟨q, hfq, pp⟩ := hw2.all i b0 _ e2 hpn
      obtain ⟨f, hf1, hf2⟩ := fst_mem hfq
      generalize hpq : (i / ys.length, i % ys.length) = pr at *
      rw [List.getElem?_replicate, if_pos hi] at ho
      cases ho
      have s4 : Same H3 (upd H3 T (.tup [a0, b0])) := same1 nT
      have s5 := s3.trans s4
      have s6 := s2.trans s5
      replace px := px.same s5
      replace pp := pp.same s5
      refine ⟨T, _, rfl, SqT.of upd_same, rfl, _, _, rfl, _, _, rfl, rfl, rfl, yesT ?_⟩
      generalize upd H3 T (.tup [a0, b0]) = H7 at *
      obtain ⟨T5, rfl, hT5⟩ := px
      walk_at "w"
      exact ⟨zs, ys, g, y, us, fs, q, f, rfl, G.same s6, SqT.of hT5, hlt.1, hlt.2, s6.sqt hF, hf.same s6, qy.same s6, m0, m1, lf, pp, hf1, hf2, fun H8 s8 => hN _ _ rfl (s4.trans s8)⟩
    rw [filT] at hE
    refine ⟨E, _, rfl, SqL.of hE, ?_⟩
    rw [allT]
    exact kk _ (s2.trans s3)
theorem ok_shows_pair {P : Program} {w : World} {K : PySem.W.Frag} {mg : Str → Option Value} {base : Heap} {φ : Fds} (T : Txt K mg φ) : FnOk P w K mg base CX0 10 (He.fAd K ("shows_pair", none)) φ.shows_pair p_shows_pair (sp_shows K (He.ga K "Measure") (He.ga K "Ladder") (He.ga K "Grid")) := by
  obtain ⟨_, B0v, B0⟩ := b_pair_for_3 T
  obtain ⟨_, B1v, B1⟩ := b_is_word_2 T
  obtain ⟨_, B2v, B2⟩ := b_is_tuple_of_2 T
  obtain ⟨_, B3v, B3⟩ := b_are_wholes_1 T
  obtain ⟨_, B4v, B4⟩ := b_are_papers_4 T
  refine T.f_shows_pair.ok sc_shows_pair (fun vs H Q E h => ?_) (fun cdv A outer s H vs Q E hr h => ?_)
  · obtain ⟨p, F, s', L1, L2', v, j, k, m, zs, ys, g, y, us, fs, b, rfl, G, hF, hf, qy, m0, m1, lf, hv, kk⟩ := h; rfl
  · obtain ⟨p, F, s', L1, L2', v, j, k, m, zs, ys, g, y, us, fs, b, rfl, G, hF, hf, qy, m0, m1, lf, hv, kk⟩ := h
    refine ⟨_, PSs.nox (pss_cons (ps_asg (pe_call (ok_pair_for (K := K) T) (hr.mono (by decide)) rfl T.g_pair_for T.f_pair_for.kp B0 B0v pass0 (pa_cons (pv 0) (pa_cons (pv 1) (pa_cons (pv 2) pa_nil)))) (pg_tup rfl (pgs_cons (pg_name (i := 4) sc_shows_pair.nd rfl (Or.inl rfl)) (pgs_cons (pg_name (i := 5) sc_shows_pair.nd rfl (Or.inl rfl)) pgs_nil))))
      (pss_cons (ps_if (PW.pt (pw_or (pt_not (pt_val (pe_call (ok_is_tuple_of (K := K) T) (hr.mono (by decide)) rfl T.g_is_tuple_of T.f_is_tuple_of.kp B2 B2v pass0 (pa_cons (pv 3) (pa_cons pe_int pa_nil))))) (pw_or1 (pt_not (pt_val (pe_call (ok_is_word (K := K) T) (hr.mono (by decide)) rfl T.g_is_word T.f_is_word.kp B1 B1v pass0 (pa_cons (pe_ix (ixt (K := K)) (pv 3) pe_int (fun _ _ => rfl)) (pa_cons (pv 4) pa_nil))))))))
      (pss_one (ps_ret pe_bl))
      pss_nil)
      (pss_cons (ps_if (pt_cmpR op_eq (pv 4) pe_str (nomark _))
      (pss_one (ps_ret (pe_and (pe_call (ok_are_wholes (K := K) T) (hr.mono (by decide)) rfl T.g_are_wholes T.f_are_wholes.kp B3 B3v pass0 (pa_cons (pe_ix (ixt (K := K)) (pv 3) pe_int (fun _ _ => rfl)) pa_nil)) (pe_one (pe_cmpR (eqDK (K := K) hr.units) (pe_ix (ixt (K := K)) (pv 3) pe_int (fun _ _ => rfl)) (pv 5) (nomark _))))))
      pss_nil)
      (pss_one (ps_ret (pe_call (ok_are_papers (K := K) T) (hr.mono (by decide)) rfl T.g_are_papers T.f_are_papers.kp B4 B4v pass0 (pa_cons (pv 0) (pa_cons (pv 1) (pa_cons (pv 2) (pa_cons (pe_ix (ixt (K := K)) (pv 3) pe_int (fun _ _ => rfl)) pa_nil)))))))))), ?_⟩
    have na_Grid_lengths := T.na_Grid_lengths
    have na_Grid_breadths := T.na_Grid_breadths
    have na_Grid_grade := T.na_Grid_grade
    have cl_Grid := T.cl_Grid
    
    walk_at "w"
    refine ⟨zs, ys, g, y, us, fs, rfl, G, hF, hf, qy, m0, m1, lf, fun v2 H2 s2 hv2 => ?_⟩
    replace hv := hv.same s2
    generalize hps : prs zs.length ys.length = ps at *
    generalize hFF : frstB zs ys g y fs = FF at *
    cases hg : goodP ps FF with
    | some pr =>
      rw [hg] at hv2
      obtain ⟨T2, w2, rfl, hT2, T3, rfl, hT3⟩ := hv2
      have key : ∃ T w pr', v = .ref T ∧ H2 T = some (.tup [.str "pair", w]) ∧ PrV H2 w pr' ∧ b = decide (pr = pr') := by
        rcases hv with ⟨h, e⟩ | ⟨T, w, pr', e1, e2, e3, e4⟩
        · rw [hg] at h
          obtain ⟨T, w, h1, h2, h3⟩ := h
          exact ⟨T, w, pr, h1, h2, h3, by rw [e]; exact (decide_eq_true rfl).symm⟩
        · rw [hg] at e4
          exact ⟨T, w, pr', e1, e2, e3, by rw [e4]; exact decide_eq_decide.mpr ⟨fun h => Option.some.inj h, fun h => by rw [h]⟩⟩
      obtain ⟨T, w, pr', rfl, hT, ⟨T4, rfl, hT4⟩, eb⟩ := key
      have sT := SqT.of (K := K) hT
      have sT4 := SqT.of (K := K) hT4
      refine ⟨T2, _, rfl, SqT.of hT2, rfl, _, _, rfl, _, _, rfl, rfl, ?_⟩
      walk_at "w"
      refine ⟨[(pr'.1 : Int), (pr'.2 : Int)], rfl, sT4, (by show 2 ≤ 900; decide), fun H3 s3 => ?_⟩
      have sT3 := SqT.of (K := K) (s3 _ _ hT)
      walk_at "w"
      refine ⟨prD pr', prD pr, PrV.dp ⟨T4, rfl, s3 _ _ hT4⟩, PrV.dp ⟨T3, rfl, s3 _ _ hT3⟩, shInts _, shInts _, ?_⟩
      rw [prD_eq]
      have e : decide (pr' = pr) = b := by rw [eb]; exact decide_eq_decide.mpr eq_comm
      rw [e]
      exact kk _ (s2.trans s3)
    | none =>
      rw [hg] at hv2
      obtain ⟨T2, w2, us2, rfl, hT2, hw2, hpp⟩ := hv2
      refine ⟨T2, _, rfl, SqT.of hT2, rfl, _, _, rfl, _, _, rfl, rfl, ?_⟩
      rcases hv with ⟨h, rfl⟩ | ⟨T, w, pr', rfl, hT, hpr, e4⟩
      · rw [hg] at h
        obtain ⟨T, w, us3, rfl, hT, hw3, hp3⟩ := h
        have sT := SqT.of (K := K) hT
        walk_at "w"
        refine ⟨zs, ys, g, y, us, us3, fs, rfl, G.same s2, s2.sqt hF, hf.same s2, qy.same s2, m0, m1, lf, SqT.of hw3, by rw [hps, hFF]; exact hp3, fun H3 s3 => kk _ (s2.trans s3)⟩
      · rw [hg] at e4
        have e5 : b = false := by rw [e4]; exact decide_eq_false (fun z => nomatch z)
        subst e5
        have sT := SqT.of (K := K) hT
        walk_at "w"
        exact kk _ s2
theorem ok_l_feet_of {P : Program} {w : World} {K : PySem.W.Frag} {mg : Str → Option Value} {base : Heap} {φ : Fds} (T : Txt K mg φ) : FnOk P w K mg base CX0 5 (He.fAd K ("_law_feet_of", none)) φ.l_feet_of p_l_feet_of (sp_feetof K 6) := by
  obtain ⟨_, B0v, B0⟩ := b_l_take_2 T
  obtain ⟨_, B1v, B1⟩ := b_l_foot_of_4 T
  refine T.f_l_feet_of.ok sc_l_feet_of (fun vs H Q E h => ?_) (fun cdv A outer s H vs Q E hr h => ?_)
  · obtain ⟨h, p, s', n, k, zs, ys, g, y, rfl, hh, hn, SD, ⟨qy, rfl, hqy, py, y1, y2⟩, k0, k1, kk⟩ := h; rfl
  · obtain ⟨h, p, s', n, k, zs, ys, g, y, rfl, hh, hn, SD, ⟨qy, rfl, hqy, py, y1, y2⟩, k0, k1, kk⟩ := h
    refine ⟨_, PSs.nox (pss_cons (ps_par (i := 3) (j := 4) rfl sc_l_feet_of.nd rfl rfl (by decide) rfl rfl (pa_cons (pe_tup (pa_cons (pe_call (ok_l_take (K := K) T) (hr.mono (by decide)) rfl T.g_l_take T.f_l_take.kp B0 B0v pass0 (pa_cons (pv 0) (pa_cons (pe_callB (id := "len") (lenS (K := K)) (by rfl) T.z_len PySem.boot_len (pa_cons (pe_ix (ixl (K := K)) (pv 1) pe_int (fun _ _ => rfl)) pa_nil)) pa_nil))) (pa_cons (pe_call (ok_l_take (K := K) T) (hr.mono (by decide)) rfl T.g_l_take T.f_l_take.kp B0 B0v pass0 (pa_cons (pv 0) (pa_cons (pe_callB (id := "len") (lenS (K := K)) (by rfl) T.z_len PySem.boot_len (pa_cons (pe_ix (ixl (K := K)) (pv 1) pe_int (fun _ _ => rfl)) pa_nil)) pa_nil))) pa_nil))) (pa_cons (pe_lst pa_nil) pa_nil)) (by rfl))
      (pss_cons (ps_for PassesOwn.never rfl (pi_range1 rfl T.z_range (pa_cons (pe_op op_add pe_int (pe_call (ok_l_take (K := K) T) (hr.mono (by decide)) rfl T.g_l_take T.f_l_take.kp B0 B0v pass0 (pa_cons (pv 0) (pa_cons pe_int pa_nil)))) pa_nil)) (pg_name (i := 5) sc_l_feet_of.nd rfl (Or.inl rfl))
      (pss_cons (ps_set (i := 6) sc_l_feet_of.nd rfl (Or.inl rfl) (pe_tup (pa_cons (pe_call (ok_l_take (K := K) T) (hr.mono (by decide)) rfl T.g_l_take T.f_l_take.kp B0 B0v pass0 (pa_cons (pv 0) (pa_cons (pe_callB (id := "len") (lenS (K := K)) (by rfl) T.z_len PySem.boot_len (pa_cons (pe_ix (ixl (K := K)) (pv 1) pe_int (fun _ _ => rfl)) pa_nil)) pa_nil))) (pa_cons (pe_call (ok_l_take (K := K) T) (hr.mono (by decide)) rfl T.g_l_take T.f_l_take.kp B0 B0v pass0 (pa_cons (pv 0) (pa_cons (pe_callB (id := "len") (lenS (K := K)) (by rfl) T.z_len PySem.boot_len (pa_cons (pe_ix (ixl (K := K)) (pv 1) pe_int (fun _ _ => rfl)) pa_nil)) pa_nil))) pa_nil))))
      (pss_one (ps_expr (pe_bm PySem.F.plainAttrs_list PySem.F.slot_list_append PySem.F.type_list_append mt_append (pv 4) (pa_cons (pe_call (ok_l_foot_of (K := K) T) (hr.mono (by decide)) rfl T.g_l_foot_of T.f_l_foot_of.kp B1 B1v pass0 (pa_cons (pv 0) (pa_cons (pv 1) (pa_cons (pe_ix (ixl (K := K)) (pe_lst (pa_cons (pv 3) (pa_cons (pv 6) pa_nil))) (pe_callTy (T := "int") call_int1 (by rfl) T.z_int (by decide +kernel) (pa_cons (pe_cmpR op_eq (pe_call (ok_l_take (K := K) T) (hr.mono (by decide)) rfl T.g_l_take T.f_l_take.kp B0 B0v pass0 (pa_cons (pv 0) (pa_cons pe_int pa_nil))) pe_int (nomark _)) pa_nil)) (fun _ _ => rfl)) (pa_cons (pv 2) pa_nil))))) pa_nil))))))
      (pss_one (ps_ret (pv 4))))), ?_⟩
    have ty : TQ H (.ref qy) 20 y := ⟨qy, rfl, hqy, py, y1, y2⟩
    obtain ⟨l1, l2, v, us, ws, hp, hl1, hl2, tq1, tq2, tg, n0, n1, n2⟩ := SD.ob
    have lu := tq1.len
    have lw := tq2.len
    have b1 := SD.l0
    have b2 := SD.m0
    have c1 := SD.l1
    have c2 := SD.m1
    walk_at "w"
    intro d H1 d0 d1 hh1 k1'
    obtain ⟨d, rfl⟩ := Int.eq_ofNat_of_zero_le d0
    have hp1 := k1' _ _ hp n0
    have hl21 := k1' _ _ hl2 n2
    walk_at "w"
    intro e H2 e0 e1 hh2 k2
    obtain ⟨e, rfl⟩ := Int.eq_ofNat_of_zero_le e0
    have kA := k1'.trans k2
    clear hp1 hl21
    walk_at "w"
    intro T nT
    have sT : Same H2 (upd H2 T (.tup [.int (d : Int), .int (e : Int)])) := same1 nT
    have hT : upd H2 T (.tup [.int (d : Int), .int (e : Int)]) T = some (.tup [.int (d : Int), .int (e : Int)]) := upd_same
    have hh3 := hh2.same sT
    have kB := kA.trans (Kp.same sT)
    generalize upd H2 T (.tup [.int (d : Int), .int (e : Int)]) = H3 at *
    clear hh1 hh2 k1' k2 kA sT
    walk_at "w"
    intro lf nlf
    have sL : Same H3 (upd H3 lf (.lst [])) := same1 nlf
    have hlf : upd H3 lf (.lst []) lf = some (.lst []) := upd_same
    have nlh := hh3.ne nlf
    have hh4 := hh3.same sL
    have k34 : Kp h H3 (upd H3 lf (.lst [])) := Kp.same sL
    have nlT : T ≠ lf := ne_of_none hT nlf
    have fresh : H lf = none := kB.fresh nlf nlh
    generalize upd H3 lf (.lst []) = H4 at *
    walk_at "w"
    intro c H5 c0 c1' hh5 k5
    obtain ⟨c, rfl⟩ := Int.eq_ofNat_of_zero_le c0
    have k35 := k34.trans k5
    have hlf5 := k5 _ _ hlf nlh
    clear hh4 k34 k5 hlf
    walk_at "w"
    refine for_range (fun i σ H' => ∃ (vs' : List V) (fs : List (Q2 × Q2)) (v5 v6 : Option V), σ = [some (.ref h), some (.ref p), some (.ref qy), some (.ref T), some (.ref lf), v5, v6] ∧ H' lf = some (.lst vs') ∧ FtsT H' (k + 80) vs' fs ∧ fs.length = i ∧ HandAt H' h (n + 3 + 8 * i) ∧ Kp h H3 H') ?_ ?_ ?_
    · exact ⟨[], [], _, _, rfl, hlf5, ⟨rfl, fun i v f h1 => by simp at h1⟩, rfl, hh5.mono (by omega), k35⟩
    · rintro i σ H6 hi ⟨vs', fs, v5, v6, rfl, hl6, hf6, lf6, hh6, k36⟩
      have hi5 : i < 6 := by omega
      have lv : vs'.length = fs.length := hf6.len
      obtain ⟨l1', l2', v', us', ws', hp', hl1', hl2', tq1', tq2', tg', _⟩ := ((SD.kp hh kB).kp hh3 k36).ob
      have lu' := tq1'.len
      have lw' := tq2'.len
      have SD6 := (SD.kp hh kB).kp hh3 k36
      have hT6 := k36.get hh3 hT rfl
      have ty6 := (ty.kp hh kB).kp hh3 k36
      walk_at "w"
      intro d' H7 d0' d1' hh7 k7
      obtain ⟨d', rfl⟩ := Int.eq_ofNat_of_zero_le d0'
      obtain ⟨l1b, l2b, vb, usb, wsb, hpb, hl1b, hl2b, tq1b, tq2b, tgb, _⟩ := (SD6.kp hh6 k7).ob
      have lub := tq1b.len
      have lwb := tq2b.len
      walk_at "w"
      intro e' H8 e0' e1' hh8 k8
      obtain ⟨e', rfl⟩ := Int.eq_ofNat_of_zero_le e0'
      have k68 := k7.trans k8
      walk_at "w"
      intro T' nT'
      have sT' : Same H8 (upd H8 T' (.tup [.int (d' : Int), .int (e' : Int)])) := same1 nT'
      have hT' : upd H8 T' (.tup [.int (d' : Int), .int (e' : Int)]) T' = some (.tup [.int (d' : Int), .int (e' : Int)]) := upd_same
      generalize upd H8 T' (.tup [.int (d' : Int), .int (e' : Int)]) = H9 at *
      have hh9 := hh8.same sT'
      have k69 := k68.trans (Kp.same sT')
      replace SD6 := SD6.kp hh6 k69
      replace hT6 := k69.get hh6 hT6 rfl
      replace ty6 := ty6.kp hh6 k69
      replace hl6 := k69 _ _ hl6 nlh
      replace hf6 := hf6.kp hh6 k69
      replace k36 := k36.trans k69
      clear k7 k8 k68 k69 hh6 hh7 hh8 sT' hp' hl1' hl2' tq1' tq2' tg' hpb hl1b hl2b tq1b tq2b tgb
      walk_at "w"
      intro pl npl
      have sP : Same H9 (upd H9 pl (.lst [.ref T, .ref T'])) := same1 npl
      have hpl : upd H9 pl (.lst [.ref T, .ref T']) pl = some (.lst [.ref T, .ref T']) := upd_same
      have nplh := hh9.ne npl
      generalize upd H9 pl (.lst [.ref T, .ref T']) = H10 at *
      have hh10 := hh9.same sP
      replace SD6 := SD6.same sP
      replace hT6 := sP _ _ hT6
      replace hT' := sP _ _ hT'
      replace ty6 := ty6.same sP
      replace hl6 := sP _ _ hl6
      replace hf6 := hf6.same sP
      replace k36 := k36.trans (Kp.same sP)
      clear sP hh9 nT' npl
      walk_at "w"
      intro x H11 x0 x1 hh11 k11
      replace SD6 := SD6.kp hh10 k11
      replace hT6 := k11.get hh10 hT6 rfl
      replace hT' := k11.get hh10 hT' rfl
      replace ty6 := ty6.kp hh10 k11
      replace hl6 := k11 _ _ hl6 nlh
      replace hpl := k11 _ _ hpl nplh
      replace hf6 := hf6.kp hh10 k11
      replace k36 := k36.trans k11
      clear k11 hh10
      have hsel : ∃ (T5 : Addr) (i5 j5 : Nat), atI [V.ref T, V.ref T'] (if decide (V.int x = V.int 0) = true then 1 else 0) = some (.ref T5) ∧ H11 T5 = some (.tup [.int (i5 : Int), .int (j5 : Int)]) ∧ i5 < zs.length ∧ j5 < ys.length := by
        split
        · exact ⟨T', d', e', rfl, hT', by omega, by omega⟩
        · exact ⟨T, d, e, rfl, hT6, by omega, by omega⟩
      obtain ⟨T5, i5, j5, hat, hT5, hi5, hj5⟩ := hsel
      obtain ⟨a0, ha0⟩ := ge2 (zs := zs) hi5
      obtain ⟨b0, hb0⟩ := ge2 (zs := ys) hj5
      walk_at "w"
      refine .inr ⟨_, rfl, ?_⟩
      refine ⟨pl, _, _, _, rfl, rfl, SqL.of hpl, hat, ?_⟩
      walk_at "w"
      refine ⟨zs, ys, g, a0, b0, y, rfl, hh11, by omega, SD6, SqT.of hT5, ha0, hb0, by omega, ty6, k0, by omega, fun F0 u1 u2 x1' x2' H12 hh12 k12 hF0 tx1 tx2 => ?_⟩
      have hl12 := k12 _ _ hl6 nlh
      have n12 : Nl H12 (upd H12 lf (.lst (vs' ++ [.ref F0]))) := Nl.put hl12
      refine ⟨lf, _, _, rfl, rfl, hl12, szs (by omega), vs' ++ [.ref F0], fs ++ [(x1', x2')], _, _, rfl, upd_same, ?_, by rw [List.length_append, lf6]; rfl, ((hh12.put nlh).mono (by omega)), (k36.trans k12).putN ?_⟩
      · exact FtsT.snoc ((hf6.kp hh11 k12).nl n12) ⟨F0, u1, u2, rfl, n12 _ _ hF0 rfl, tx1.nl n12, tx2.nl n12⟩
      · exact nlf
    · rintro σ H6 ⟨vs', fs, v5, v6, rfl, hl6, hf6, lf6, hh6, k36⟩
      walk_at "w"
      exact kk lf vs' fs H6 (hh6.mono (by omega)) (kB.trans k36) nlh hl6 hf6 (by omega) (by omega)
theorem ok_Measure_minus {P : Program} {w : World} {K : PySem.W.Frag} {mg : Str → Option Value} {base : Heap} {φ : Fds} (T : Txt K mg φ) : FnOk P w K mg base CX0 4 (He.fAd K ("Measure", some "minus")) φ.Measure_minus p_Measure_minus (sp_bin2 (He.ga K "Measure") (fun t u t' u' => t * u' - t' * u) (fun t u t' u' => u * u')) := by
  obtain ⟨_, B0v, B0⟩ := b_Measure_init_3 T
  refine T.f_Measure_minus.ok sc_Measure_minus (fun vs H Q E h => ?_) (fun cdv A outer s H vs Q E hr h => ?_)
  · obtain ⟨p, q, t, u, t', u', rfl, ⟨dp, hp⟩, ⟨dq, hq⟩, hu, hu', st, su, st', su', sg, k⟩ := h; rfl
  · obtain ⟨p, q, t, u, t', u', rfl, ⟨dp, hp⟩, ⟨dq, hq⟩, hu, hu', st, su, st', su', sg, k⟩ := h
    refine ⟨_, PSs.nox (pss_one (ps_ret (pe_make T.mk_Measure (ok_Measure_init (K := K) T) (hr.mono (by decide)) rfl T.g_Measure B0 B0v pass0 (pa_cons (pe_op op_sub (pe_op op_mulA (fldK (K := K) (pv 0) rfl) (fldK (K := K) (pv 1) rfl)) (pe_op op_mulA (fldK (K := K) (pv 1) rfl) (fldK (K := K) (pv 0) rfl))) (pa_cons (pe_op op_mulA (fldK (K := K) (pv 0) rfl) (fldK (K := K) (pv 1) rfl)) pa_nil))))), ?_⟩
    refine ⟨_, rfl, _, _, _, _, _, rfl, hp, T.cl_Measure, T.na_Measure_top, mf_top _ _, _, rfl, _, _, _, _, _, rfl, hq, T.cl_Measure, T.na_Measure_bottom, mf_bottom _ _, _, _, rfl, rfl, st.cmul su' (by decide) (by decide) (by decide), _, rfl, _, _, _, _, _, rfl, hq, T.cl_Measure, T.na_Measure_top, mf_top _ _, _, rfl, _, _, _, _, _, rfl, hp, T.cl_Measure, T.na_Measure_bottom, mf_bottom _ _, _, _, rfl, rfl, st'.cmul su (by decide) (by decide) (by decide), _, _, rfl, rfl, _, rfl, _, _, _, _, _, rfl, hp, T.cl_Measure, T.na_Measure_bottom, mf_bottom _ _, _, rfl, _, _, _, _, _, rfl, hq, T.cl_Measure, T.na_Measure_bottom, mf_bottom _ _, _, _, rfl, rfl, su.cmul su' (by decide) (by decide) (by decide), ?_⟩
    intro x dx nx nd ne
    refine ⟨x, dx, _, _, rfl, upd_same, Int.mul_ne_zero (by omega) (by omega), sg.log (by decide) (by decide), fun t2 u2 H' fr hx kp => ⟨rfl, ?_⟩⟩
    exact k x t2 u2 H' nx (made_same nx nd kp) ⟨_, hx⟩ fr
theorem ok_fits {P : Program} {w : World} {K : PySem.W.Frag} {mg : Str → Option Value} {base : Heap} {φ : Fds} (T : Txt K mg φ) : FnOk P w K mg base CX0 5 (He.fAd K ("fits", none)) φ.fits p_fits (sp_fits K (He.ga K "Measure") (He.ga K "Ladder")) := by
  obtain ⟨_, B0v, B0⟩ := b_Measure_minus_2 T
  obtain ⟨_, B1v, B1⟩ := b_measure_or_2 T
  obtain ⟨_, B2v, B2⟩ := b_Measure_plus_2 T
  obtain ⟨_, B3v, B3⟩ := b_Measure_is_below_3 T
  refine T.f_fits.ok sc_fits (fun vs H Q E h => ?_) (fun cdv A outer s H vs Q E hr h => ?_)
  · obtain ⟨p, q, s, t, k, j, zs, r, lo, hi, x, y, e, rfl, hL, qx, qy, qt, k0, j0, k1, j1, kk⟩ := h; rfl
  · obtain ⟨p, q, s, t, k, j, zs, r, lo, hi, x, y, e, rfl, hL, qx, qy, qt, k0, j0, k1, j1, kk⟩ := h
    refine ⟨_, PSs.nox (pss_cons (ps_set (i := 4) sc_fits.nd rfl (Or.inr rfl) (pe_meth (pv 1) T.cl_Measure T.me_Measure_minus (ok_Measure_minus (K := K) T) (hr.mono (by decide)) B0 B0v pass0 (pa_cons (pe_call (ok_measure_or (K := K) T) (hr.mono (by decide)) rfl T.g_measure_or T.f_measure_or.kp B1 B1v pass0 (pa_cons (pv 3) (pa_cons pe_int pa_nil))) pa_nil)))
      (pss_cons (ps_set (i := 5) sc_fits.nd rfl (Or.inr rfl) (pe_meth (pv 1) T.cl_Measure T.me_Measure_plus (ok_Measure_plus (K := K) T) (hr.mono (by decide)) B2 B2v pass0 (pa_cons (pv 2) pa_nil)))
      (pss_one (ps_ret (pe_callTy (T := "tuple") (tupleL (K := K)) (by rfl) T.z_tuple (by decide +kernel) (pa_cons (pe_lc (own := [("number", 6), ("mark", 7)]) (g := gTup K 2 (gCons (gName 6) (gCons (gName 7) (gNil)))) rfl sc_fits.nd (pi_enumT (by rfl) T.z_enumerate (pa_cons (fldK (K := K) (pv 0) rfl) pa_nil)) (blkOk_by (own := [("number", 6), ("mark", 7)]) (N := N_fits) (sc := (defScope s_fits)) (by decide +kernel)) (fun _ _ _ _ _ => (pg_tup rfl (pgs_cons (pg_name (i := 6) sc_fits.nd rfl (Or.inl rfl)) (pgs_cons (pg_name (i := 7) sc_fits.nd rfl (Or.inl rfl)) pgs_nil)))) (fun _ _ _ _ _ => (pts_one (PW.pt (pw_and (pt_val (pe_meth (pv 4) T.cl_Measure T.me_Measure_is_below (ok_Measure_is_below (K := K) T) (hr.mono (by decide)) B3 B3v pass0 (pa_cons (pv 7) (pa_cons pe_bl pa_nil)))) (pw_and1 (pt_val (pe_meth (pv 7) T.cl_Measure T.me_Measure_is_below (ok_Measure_is_below (K := K) T) (hr.mono (by decide)) B3 B3v pass0 (pa_cons (pv 5) (pa_cons pe_bl pa_nil))))))))) (fun _ _ _ _ _ => (pv 6))) pa_nil)))))), ?_⟩
    have cl_Ladder := T.cl_Ladder
    have na_Ladder_marks := T.na_Ladder_marks
    have na_Ladder_rule := T.na_Ladder_rule
    have na_Ladder_least := T.na_Ladder_least
    have na_Ladder_most := T.na_Ladder_most
    
    have hL0 := hL
    obtain ⟨⟨dx, T', ps, l, h, hp, hT, hm, ql, qh⟩, l0, l1, hri, hru, hsp⟩ := hL
    have el : ps.length = zs.length := hm.len
    walk_at "w"
    refine ⟨e, rfl, qt, j0, by omega, fun pt H1 s1 qt1 => ?_⟩
    have qx1 := qx.same s1
    walk_at "w"
    intro m1 H2 s2 qm1
    have qx2 := qx1.same s2
    have qy2 := qy.same (s1.trans s2)
    refine ⟨_, rfl, meth_q qx2 (by decide +kernel) (by decide +kernel) ⟨_, rfl, q_addT qx2 qy2 (by omega) j0 j0 fun m2 H3 s3 qm2 => ?_⟩⟩
    have s13 := (s1.trans s2).trans s3
    have qm13 := qm1.same s3
    have hp3 := s13 _ _ hp
    have hT3 := s13.sqt hT
    have hm3 := hm.same s13
    walk_at "w"
    intro D nD
    refine lcz (n := ps.length) walk_enumT (fun _ _ g s => s.sqt g) (oIdx ps.length (fitQ zs x y (e.getD (0, 1)))) (oIdx_len _ _) (szs (by omega)) hT3 nD (fun i v H4 H5 o N M hi ho s4 yy hN hM => ?_) (fun H4 s4 hD => ?_)
    · obtain ⟨t4, a0, b0, rfl, nt, rfl, ha0, hb0⟩ := yy
      cases ha0
      obtain ⟨a, ha⟩ := ge2 (zs := zs) (n := i) (by omega)
      have eo := oIdx_get ho
      have ef : fitQ zs x y (e.getD (0, 1)) i = (leq (qsub x (e.getD (0, 1))) a && leq a (qadd x y)) := by
        unfold fitQ
        rw [ha]
      rw [ef] at eo
      replace hb0 : ps[i]? = some b0 := hb0
      obtain ⟨pm, z1, rfl, hz1, qa⟩ := (hm3.same s4).of hb0
      rw [ha] at hz1
      cases hz1
      have s5 : Same H4 (upd H4 t4 (.tup [.int (i : Int), .ref pm])) := same1 nt
      have qa5 := qa.same s5
      have qm15 := (qm13.same s4).same s5
      have qm25 := (qm2.same s4).same s5
      refine ⟨t4, _, rfl, SqT.of upd_same, rfl, _, _, rfl, _, _, rfl, rfl, rfl, ?_⟩
      walk_at "w"
      cases e1 : leq (qsub x (e.getD (0, 1))) a with
      | false =>
        have e1' : (ltq (qsub x (e.getD (0, 1))) a || eqq (qsub x (e.getD (0, 1))) a) = false := e1
        rw [e1']
        refine iteF ?_
        exact hM _ (by rw [eo, e1]; rfl) s5
      | true =>
        have e1' : (ltq (qsub x (e.getD (0, 1))) a || eqq (qsub x (e.getD (0, 1))) a) = true := e1
        rw [e1']
        refine iteT ?_
        walk_at "w"
        cases e2 : leq a (qadd x y) with
        | false =>
          have e2' : (ltq a (qadd x y) || eqq a (qadd x y)) = false := e2
          rw [e2']
          refine iteF ?_
          exact hM _ (by rw [eo, e1, e2]; rfl) s5
        | true =>
          have e2' : (ltq a (qadd x y) || eqq a (qadd x y)) = true := e2
          rw [e2']
          refine iteT ?_
          exact ⟨_, rfl, hN _ _ (by rw [eo, e1, e2]; rfl) s5⟩
    rw [oIdx_fm, el] at hD
    walk_at "w"
    intro T2 nT2
    exact kk T2 _ ((s13.trans s4).up nT2) upd_same
theorem ok_fitting_of {P : Program} {w : World} {K : PySem.W.Frag} {mg : Str → Option Value} {base : Heap} {φ : Fds} (T : Txt K mg φ) : FnOk P w K mg base CX0 6 (He.fAd K ("fitting_of", none)) φ.fitting_of p_fitting_of (sp_fitting K (He.ga K "Measure") (He.ga K "Ladder")) := by
  obtain ⟨_, B0v, B0⟩ := b_fits_4 T
  refine T.f_fitting_of.ok sc_fitting_of (fun vs H Q E h => ?_) (fun cdv A outer s H vs Q E hr h => ?_)
  · obtain ⟨p, F, s', t, k, j, fs, zs, r, lo, hi, xs, y, e, rfl, hL, hF, mF, qs, qt, k0, k1, j0, j1, lx, kk⟩ := h; rfl
  · obtain ⟨p, F, s', t, k, j, fs, zs, r, lo, hi, xs, y, e, rfl, hL, hF, mF, qs, qt, k0, k1, j0, j1, lx, kk⟩ := h
    refine ⟨_, PSs.nox (pss_one (ps_ret (pe_lc (own := [("foot", 4)]) (g := gName 4) rfl sc_fitting_of.nd (pi_tup (pv 1)) (blkOk_by (own := [("foot", 4)]) (N := N_fitting_of) (sc := (defScope s_fitting_of)) (by decide +kernel)) (fun _ _ _ _ _ => (pg_name (i := 4) sc_fitting_of.nd rfl (Or.inl rfl))) (fun _ _ _ _ _ => pts_nil) (fun _ _ _ _ _ => (pe_call (ok_fits (K := K) T) (hr.mono (by decide)) rfl T.g_fits T.f_fits.kp B0 B0v pass0 (pa_cons (pv 0) (pa_cons (pv 4) (pa_cons (pv 2) (pa_cons (pv 3) pa_nil))))))))), ?_⟩
    have lf' : fs.length = xs.length := mF.len
    walk_at "w"
    refine ⟨⟨_, hF⟩, fun D nD => ?_⟩
    refine lcr (n := fs.length) walk_tup (fun _ _ g s => s.sqt g) (fun i H v => ∃ T x, v = .ref T ∧ xs[i]? = some x ∧ H T = some (.tup ((idx zs.length (fitQ zs x y (e.getD (0, 1)))).map V.int))) (fun i H H' v ⟨T, x, e1, e2, e3⟩ n => ⟨T, x, e1, e2, n _ _ e3 rfl⟩) (szs (by omega)) hF nD (fun i x H1 H2 N M hi' s1 yy hN => ?_) (fun H1 ts s1 hD lt ht => ?_)
    · obtain ⟨rfl, hx⟩ := yy
      obtain ⟨q, x', rfl, hx', qx⟩ := (mF.same s1).of hx
      refine ⟨rfl, yesT ?_⟩
      walk_at "w"
      exact ⟨zs, r, lo, hi, x', y, e, rfl, hL.same s1, qx, qs.same s1, qt.same s1, k0, j0, k1, j1, fun T H3 s3 hT => hN _ _ s3 ⟨T, x', rfl, hx', hT⟩⟩
    refine kk D H1 s1 ⟨ts, hD, by unfold fitL; rw [List.length_map]; omega, fun i v l e1 e2 => ?_⟩
    obtain ⟨T, x, ev, ex, hT⟩ := ht i v e1
    unfold fitL at e2
    rw [List.getElem?_map, ex] at e2
    cases e2
    exact ⟨T, ev, hT⟩
theorem ok_first_bare {P : Program} {w : World} {K : PySem.W.Frag} {mg : Str → Option Value} {base : Heap} {φ : Fds} (T : Txt K mg φ) : FnOk P w K mg base CX0 1 (He.fAd K ("first_bare", none)) φ.first_bare p_first_bare sp_bare := by
  refine T.f_first_bare.ok sc_first_bare (fun vs H Q E h => ?_) (fun cdv A outer s H vs Q E hr h => ?_)
  · obtain ⟨D, ls, rfl, hF, ll, l24, kk⟩ := h; rfl
  · obtain ⟨D, ls, rfl, hF, ll, l24, kk⟩ := h
    refine ⟨_, PSs.nox (pss_cons (ps_for PassesOwn.never rfl (pi_enum (by rfl) T.z_enumerate (pa_cons (pv 0) pa_nil)) (pg_tup rfl (pgs_cons (pg_name (i := 1) sc_first_bare.nd rfl (Or.inl rfl)) (pgs_cons (pg_name (i := 2) sc_first_bare.nd rfl (Or.inl rfl)) pgs_nil)))
      (pss_one (ps_if (pt_cmpR op_eq (pe_callB (id := "len") (lenS (K := K)) (by rfl) T.z_len PySem.boot_len (pa_cons (pv 2) pa_nil)) pe_int (nomark _))
      (pss_one (ps_ret (pv 1)))
      pss_nil)))
      (pss_one (ps_ret pe_non))), ?_⟩
    obtain ⟨ts, hD, lt, hts⟩ := hF.ob
    walk_at "w"
    refine for_it walk_enum (fun i σ H' => (∃ v1 v2, σ = [some (.ref D), v1, v2]) ∧ Same H H' ∧ ∀ j l, j < i → ls[j]? = some l → l ≠ []) ⟨⟨_, _, rfl⟩, Same.refl _, fun j l h => by omega⟩ (fun i σ H' _ q => q.2.1.seq (SqL.of hD)) ?_ ?_
    · rintro i x σ H1 H2 hi ⟨⟨v1, v2, rfl⟩, s1, hb⟩ ⟨T, a0, b0, rfl, nT, rfl, ha, hb0⟩
      cases ha
      have hi2 : i < ls.length := by omega
      have hl0 : ls[i]? = some ls[i] := List.getElem?_eq_getElem hi2
      obtain ⟨T2, e2, hT2⟩ := hts i b0 _ hb0 hl0
      subst e2
      have s2 : Same H (upd H1 T (.tup [.int (i : Nat), .ref T2])) := s1.trans (same1 nT)
      have hT3 := s2 _ _ hT2
      have l3 : (ls[i].map V.int).length = ls[i].length := List.length_map ..
      refine ⟨T, _, rfl, SqT.of upd_same, rfl, _, _, rfl, _, _, rfl, rfl, ?_⟩
      have sql := SqT.of (K := K) hT3
      walk_at "w"
      refine ite2 (fun e => ?_) (fun e => ?_)
      · have e0 : ls[i] = [] := by
          have := of_decide_eq_true e
          have e1 : ls[i].length = 0 := by
            have h1 : V.int ((ls[i].map V.int).length : Nat) = V.int 0 := this
            have := V.int.inj h1
            omega
          exact List.eq_nil_of_length_eq_zero e1
        walk_at "w"
        refine kk (some i) _ s2 ⟨by rw [hl0, e0], hb⟩
      · refine ⟨⟨_, _, rfl⟩, s2, fun j l hj hl => ?_⟩
        by_cases q : j = i
        · subst q
          rw [hl0] at hl
          cases hl
          intro q2
          apply e
          rw [q2]
          exact decide_eq_true rfl
        · exact hb j l (by omega) hl
    · rintro σ H1 ⟨⟨v1, v2, rfl⟩, s1, hb⟩
      refine kk none _ s1 fun l hl => ?_
      obtain ⟨j, hj⟩ := List.mem_iff_getElem?.mp hl
      have := (List.getElem?_eq_some_iff.mp hj).1
      exact hb j l (by omega) hj
theorem ok_fewest_of {P : Program} {w : World} {K : PySem.W.Frag} {mg : Str → Option Value} {base : Heap} {φ : Fds} (T : Txt K mg φ) : FnOk P w K mg base CX0 1 (He.fAd K ("fewest_of", none)) φ.fewest_of p_fewest_of sp_few := by
  refine T.f_fewest_of.ok sc_fewest_of (fun vs H Q E h => ?_) (fun cdv A outer s H vs Q E hr h => ?_)
  · obtain ⟨D, ls, rfl, hF, ll, l24, R, kk⟩ := h; rfl
  · obtain ⟨D, ls, rfl, hF, ll, l24, R, kk⟩ := h
    refine ⟨_, PSs.nox (pss_cons (ps_set (i := 1) sc_fewest_of.nd rfl (Or.inl rfl) (pe_lst pa_nil))
      (pss_cons (ps_set (i := 2) sc_fewest_of.nd rfl (Or.inl rfl) (pe_lst pa_nil))
      (pss_cons (ps_for PassesOwn.never rfl (pi_list (pe_callB (id := "sorted") cr_sortedPO (by rfl) T.z_sorted (by decide +kernel) (pa_cons (pe_lc (own := [("number", 4), ("run", 5)]) (g := gTup K 2 (gCons (gName 4) (gCons (gName 5) (gNil)))) rfl sc_fewest_of.nd (pi_enum (by rfl) T.z_enumerate (pa_cons (pv 0) pa_nil)) (blkOk_by (own := [("number", 4), ("run", 5)]) (N := N_fewest_of) (sc := (defScope s_fewest_of)) (by decide +kernel)) (fun _ _ _ _ _ => (pg_tup rfl (pgs_cons (pg_name (i := 4) sc_fewest_of.nd rfl (Or.inl rfl)) (pgs_cons (pg_name (i := 5) sc_fewest_of.nd rfl (Or.inl rfl)) pgs_nil)))) (fun _ _ _ _ _ => pts_nil) (fun _ _ _ _ _ => (pe_tup (pa_cons (pe_ix (ixt (K := K)) (pv 5) (pe_un un_neg pe_int) (fun _ _ => rfl)) (pa_cons (pv 4) pa_nil))))) pa_nil))) (pg_tup rfl (pgs_cons (pg_name (i := 3) sc_fewest_of.nd rfl (Or.inl rfl)) (pgs_cons (pg_name (i := 4) sc_fewest_of.nd rfl (Or.inl rfl)) pgs_nil)))
      (pss_one (ps_if (PW.pt (pw_or (pt_cmpR op_eq (pe_callB (id := "len") (lenS (K := K)) (by rfl) T.z_len PySem.boot_len (pa_cons (pv 1) pa_nil)) pe_int (nomark _)) (pw_or1 (pt_cmpR op_lt (pe_ix (ixl (K := K)) (pv 1) (pe_un un_neg pe_int) (fun _ _ => rfl)) (pe_ix (ixt (K := K)) (pe_ix (ixl (K := K)) (pv 0) (pv 4) (fun _ _ => rfl)) pe_int (fun _ _ => rfl)) (nomark _)))))
      (pss_cons (ps_expr (pe_bm PySem.F.plainAttrs_list PySem.F.slot_list_append PySem.F.type_list_append mt_append (pv 1) (pa_cons (pv 3) pa_nil)))
      (pss_one (ps_expr (pe_bm PySem.F.plainAttrs_list PySem.F.slot_list_append PySem.F.type_list_append mt_append (pv 2) (pa_cons (pv 4) pa_nil)))))
      pss_nil)))
      (pss_one (ps_ret (pe_tup (pa_cons (pe_callTy (T := "tuple") (tupleL (K := K)) (by rfl) T.z_tuple (by decide +kernel) (pa_cons (pv 1) pa_nil)) (pa_cons (pe_callTy (T := "tuple") (tupleL (K := K)) (by rfl) T.z_tuple (by decide +kernel) (pa_cons (pe_callB (id := "sorted") cr_sorted (by rfl) T.z_sorted (by decide +kernel) (pa_cons (pv 2) pa_nil)) pa_nil)) pa_nil)))))))), ?_⟩
    obtain ⟨ts, hD, lt, hts⟩ := hF.ob
    walk_at "w"
    intro S nS
    have s1 : Same H (upd H S (.lst [])) := same1 nS
    have hS : upd H S (.lst []) S = some (.lst []) := upd_same
    generalize upd H S (.lst []) = H1 at *
    walk_at "w"
    intro A nA
    have s2 : Same H1 (upd H1 A (.lst [])) := same1 nA
    have hA : upd H1 A (.lst []) A = some (.lst []) := upd_same
    have neSA : S ≠ A := ne_of_none hS nA
    generalize upd H1 A (.lst []) = H2 at *
    replace hS := s2 _ _ hS
    have s02 := s1.trans s2
    have nSH := nS
    have nAH : H A = none := s1.free nA
    have hD2 := s02 _ _ hD
    have hts2 : ∀ (i : Nat) (v : V) (l : List Int), ts[i]? = some v → ls[i]? = some l → ∃ T, v = .ref T ∧ H2 T = some (.tup (l.map V.int)) := fun i v l e1 e2 => by
      obtain ⟨T, e, h⟩ := hts i v l e1 e2
      exact ⟨T, e, s02 _ _ h⟩
    have neDS : D ≠ S := ne_of_none hD nSH
    have neDA : D ≠ A := ne_of_none hD nAH
    walk_at "w"
    intro P nP
    refine lcr (n := ts.length) walk_enum (fun _ _ g s => s.seq g) (fun i H v => ∃ t, v = .ref t ∧ H t = some (.tup [.int (lastI ls (i : Int)), .int (i : Int)])) (fun i H H' v ⟨t, e1, e2⟩ n => ⟨t, e1, n _ _ e2 rfl⟩) (szs (by omega)) (SqL.of hD2) nP (fun i x H3 H4 N M hi s3 yy hN => ?_) (fun H3 ys s3 hP ly hy => ?_)
    · obtain ⟨T, a0, b0, rfl, nT, rfl, ha, hb0⟩ := yy
      cases ha
      have hl0 : ls[i]? = some ls[i] := List.getElem?_eq_getElem (by omega)
      obtain ⟨T2, e2, hT2⟩ := hts2 i b0 _ hb0 hl0
      subst e2
      have s4 : Same H2 (upd H3 T (.tup [.int (i : Nat), .ref T2])) := s3.trans (same1 nT)
      have hT3 := s4 _ _ hT2
      have ne := (R i (by omega)).1
      rw [getD_get hl0] at ne
      obtain ⟨z, hz⟩ : ∃ z, ls[i].getLast? = some z := by
        cases e : ls[i].getLast? with
        | none => exact absurd (List.getLast?_eq_none_iff.mp e) ne
        | some z => exact ⟨z, rfl⟩
      have l0 : 0 < ls[i].length := List.length_pos_iff.mpr ne
      have hat : atI (ls[i].map V.int) (-1) = some (.int z) := atI_end (n := ls[i].length - 1) (by rw [List.length_map]; omega) (by rw [List.getElem?_map, ← List.getLast?_eq_getElem?, hz]; rfl)
      refine ⟨T, _, rfl, SqT.of upd_same, rfl, _, _, rfl, _, _, rfl, rfl, rfl, yesT ?_⟩
      walk_at "w"
      intro t2 nt2
      exact hN _ _ ((same1 nT).trans (same1 nt2)) ⟨t2, rfl, by rw [upd_same, last_at hl0 hz]⟩
    replace hS := s3 _ _ hS
    replace hA := s3 _ _ hA
    replace hD2 := s3 _ _ hD2
    replace hts2 : ∀ (i : Nat) (v : V) (l : List Int), ts[i]? = some v → ls[i]? = some l → ∃ T, v = .ref T ∧ H3 T = some (.tup (l.map V.int)) := fun i v l e1 e2 => by
      obtain ⟨T, e, h⟩ := hts2 i v l e1 e2
      exact ⟨T, e, s3 _ _ h⟩
    have s03 := s02.trans s3
    have pk : ∀ x ∈ ys, ∃ t, x = V.ref t ∧ H3 t = some (.tup [.int (kPr H3 x).1, .int (kPr H3 x).2]) := fun x hx => by
      obtain ⟨i, hi⟩ := List.mem_iff_getElem?.mp hx
      obtain ⟨t, rfl, ht⟩ := hy i x hi
      exact ⟨t, rfl, by rw [kPr_eq ht]; exact ht⟩
    clear s1 s2 s3 s02 nP nS nA
    refine ⟨P, ys, kPr H3, rfl, SqL.of hP, pk, fun ws W hsr hst nW => ?_⟩
    have hperm : ws.Perm ys := hst.perm
    have PP : PairsOf ls (ws.map (kPr H3)) := by
      constructor
      · refine (hperm.map _).trans (List.Perm.of_eq ?_)
        refine List.ext_getElem? fun i => ?_
        rw [List.getElem?_map, List.getElem?_map]
        by_cases hi : i < ls.length
        · obtain ⟨v, hv⟩ := geV (xs := ys) (n := i) (by omega)
          obtain ⟨t, rfl, ht⟩ := hy i v hv
          rw [hv, List.getElem?_range hi]
          show some (kPr H3 (.ref t)) = some _
          rw [kPr_eq ht]
        · rw [List.getElem?_eq_none (by omega), List.getElem?_eq_none (by rw [List.length_range]; omega)]
          rfl
      · intro i j p q hij hp hq
        rw [List.getElem?_map] at hp hq
        cases ep : ws[i]? with
        | none => rw [ep] at hp; cases hp
        | some u =>
        cases eq : ws[j]? with
        | none => rw [eq] at hq; cases hq
        | some v =>
        rw [ep] at hp; rw [eq] at hq
        cases hp; cases hq
        have li := (List.getElem?_eq_some_iff.mp ep)
        have lj := (List.getElem?_eq_some_iff.mp eq)
        have := List.pairwise_iff_getElem.mp hsr i j li.1 lj.1 hij
        rw [li.2, lj.2] at this
        have := SrtO.lexB_no.mp this
        omega
    have pkw : ∀ x ∈ ws, ∃ t, x = V.ref t ∧ H3 t = some (.tup [.int (kPr H3 x).1, .int (kPr H3 x).2]) := fun x hx => pk x (hperm.mem_iff.mp hx)
    have lw : ws.length = ls.length := by rw [hperm.length_eq]; omega
    have s4 : Same H3 (upd H3 W (.lst ws)) := same1 nW
    have hW : upd H3 W (.lst ws) W = some (.lst ws) := upd_same
    have neWS : S ≠ W := ne_of_none hS nW
    have neWA : A ≠ W := ne_of_none hA nW
    generalize upd H3 W (.lst ws) = H4 at *
    replace hS := s4 _ _ hS
    replace hA := s4 _ _ hA
    replace hD2 := s4 _ _ hD2
    replace s03 := s03.trans s4
    replace pkw : ∀ x ∈ ws, ∃ t, x = V.ref t ∧ H4 t = some (.tup [.int (kPr H3 x).1, .int (kPr H3 x).2]) := fun x hx => by
      obtain ⟨t, e, h⟩ := pkw x hx
      exact ⟨t, e, s4 _ _ h⟩
    replace hts2 : ∀ (i : Nat) (v : V) (l : List Int), ts[i]? = some v → ls[i]? = some l → ∃ T, v = .ref T ∧ H4 T = some (.tup (l.map V.int)) := fun i v l e1 e2 => by
      obtain ⟨T, e, h⟩ := hts2 i v l e1 e2
      exact ⟨T, e, s4 _ _ h⟩
    clear hst hsr hP hy pk s4 nW hperm hF hts
    generalize kPr H3 = kp at *
    have K2 : ∀ {Hx : Hp} {u1 u2 : HO}, (∀ c o, H4 c = some o → c ≠ S → c ≠ A → Hx c = some o) → (∀ c o, H4 c = some o → c ≠ S → c ≠ A → (upd (upd Hx S u1) A u2) c = some o) := fun h c o e n1 n2 => by
      rw [upd_ne n2, upd_ne n1]; exact h c o e n1 n2
    refine ⟨W, rfl, ⟨_, SqL.of hW⟩, ?_⟩
    refine for_list (K := K) (a := W) (xs := ws) (fun i σ H' => (∃ v1 v2, σ = [some (.ref D), some (.ref S), some (.ref A), v1, v2, none]) ∧ (∀ c o, H4 c = some o → c ≠ S → c ≠ A → H' c = some o) ∧ ∃ ss as, H' S = some (.lst (ss.map V.int)) ∧ H' A = some (.lst (as.map V.int)) ∧ GInv ls ((ws.map kp).take i) ss as ∧ ss.length ≤ i) ⟨⟨_, _, rfl⟩, fun c o e _ _ => e, [], [], hS, hA, GInv.nil, Nat.le_refl _⟩ (fun i σ H' _ q => SqL.of (q.2.1 _ _ hW neWS.symm neWA.symm)) ?_ ?_
    · rintro i x σ H5 hx ⟨⟨v1, v2, rfl⟩, k5, ss, as, hS5, hA5, g, lss⟩
      have hx2 : (ws.map kp)[i]? = some (kp x) := by rw [List.getElem?_map, hx]; rfl
      have hi : i < ws.length := (List.getElem?_eq_some_iff.mp hx).1
      obtain ⟨n, hn, en⟩ := PP.mem.mp (List.mem_of_getElem? hx2)
      obtain ⟨t, rfl, ht⟩ := pkw x (List.mem_of_getElem? hx)
      rw [en] at ht hx2
      have ht5 := k5 _ _ ht (ne_of ht hS (by intro z; cases z)) (ne_of ht hA (by intro z; cases z))
      have hl0 : ls[n]? = some ls[n] := List.getElem?_eq_getElem hn
      obtain ⟨T2, eT, hT2⟩ := FitsL.at (D := D) lt hts2 hl0
      have hT5 := k5 _ _ hT2 (ne_of hT2 hS (by intro z; cases z)) (ne_of hT2 hA (by intro z; cases z))
      have hD5 := k5 _ _ hD2 neDS neDA
      have nn := (R n hn).1
      rw [getD_get hl0] at nn
      have las : as.length = ss.length := g.len.symm
      refine ⟨t, _, rfl, SqT.of ht5, rfl, _, _, rfl, _, _, rfl, rfl, ?_⟩
      have fin : (∀ s, ss.getLast? = some s → s < firstI ls n) → (∃ v1 v2, ([some (V.ref D), some (V.ref S), some (V.ref A), some (V.int (lastI ls (n : Int))), some (V.int (n : Int)), none] : L2.St) = [some (.ref D), some (.ref S), some (.ref A), v1, v2, none]) ∧ (∀ c o, H4 c = some o → c ≠ S → c ≠ A → (upd (upd H5 S (.lst (ss.map V.int ++ [V.int (lastI ls (n : Int))]))) A (.lst (as.map V.int ++ [V.int (n : Int)]))) c = some o) ∧ ∃ ss' as', (upd (upd H5 S (.lst (ss.map V.int ++ [V.int (lastI ls (n : Int))]))) A (.lst (as.map V.int ++ [V.int (n : Int)]))) S = some (.lst (ss'.map V.int)) ∧ (upd (upd H5 S (.lst (ss.map V.int ++ [V.int (lastI ls (n : Int))]))) A (.lst (as.map V.int ++ [V.int (n : Int)]))) A = some (.lst (as'.map V.int)) ∧ GInv ls ((ws.map kp).take (i + 1)) ss' as' ∧ ss'.length ≤ i + 1 := fun h => by
        refine ⟨⟨_, _, rfl⟩, fun c o e n1 n2 => by rw [upd_ne n2, upd_ne n1]; exact k5 c o e n1 n2, ss ++ [lastI ls (n : Int)], as ++ [(n : Int)], ?_, ?_, g.take PP R hx2 h, by rw [List.length_append, List.length_singleton]; omega⟩
        · rw [upd_ne neSA, upd_same, map_snoc]
        · rw [upd_same, map_snoc]
      have hA6 : ∀ u, (upd H5 S u) A = some (.lst (as.map V.int)) := fun u => by rw [upd_ne neSA.symm]; exact hA5
      have lsm : (ss.map V.int).length = ss.length := List.length_map ..
      have lam : (as.map V.int).length = as.length := List.length_map ..
      have app : (∀ s, ss.getLast? = some s → s < firstI ls n) → True := fun _ => trivial
      cases els : ss.getLast? with
      | none =>
        have e0 : ss = [] := List.getLast?_eq_none_iff.mp els
        have f2 := fin (fun s q => by rw [els] at q; cases q)
        refine ⟨_, rfl, S, _, rfl, .inl (SqL.of hS5), rfl, _, rfl, ?_⟩
        rw [show decide (V.int (((ss.map V.int).length : Nat) : Int) = V.int 0) = true from decide_eq_true (by rw [e0]; rfl)]
        refine iteT ?_
        refine ⟨_, rfl, .inl ⟨rfl, _, SqL.of hS5⟩, _, rfl, S, _, _, rfl, rfl, hS5, szs (by omega), ?_⟩
        refine ⟨_, rfl, .inl ⟨rfl, _, SqL.of (hA6 _)⟩, _, rfl, A, _, _, rfl, rfl, hA6 _, szs (by omega), ?_⟩
        exact f2
      | some s =>
        have l0 : 0 < ss.length := by cases ss with | nil => simp at els | cons => simp
        have hat : atI (ss.map V.int) (-1) = some (.int s) := atI_end (n := ss.length - 1) (by rw [List.length_map]; omega) (by rw [List.getElem?_map, ← List.getLast?_eq_getElem?, els]; rfl)
        obtain ⟨f, rest, ef⟩ : ∃ f rest, ls[n] = f :: rest := by
          cases e : ls[n] with
          | nil => exact absurd e nn
          | cons f rest => exact ⟨f, rest, rfl⟩
        have efi : firstI ls (n : Int) = f := first_at (by rw [hl0, ef])
        rw [ef] at hT5
        refine ⟨_, rfl, S, _, rfl, .inl (SqL.of hS5), rfl, _, rfl, ?_⟩
        rw [show decide (V.int (((ss.map V.int).length : Nat) : Int) = V.int 0) = false from decide_eq_false (by intro q; have := V.int.inj q; omega)]
        refine iteF ?_
        refine ⟨_, rfl, _, rfl, S, _, _, _, rfl, rfl, SqL.of hS5, hat, _, rfl, _, rfl, D, ts, _, _, rfl, rfl, SqL.of hD5, atI_nat eT, T2, _, _, _, rfl, rfl, SqT.of hT5, atI_of (n := 0) rfl rfl, _, _, rfl, rfl, _, rfl, ?_⟩
        refine ite2 (fun e => ?_) (fun e => ?_)
        · have q := of_decide_eq_true e
          have f2 := fin (fun s' q' => by rw [els] at q'; cases q'; rw [efi]; exact q)
          refine ⟨_, rfl, .inl ⟨rfl, _, SqL.of hS5⟩, _, rfl, S, _, _, rfl, rfl, hS5, szs (by omega), ?_⟩
          refine ⟨_, rfl, .inl ⟨rfl, _, SqL.of (hA6 _)⟩, _, rfl, A, _, _, rfl, rfl, hA6 _, szs (by omega), ?_⟩
          exact f2
        · have q : ¬ s < f := fun z => e (decide_eq_true z)
          refine ⟨⟨_, _, rfl⟩, k5, ss, as, hS5, hA5, g.skip PP R hx2 els (by rw [efi]; omega), by omega⟩
    · rintro σ H5 ⟨⟨v1, v2, rfl⟩, k5, ss, as, hS5, hA5, g, lss⟩
      have s5 : Same H H5 := fun c o e => k5 c o (s03 _ _ e) (ne_of_none e nSH) (ne_of_none e nAH)
      have g : GInv ls (ws.map kp) ss as := by
        have e : (ws.map kp).take ws.length = ws.map kp := by
          have := List.take_length (l := ws.map kp)
          rwa [List.length_map] at this
        rw [e] at g
        exact g
      have las : as.length = ss.length := g.len.symm
      refine ⟨_, rfl, S, _, rfl, SqL.of hS5, fun TS nTS => ?_⟩
      have s6 : Same H5 (upd H5 TS (.tup (ss.map V.int))) := same1 nTS
      have hTS : upd H5 TS (.tup (ss.map V.int)) TS = some (.tup (ss.map V.int)) := upd_same
      generalize upd H5 TS (.tup (ss.map V.int)) = H6 at *
      refine ⟨_, rfl, A, as, rfl, SqL.of (s6 _ _ hA5), by omega, fun as' L1 hp hs nL => ?_⟩
      refine ⟨L1, _, rfl, SqL.of upd_same, fun TA nTA => ?_⟩
      walk_at "w"
      intro T nT
      have hTA : upd (upd H6 L1 (.lst (as'.map V.int))) TA (.tup (as'.map V.int)) TA = some (.tup (as'.map V.int)) := upd_same
      have sx : Same H6 (upd (upd (upd H6 L1 (.lst (as'.map V.int))) TA (.tup (as'.map V.int))) T (.tup [.ref TS, .ref TA])) := ((same1 nL : Same H6 _).up nTA).up nT
      exact kk T TS TA ss as' _ ((s5.trans s6).trans sx) upd_same (sx _ _ hTS) (up1 nT hTA) (few_of PP R g hp hs)
theorem ok_stock_for {P : Program} {w : World} {K : PySem.W.Frag} {mg : Str → Option Value} {base : Heap} {φ : Fds} (T : Txt K mg φ) : FnOk P w K mg base CX0 7 (He.fAd K ("stock_for", none)) φ.stock_for p_stock_for (sp_stockfor K (He.ga K "Measure") (He.ga K "Ladder")) := by
  obtain ⟨_, B0v, B0⟩ := b_fitting_of_4 T
  obtain ⟨_, B1v, B1⟩ := b_first_bare_1 T
  obtain ⟨_, B2v, B2⟩ := b_fewest_of_1 T
  refine T.f_stock_for.ok sc_stock_for (fun vs H Q E h => ?_) (fun cdv A outer s H vs Q E hr h => ?_)
  · obtain ⟨p, F, s', t, k, j, fs, zs, r, lo, hi, xs, y, e, rfl, hL, hF, mF, qs, qt, k0, k1, j0, j1, lx, kk⟩ := h; rfl
  · obtain ⟨p, F, s', t, k, j, fs, zs, r, lo, hi, xs, y, e, rfl, hL, hF, mF, qs, qt, k0, k1, j0, j1, lx, kk⟩ := h
    refine ⟨_, PSs.nox (pss_cons (ps_set (i := 4) sc_stock_for.nd rfl (Or.inl rfl) (pe_call (ok_fitting_of (K := K) T) (hr.mono (by decide)) rfl T.g_fitting_of T.f_fitting_of.kp B0 B0v pass0 (pa_cons (pv 0) (pa_cons (pv 1) (pa_cons (pv 2) (pa_cons (pv 3) pa_nil))))))
      (pss_cons (ps_set (i := 5) sc_stock_for.nd rfl (Or.inl rfl) (pe_call (ok_first_bare (K := K) T) (hr.mono (by decide)) rfl T.g_first_bare T.f_first_bare.kp B1 B1v pass0 (pa_cons (pv 4) pa_nil)))
      (pss_cons (ps_if (pt_cmpR op_notN (pv 5) pe_non (nomark _))
      (pss_one (ps_ret (pe_tup (pa_cons pe_str (pa_cons (pv 5) pa_nil)))))
      pss_nil)
      (pss_cons (ps_asg (pe_call (ok_fewest_of (K := K) T) (hr.mono (by decide)) rfl T.g_fewest_of T.f_fewest_of.kp B2 B2v pass0 (pa_cons (pv 4) pa_nil)) (pg_tup rfl (pgs_cons (pg_name (i := 6) sc_stock_for.nd rfl (Or.inl rfl)) (pgs_cons (pg_name (i := 7) sc_stock_for.nd rfl (Or.inl rfl)) pgs_nil))))
      (pss_one (ps_ret (pe_tup (pa_cons pe_str (pa_cons (pv 6) (pa_cons (pv 7) pa_nil)))))))))), ?_⟩
    have l24 := hL.len1
    have ri := hL.rise
    walk_at "w"
    refine ⟨zs, r, lo, hi, xs, y, e, rfl, hL, hF, mF, qs, qt, k0, k1, j0, j1, by omega, fun D H1 s1 FL => ?_⟩
    have len : ∀ l ∈ fitL zs xs y (e.getD (0, 1)), l.length ≤ 24 := fun l hl => Nat.le_trans (fitL_len l hl) l24
    have ll : (fitL zs xs y (e.getD (0, 1))).length ≤ 60 := by unfold fitL; rw [List.length_map]; exact lx
    walk_at "w"
    refine ⟨_, rfl, FL, by omega, len, fun o H2 s2 B => ?_⟩
    cases o with
    | some n =>
      refine ⟨_, rfl, rfl, _, rfl, ?_⟩
      rw [show (!decide (optI (some n) = V.non)) = true from rfl]
      refine iteT ?_
      walk_at "w"
      intro T nT
      exact kk T _ ((s1.trans s2).trans (same1 nT)) (.inl ⟨n, B, upd_same⟩)
    | none =>
      refine ⟨_, rfl, rfl, _, rfl, ?_⟩
      rw [show (!decide (optI none = V.non)) = false from rfl]
      refine iteF ?_
      have R : RunsI (fitL zs xs y (e.getD (0, 1))) := fun i hi => by
        have hl0 : (fitL zs xs y (e.getD (0, 1)))[i]? = some (fitL zs xs y (e.getD (0, 1)))[i] := List.getElem?_eq_getElem hi
        have ne := B _ (List.mem_of_getElem? hl0)
        refine ⟨by rw [getD_get hl0]; exact ne, ?_⟩
        exact runs_fitL hl0 ne
      walk_at "w"
      refine ⟨_, rfl, FL.same s2, ll, len, R, fun T S A ss as H3 s3 hT hS hA few => ?_⟩
      walk_at "w"
      intro T2 nT2
      have sx : Same H3 (upd H3 T2 (.tup [.str "stock", .ref S, .ref A])) := same1 nT2
      exact kk T2 _ (((s1.trans s2).trans s3).trans sx) (.inr ⟨B, S, A, ss, as, upd_same, sx _ _ hS, sx _ _ hA, few⟩)
theorem ok_all_below {P : Program} {w : World} {K : PySem.W.Frag} {mg : Str → Option Value} {base : Heap} {φ : Fds} (T : Txt K mg φ) : FnOk P w K mg base CX0 1 (He.fAd K ("all_below", none)) φ.all_below p_all_below (sp_abel K) := by
  refine T.f_all_below.ok sc_all_below (fun vs H Q E h => ?_) (fun cdv A outer s H vs Q E hr h => ?_)
  · obtain ⟨a, ns, n, rfl, hT, hn, kk⟩ := h; rfl
  · obtain ⟨a, ns, n, rfl, hT, hn, kk⟩ := h
    refine ⟨_, PSs.nox (pss_one (ps_ret (pe_callB (id := "all") (allK (K := K)) (by rfl) T.z_all (by decide +kernel) (pa_cons (pe_lc (own := [("number", 2)]) (g := gName 2) rfl sc_all_below.nd (pi_tup (pv 0)) (blkOk_by (own := [("number", 2)]) (N := N_all_below) (sc := (defScope s_all_below)) (by decide +kernel)) (fun _ _ _ _ _ => (pg_name (i := 2) sc_all_below.nd rfl (Or.inl rfl))) (fun _ _ _ _ _ => pts_nil) (fun _ _ _ _ _ => (pe_chain op_le op_lt pe_int (pv 2) (pv 1)))) pa_nil)))), ?_⟩
    walk_at "w"
    refine ⟨⟨_, hT⟩, fun D nD => ?_⟩
    refine lcz (n := (ns.map V.int).length) walk_tup (fun _ _ g s => s.sqt g) (ns.map fun z => some (V.bl (decide (0 ≤ z) && decide (z < n)))) (by rw [List.length_map, List.length_map]) (szs (by rw [List.length_map]; omega)) hT nD (fun i x H1 H2 o N M hi ho s1 yy hN hM => ?_) (fun H1 s1 hD => ?_)
    · obtain ⟨rfl, hx⟩ := yy
      rw [List.getElem?_map] at hx ho
      have hi2 : i < ns.length := by rw [List.length_map] at hi; exact hi
      rw [List.getElem?_eq_getElem hi2] at hx ho
      cases hx
      cases ho
      generalize ns[i] = z at hN
      refine ⟨rfl, yesT ?_⟩
      walk_at "w"
      refine ite2 (fun e => ?_) (fun e => ?_)
      · walk_at "w"
        refine hN _ _ ?_ (Same.refl _)
        show some (V.bl (decide (0 ≤ z) && decide (z < n))) = _
        rw [e]
        rfl
      · refine hN _ _ ?_ (Same.refl _)
        show some (V.bl (decide (0 ≤ z) && decide (z < n))) = _
        rw [eq_false_of_ne_true e]
        rfl
    have eD : (ns.map fun z => some (V.bl (decide (0 ≤ z) && decide (z < n)))).filterMap _root_.id = (ns.map fun z => decide (0 ≤ z) && decide (z < n)).map V.bl := by rw [List.filterMap_map, List.map_map]; rw [show (_root_.id ∘ fun z => some (V.bl (decide (0 ≤ z) && decide (z < n)))) = (some ∘ fun z => V.bl (decide (0 ≤ z) && decide (z < n))) from rfl, List.filterMap_eq_map]; rfl
    rw [eD] at hD
    refine ⟨D, _, rfl, SqL.of hD, ?_⟩
    have eA : (ns.map fun z => decide (0 ≤ z) && decide (z < n)).all _root_.id = belB ns n := by
      unfold belB
      rw [List.all_map]
      rfl
    rw [eA]
    exact kk _ s1
theorem ok_shares {P : Program} {w : World} {K : PySem.W.Frag} {mg : Str → Option Value} {base : Heap} {φ : Fds} (T : Txt K mg φ) : FnOk P w K mg base CX0 1 (He.fAd K ("shares", none)) φ.shares p_shares (sp_shares K) := by
  refine T.f_shares.ok sc_shares (fun vs H Q E h => ?_) (fun cdv A outer s H vs Q E hr h => ?_)
  · obtain ⟨a, b, xs, ys, rfl, hT, hU, hn, hm, kk⟩ := h; rfl
  · obtain ⟨a, b, xs, ys, rfl, hT, hU, hn, hm, kk⟩ := h
    refine ⟨_, PSs.nox (pss_one (ps_ret (pe_callB (id := "any") (anyK (K := K)) (by rfl) T.z_any (by decide +kernel) (pa_cons (pe_lc (own := [("size", 2)]) (g := gName 2) rfl sc_shares.nd (pi_tup (pv 0)) (blkOk_by (own := [("size", 2)]) (N := N_shares) (sc := (defScope s_shares)) (by decide +kernel)) (fun _ _ _ _ _ => (pg_name (i := 2) sc_shares.nd rfl (Or.inl rfl))) (fun _ _ _ _ _ => pts_nil) (fun _ _ _ _ _ => (pe_cmpR (inK (K := K)) (pv 2) (pv 1) (by rfl)))) pa_nil)))), ?_⟩
    walk_at "w"
    refine ⟨⟨_, hT⟩, fun D nD => ?_⟩
    refine lcz (n := (xs.map V.int).length) walk_tup (fun _ _ g s => s.sqt g) (xs.map fun z => some (V.bl (decide (z ∈ ys)))) (by rw [List.length_map, List.length_map]) (szs (by rw [List.length_map]; omega)) hT nD (fun i x H1 H2 o N M hi ho s1 yy hN hM => ?_) (fun H1 s1 hD => ?_)
    · obtain ⟨rfl, hx⟩ := yy
      rw [List.getElem?_map] at hx ho
      have hi2 : i < xs.length := by rw [List.length_map] at hi; exact hi
      rw [List.getElem?_eq_getElem hi2] at hx ho
      cases hx
      cases ho
      generalize xs[i] = z at hN
      refine ⟨rfl, yesT ?_⟩
      walk_at "w"
      all_goals (try refine ⟨.inr (s1.sqt hU), rfl, flat_ints ys, ?_⟩)
      refine hN _ _ ?_ (Same.refl _)
      show some (V.bl (decide (z ∈ ys))) = some (V.bl (inV (V.int z) (ys.map V.int)))
      rw [inV_ints]
    have eD : (xs.map fun z => some (V.bl (decide (z ∈ ys)))).filterMap _root_.id = (xs.map fun z => decide (z ∈ ys)).map V.bl := by rw [List.filterMap_map, List.map_map]; rw [show (_root_.id ∘ fun z => some (V.bl (decide (z ∈ ys)))) = (some ∘ fun z => V.bl (decide (z ∈ ys))) from rfl, List.filterMap_eq_map]; rfl
    rw [eD] at hD
    refine ⟨D, _, rfl, SqL.of hD, ?_⟩
    have eA : (xs.map fun z => decide (z ∈ ys)).any _root_.id = shrB xs ys := by
      unfold shrB
      rw [List.any_map]
      rfl
    rw [eA]
    exact kk _ s1
theorem ok_are_rising {P : Program} {w : World} {K : PySem.W.Frag} {mg : Str → Option Value} {base : Heap} {φ : Fds} (T : Txt K mg φ) : FnOk P w K mg base CX0 3 (He.fAd K ("are_rising", none)) φ.are_rising p_are_rising (sp_rising K) := by
  obtain ⟨_, B0v, B0⟩ := b_all_below_2 T
  obtain ⟨_, B1v, B1⟩ := b_are_wholes_1 T
  refine T.f_are_rising.ok sc_are_rising (fun vs H Q E h => ?_) (fun cdv A outer s H vs Q E hr h => ?_)
  · obtain ⟨a, ns, n, rfl, hT, hn, kk⟩ := h; rfl
  · obtain ⟨a, ns, n, rfl, hT, hn, kk⟩ := h
    refine ⟨_, PSs.nox (pss_cons (ps_if (PW.pt (pw_or (pt_not (pt_val (pe_call (ok_are_wholes (K := K) T) (hr.mono (by decide)) rfl T.g_are_wholes T.f_are_wholes.kp B1 B1v pass0 (pa_cons (pv 0) pa_nil)))) (pw_or1 (pt_not (pt_val (pe_call (ok_all_below (K := K) T) (hr.mono (by decide)) rfl T.g_all_below T.f_all_below.kp B0 B0v pass0 (pa_cons (pv 0) (pa_cons (pv 1) pa_nil))))))))
      (pss_one (ps_ret pe_bl))
      pss_nil)
      (pss_one (ps_ret (pe_callB (id := "all") (allK (K := K)) (by rfl) T.z_all (by decide +kernel) (pa_cons (pe_lc (own := [("at", 2)]) (g := gName 2) rfl sc_are_rising.nd (pi_range2 rfl T.z_range (pa_cons pe_int (pa_cons (pe_callB (id := "len") (lenS (K := K)) (by rfl) T.z_len PySem.boot_len (pa_cons (pv 0) pa_nil)) pa_nil))) (blkOk_by (own := [("at", 2)]) (N := N_are_rising) (sc := (defScope s_are_rising)) (by decide +kernel)) (fun _ _ _ _ _ => (pg_name (i := 2) sc_are_rising.nd rfl (Or.inl rfl))) (fun _ _ _ _ _ => pts_nil) (fun _ _ _ _ _ => (pe_cmpR op_lt (pe_ix (ixt (K := K)) (pv 0) (pe_op op_sub (pv 2) pe_int) (fun _ _ => rfl)) (pe_ix (ixt (K := K)) (pv 0) (pv 2) (fun _ _ => rfl)) (nomark _)))) pa_nil))))), ?_⟩
    walk_at "w"
    all_goals (try refine ⟨ns, rfl, hT, hn, fun H1 s1 => ?_⟩)
    walk_at "w"
    all_goals (try refine ⟨ns, n, rfl, s1.sqt hT, hn, fun H2 s2 => ?_⟩)
    walk_at "w"
    generalize eb : belB ns n = bb at kk ⊢
    cases bb
    · rw [if_pos (by rfl)]
      walk_at "w"
      exact kk _ (s1.trans s2)
    rw [if_neg (by decide)]
    walk_at "w"
    all_goals (try refine ⟨.inr ((s1.trans s2).sqt hT), ?_⟩)
    refine ⟨_, _, rfl, ⟨by decide, by decide, by omega, by rw [List.length_map]; omega⟩, fun D nD => ?_⟩
    have em : (((ns.map V.int).length : Int) - 1).toNat = ns.length - 1 := by rw [List.length_map]; omega
    rw [em]
    refine lcz (n := ns.length - 1) walk_range (fun _ _ _ _ => trivial) ((List.range (ns.length - 1)).map fun i => some (V.bl (decide (ns.getD i 0 < ns.getD (i + 1) 0)))) (by rw [List.length_map, List.length_range]) (szs (by omega)) trivial nD (fun i x H3 H4 o N M hi ho s3 yy hN hM => ?_) (fun H3 s3 hD => ?_)
    · obtain ⟨rfl, rfl⟩ := yy
      rw [List.getElem?_map, List.getElem?_range hi] at ho
      cases ho
      have hT3 := ((s1.trans s2).trans s3).sqt hT
      have e1 : (ns.map V.int)[i]? = some (V.int ns[i]) := by rw [List.getElem?_map, List.getElem?_eq_getElem (by omega)]; rfl
      have e2 : (ns.map V.int)[i + 1]? = some (V.int ns[i + 1]) := by rw [List.getElem?_map, List.getElem?_eq_getElem (by omega)]; rfl
      refine ⟨rfl, yesT ?_⟩
      refine ⟨_, rfl, _, rfl, _, _, rfl, rfl, a, _, _, _, rfl, rfl, hT3, atI_of (n := i) (by omega) e1, _, rfl, _, rfl, a, _, _, _, rfl, rfl, hT3, atI_of (n := i + 1) (by omega) e2, _, _, rfl, rfl, ?_⟩
      refine hN _ _ ?_ (Same.refl _)
      have g1 : ns.getD i 0 = ns[i] := getDI (List.getElem?_eq_getElem (by omega))
      have g2 : ns.getD (i + 1) 0 = ns[i + 1] := getDI (List.getElem?_eq_getElem (by omega))
      show some (V.bl (decide (ns.getD i 0 < ns.getD (i + 1) 0))) = _
      rw [g1, g2]
    rw [fmap_some] at hD
    refine ⟨D, (List.range (ns.length - 1)).map fun i => decide (ns.getD i 0 < ns.getD (i + 1) 0), rfl, SqL.of (by rw [hD, List.map_map]; rfl), ?_⟩
    rw [List.all_map]
    have eR := risB_at ns
    rw [show ((List.range (ns.length - 1)).all (_root_.id ∘ fun i => decide (ns.getD i 0 < ns.getD (i + 1) 0))) = risB ns from eR.symm]
    exact kk _ ((s1.trans s2).trans s3)
theorem ok_are_sizes {P : Program} {w : World} {K : PySem.W.Frag} {mg : Str → Option Value} {base : Heap} {φ : Fds} (T : Txt K mg φ) : FnOk P w K mg base CX0 4 (He.fAd K ("are_sizes", none)) φ.are_sizes p_are_sizes (sp_arsz K (He.ga K "Measure") (He.ga K "Ladder")) := by
  obtain ⟨_, B0v, B0⟩ := b_shares_2 T
  obtain ⟨_, B1v, B1⟩ := b_are_rising_2 T
  obtain ⟨_, B2v, B2⟩ := b_Ladder_len_1 T
  refine T.f_are_sizes.ok sc_are_sizes (fun vs H Q E h => ?_) (fun cdv A outer s H vs Q E hr h => ?_)
  · obtain ⟨A0, p, D, ns, ls, k, zs, r, lo, hi, rfl, hT, hL, hF, hn, hl, l24, kk⟩ := h; rfl
  · obtain ⟨A0, p, D, ns, ls, k, zs, r, lo, hi, rfl, hT, hL, hF, hn, hl, l24, kk⟩ := h
    refine ⟨_, PSs.nox (pss_one (ps_ret (pe_and (pe_call (ok_are_rising (K := K) T) (hr.mono (by decide)) rfl T.g_are_rising T.f_are_rising.kp B1 B1v pass0 (pa_cons (pv 0) (pa_cons (pe_callB (id := "len") (call_lenO (ok_Ladder_len (K := K) T) T.me_Ladder_len (bnil B2v B2) pass0 (hr.mono (by decide))) (by rfl) T.z_len PySem.boot_len (pa_cons (pv 1) pa_nil)) pa_nil))) (pe_one (pe_callB (id := "all") (allK (K := K)) (by rfl) T.z_all (by decide +kernel) (pa_cons (pe_lc (own := [("run", 3)]) (g := gName 3) rfl sc_are_sizes.nd (pi_list (pv 2)) (blkOk_by (own := [("run", 3)]) (N := N_are_sizes) (sc := (defScope s_are_sizes)) (by decide +kernel)) (fun _ _ _ _ _ => (pg_name (i := 3) sc_are_sizes.nd rfl (Or.inl rfl))) (fun _ _ _ _ _ => pts_nil) (fun _ _ _ _ _ => (pe_call (ok_shares (K := K) T) (hr.mono (by decide)) rfl T.g_shares T.f_shares.kp B0 B0v pass0 (pa_cons (pv 3) (pa_cons (pv 0) pa_nil))))) pa_nil)))))), ?_⟩
    have cl_Ladder := T.cl_Ladder
    have na_Ladder_marks := T.na_Ladder_marks
    have na_Ladder_rule := T.na_Ladder_rule
    have na_Ladder_least := T.na_Ladder_least
    have na_Ladder_most := T.na_Ladder_most
    
    have l1 := hL.len1
    have hL0 := hL
    obtain ⟨⟨dx, T', ps, l, h, hp, hT', _⟩, _⟩ := hL0
    walk_at "w"
    refine ⟨zs, r, lo, hi, rfl, hL, ?_⟩
    refine ⟨zs.length, rfl, by omega, ?_⟩
    refine ⟨A0, ns, (zs.length : Int), rfl, hT, hn, fun H1 s1 => ?_⟩
    walk_at "w"
    obtain ⟨ts, hD, lt, hts⟩ := (hF.same s1).ob
    cases eb : (belB ns (zs.length : Int) && risB ns) with
    | false =>
      refine iteF ?_
      have := kk _ s1
      unfold sizB at this
      rw [eb] at this
      exact this
    | true =>
      refine iteT ?_
      refine ⟨_, rfl, _, rfl, ⟨_, SqL.of hD⟩, fun D2 nD2 => ?_⟩
      have hT1 := s1.sqt hT
      refine lcz (n := ts.length) walk_list (fun _ _ g s => s.seq g) (ls.map fun l => some (V.bl (shrB l ns))) (by rw [List.length_map, lt]) (szs (by omega)) (SqL.of hD) nD2 (fun i x H3 H4 o N M hi ho s3 yy hN hM => ?_) (fun H3 s3 hD3 => ?_)
      · obtain ⟨rfl, hx⟩ := yy
        have hl0 : ls[i]? = some ls[i] := List.getElem?_eq_getElem (by omega)
        obtain ⟨T2, rfl, hT2⟩ := hts i x _ hx hl0
        rw [List.getElem?_map, hl0] at ho
        cases ho
        have := l24 _ (List.mem_of_getElem? hl0)
        refine ⟨rfl, yesT ?_⟩
        refine ⟨_, rfl, _, rfl, T2, A0, ls[i], ns, rfl, SqT.of (s3 _ _ hT2), s3.sqt hT1, by omega, hn, fun H5 s5 => ?_⟩
        exact hN _ _ rfl s5
      rw [fmap_some] at hD3
      refine ⟨D2, ls.map fun l => shrB l ns, rfl, SqL.of (by rw [hD3, List.map_map]; rfl), ?_⟩
      rw [List.all_map]
      have := kk _ (s1.trans s3)
      unfold sizB at this
      rw [eb, Bool.true_and] at this
      exact this
theorem ok_are_apart {P : Program} {w : World} {K : PySem.W.Frag} {mg : Str → Option Value} {base : Heap} {φ : Fds} (T : Txt K mg φ) : FnOk P w K mg base CX0 4 (He.fAd K ("are_apart", none)) φ.are_apart p_are_apart (sp_arap K) := by
  obtain ⟨_, B0v, B0⟩ := b_are_rising_2 T
  obtain ⟨_, B1v, B1⟩ := b_shares_2 T
  refine T.f_are_apart.ok sc_are_apart (fun vs H Q E h => ?_) (fun cdv A outer s H vs Q E hr h => ?_)
  · obtain ⟨A0, D, ns, ls, rfl, hT, hF, hn, hl, l24, kk⟩ := h; rfl
  · obtain ⟨A0, D, ns, ls, rfl, hT, hF, hn, hl, l24, kk⟩ := h
    refine ⟨_, PSs.nox (pss_cons (ps_if (pt_not (pt_val (pe_call (ok_are_rising (K := K) T) (hr.mono (by decide)) rfl T.g_are_rising T.f_are_rising.kp B0 B0v pass0 (pa_cons (pv 0) (pa_cons (pe_callB (id := "len") (lenS (K := K)) (by rfl) T.z_len PySem.boot_len (pa_cons (pv 1) pa_nil)) pa_nil)))))
      (pss_one (ps_ret pe_bl))
      pss_nil)
      (pss_one (ps_ret (pe_not (pe_callB (id := "any") (anyK (K := K)) (by rfl) T.z_any (by decide +kernel) (pa_cons (pe_lc2 (own := [("one", 2), ("other", 3)]) (g := gName 2) (g1 := gName 3) (vs1 := [3]) rfl sc_are_apart.nd (pi_tup (pv 0)) (blkOk_by (own := [("one", 2), ("other", 3)]) (N := N_are_apart) (sc := (defScope s_are_apart)) (by decide +kernel)) (by decide) (fun _ _ _ _ _ => (pg_name (i := 2) sc_are_apart.nd rfl (Or.inl rfl))) (fun _ _ _ _ _ => pts_nil) (fun _ _ _ _ _ => (pi_tupK (K := K) (pv 0))) (fun _ _ _ _ _ => (pg_name (i := 3) sc_are_apart.nd rfl (Or.inl rfl))) (fun _ _ _ _ _ => (pts_one (pt_cmpR op_lt (pv 2) (pv 3) (nomark _)))) (fun _ _ _ _ _ => (pe_call (ok_shares (K := K) T) (hr.mono (by decide)) rfl T.g_shares T.f_shares.kp B1 B1v pass0 (pa_cons (pe_ix (ixl (K := K)) (pv 1) (pv 2) (fun _ _ => rfl)) (pa_cons (pe_ix (ixl (K := K)) (pv 1) (pv 3) (fun _ _ => rfl)) pa_nil))))) pa_nil)))))), ?_⟩
    obtain ⟨ts, hD, lt, hts⟩ := hF.ob
    refine ⟨_, rfl, _, rfl, D, ts, rfl, .inl (SqL.of hD), ?_⟩
    walk_at "w"
    refine ⟨ns, (ls.length : Int), by rw [← lt]; rfl, hT, by omega, fun H1 s1 => ?_⟩
    refine ⟨_, rfl, ?_⟩
    cases eb : (belB ns (ls.length : Int) && risB ns) with
    | false =>
      refine iteT ?_
      walk_at "w"
      have := kk _ s1
      unfold aptB at this
      rw [eb] at this
      exact this
    | true =>
      refine iteF ?_
      have hT1 := s1.sqt hT
      have hD1 := s1 _ _ hD
      have lm : (ns.map V.int).length = ns.length := List.length_map ..
      have w1 : Walk _ ns.length _ _ := (by have := walk_tup (K := K) (a := A0) (xs := ns.map V.int); rwa [List.length_map] at this)
      have hts1 : ∀ (i : Nat) (v : V) (l : List Int), ts[i]? = some v → ls[i]? = some l → ∃ T, v = .ref T ∧ H1 T = some (.tup (l.map V.int)) := fun i v l e1 e2 => by
        obtain ⟨T, e, h⟩ := hts i v l e1 e2
        exact ⟨T, e, s1 _ _ h⟩
      have bel := (Bool.and_eq_true _ _ ▸ eb : belB ns (ls.length : Int) = true ∧ risB ns = true).1
      have inb : ∀ s ∈ ns, 0 ≤ s ∧ s < (ls.length : Int) := fun s hs => by
        unfold belB at bel
        rw [List.all_eq_true] at bel
        have := bel s hs
        rw [Bool.and_eq_true] at this
        exact ⟨of_decide_eq_true this.1, of_decide_eq_true this.2⟩
      have nz : ns.length * ns.length < sizeLine := Nat.lt_of_le_of_lt (Nat.mul_le_mul hn hn) (szs (Nat.le_of_ble_eq_true rfl))
      have w2 := w1
      refine ⟨_, rfl, _, rfl, ⟨_, hT1⟩, fun D2 nD2 => ?_⟩
      refine lc2z (n := ns.length) (m := ns.length) w1 (fun _ _ g s => s.sqt g) (fun i j => (aptZ ls ns i j).map V.bl) nz hT1 nD2 (fun i x H3 H4 NX hi s3 yy hin => ?_) (fun H3 s3 hD3 => ?_)
      · obtain ⟨rfl, hx⟩ := yy
        rw [List.getElem?_map, List.getElem?_eq_getElem hi] at hx
        cases hx
        refine ⟨rfl, yesT ?_⟩
        refine ⟨_, rfl, _, rfl, ⟨_, s3.sqt hT1⟩, ?_⟩
        refine hin _ _ _ _ _ (Same.refl _) w2 (fun _ s => s.sqt hT1) (fun j x H5 H6 N M hj s5 yy hN hM => ?_)
        obtain ⟨rfl, hx⟩ := yy
        rw [List.getElem?_map, List.getElem?_eq_getElem hj] at hx
        cases hx
        have ez : aptZ ls ns i j = if ns[i] < ns[j] then some (shrB (ls.getD (ns[i]).toNat []) (ls.getD (ns[j]).toNat [])) else none := by
          unfold aptZ
          rw [getDI (List.getElem?_eq_getElem hi), getDI (List.getElem?_eq_getElem hj)]
        have bi := inb _ (List.getElem_mem hi)
        have bj := inb _ (List.getElem_mem hj)
        have s15 := s5
        have hD5 := s15 _ _ hD1
        generalize ns[i] = zi at *
        generalize ns[j] = zj at *
        refine ⟨rfl, ?_⟩
        walk_at "w"
        refine ite2 (fun e => ?_) (fun e => ?_)
        · have lt' := of_decide_eq_true e
          rw [if_pos lt'] at ez
          have hla : ls[zi.toNat]? = some ls[zi.toNat] := List.getElem?_eq_getElem (by omega)
          have hlb : ls[zj.toNat]? = some ls[zj.toNat] := List.getElem?_eq_getElem (by omega)
          obtain ⟨Ta, ea, hTa⟩ := FitsL.at (D := D) lt hts1 hla
          obtain ⟨Tb, eb', hTb⟩ := FitsL.at (D := D) lt hts1 hlb
          have la := l24 _ (List.mem_of_getElem? hla)
          have lb := l24 _ (List.mem_of_getElem? hlb)
          rw [getDI hla, getDI hlb] at ez
          generalize ls[zi.toNat] = ra at *
          generalize ls[zj.toNat] = rb at *
          refine ⟨_, rfl, _, rfl, D, ts, _, _, rfl, rfl, SqL.of hD5, atI_of (n := zi.toNat) (by omega) ea, _, rfl, _, rfl, D, ts, _, _, rfl, rfl, SqL.of hD5, atI_of (n := zj.toNat) (by omega) eb', Ta, Tb, ra, rb, rfl, SqT.of (s15 _ _ hTa), SqT.of (s15 _ _ hTb), by omega, by omega, fun H7 s7 => ?_⟩
          exact hN _ _ (by show (aptZ ls ns i j).map V.bl = _; rw [ez]; rfl) s7
        · have nlt : ¬ zi < zj := fun q => e (decide_eq_true q)
          rw [if_neg nlt] at ez
          exact hM _ (by show (aptZ ls ns i j).map V.bl = _; rw [ez]; rfl) (Same.refl _)
      rw [anyP_tell] at hD3
      refine ⟨D2, anyP ls ns, rfl, SqL.of hD3, _, rfl, ?_⟩
      have := kk _ (s1.trans s3)
      unfold aptB at this
      rw [eb, Bool.true_and] at this
      exact this
theorem ok_shows_stock {P : Program} {w : World} {K : PySem.W.Frag} {mg : Str → Option Value} {base : Heap} {φ : Fds} (T : Txt K mg φ) : FnOk P w K mg base CX0 7 (He.fAd K ("shows_stock", none)) φ.shows_stock p_shows_stock (sp_shst K (He.ga K "Measure") (He.ga K "Ladder")) := by
  obtain ⟨_, B0v, B0⟩ := b_fitting_of_4 T
  obtain ⟨_, B1v, B1⟩ := b_first_bare_1 T
  obtain ⟨_, B2v, B2⟩ := b_is_number_2 T
  obtain ⟨_, B3v, B3⟩ := b_is_word_2 T
  obtain ⟨_, B4v, B4⟩ := b_is_tuple_of_2 T
  obtain ⟨_, B5v, B5⟩ := b_are_apart_2 T
  obtain ⟨_, B6v, B6⟩ := b_are_sizes_3 T
  refine T.f_shows_stock.ok sc_shows_stock (fun vs H Q E h => ?_) (fun cdv A outer s H vs Q E hr h => ?_)
  · obtain ⟨p, F, s', T', t, k, j, fs, zs, r, lo, hi, xs, y, e, o, th, rfl, hL, hF, mF, qs, qt, k0, k1, j0, j1, lx, hT, hB, kk⟩ := h; rfl
  · obtain ⟨p, F, s', T', t, k, j, fs, zs, r, lo, hi, xs, y, e, o, th, rfl, hL, hF, mF, qs, qt, k0, k1, j0, j1, lx, hT, hB, kk⟩ := h
    refine ⟨_, PSs.nox (pss_cons (ps_set (i := 5) sc_shows_stock.nd rfl (Or.inl rfl) (pe_call (ok_fitting_of (K := K) T) (hr.mono (by decide)) rfl T.g_fitting_of T.f_fitting_of.kp B0 B0v pass0 (pa_cons (pv 0) (pa_cons (pv 1) (pa_cons (pv 2) (pa_cons (pv 3) pa_nil))))))
      (pss_cons (ps_set (i := 6) sc_shows_stock.nd rfl (Or.inl rfl) (pe_call (ok_first_bare (K := K) T) (hr.mono (by decide)) rfl T.g_first_bare T.f_first_bare.kp B1 B1v pass0 (pa_cons (pv 5) pa_nil)))
      (pss_cons (ps_if (pt_cmpR op_notN (pv 6) pe_non (nomark _))
      (pss_one (ps_ret (pe_and (pe_call (ok_is_tuple_of (K := K) T) (hr.mono (by decide)) rfl T.g_is_tuple_of T.f_is_tuple_of.kp B4 B4v pass0 (pa_cons (pv 4) (pa_cons pe_int pa_nil))) (pe_and (pe_call (ok_is_word (K := K) T) (hr.mono (by decide)) rfl T.g_is_word T.f_is_word.kp B3 B3v pass0 (pa_cons (pe_ix (ixt (K := K)) (pv 4) pe_int (fun _ _ => rfl)) (pa_cons pe_str pa_nil))) (pe_one (pe_call (ok_is_number (K := K) T) (hr.mono (by decide)) rfl T.g_is_number T.f_is_number.kp B2 B2v pass0 (pa_cons (pe_ix (ixt (K := K)) (pv 4) pe_int (fun _ _ => rfl)) (pa_cons (pv 6) pa_nil))))))))
      pss_nil)
      (pss_cons (ps_if (PW.pt (pw_or (pt_not (pt_val (pe_call (ok_is_tuple_of (K := K) T) (hr.mono (by decide)) rfl T.g_is_tuple_of T.f_is_tuple_of.kp B4 B4v pass0 (pa_cons (pv 4) (pa_cons pe_int pa_nil))))) (pw_or1 (pt_not (pt_val (pe_call (ok_is_word (K := K) T) (hr.mono (by decide)) rfl T.g_is_word T.f_is_word.kp B3 B3v pass0 (pa_cons (pe_ix (ixt (K := K)) (pv 4) pe_int (fun _ _ => rfl)) (pa_cons pe_str pa_nil))))))))
      (pss_one (ps_ret pe_bl))
      pss_nil)
      (pss_cons (ps_asg (pv 4) (pg_tup rfl (pgs_cons (pg_name (i := 7) sc_shows_stock.nd rfl (Or.inl rfl)) (pgs_cons (pg_name (i := 8) sc_shows_stock.nd rfl (Or.inl rfl)) (pgs_cons (pg_name (i := 9) sc_shows_stock.nd rfl (Or.inl rfl)) pgs_nil)))))
      (pss_one (ps_ret (pe_and (pe_call (ok_are_sizes (K := K) T) (hr.mono (by decide)) rfl T.g_are_sizes T.f_are_sizes.kp B6 B6v pass0 (pa_cons (pv 8) (pa_cons (pv 0) (pa_cons (pv 5) pa_nil)))) (pe_and (pe_call (ok_are_apart (K := K) T) (hr.mono (by decide)) rfl T.g_are_apart T.f_are_apart.kp B5 B5v pass0 (pa_cons (pv 9) (pa_cons (pv 5) pa_nil))) (pe_one (pe_cmpR op_eq (pe_callB (id := "len") (lenS (K := K)) (by rfl) T.z_len PySem.boot_len (pa_cons (pv 8) pa_nil)) (pe_callB (id := "len") (lenS (K := K)) (by rfl) T.z_len PySem.boot_len (pa_cons (pv 9) pa_nil)) (nomark _)))))))))))), ?_⟩
    have l24 := hL.len1
    walk_at "w"
    refine ⟨zs, r, lo, hi, xs, y, e, rfl, hL, hF, mF, qs, qt, k0, k1, j0, j1, by omega, fun D H1 s1 FL => ?_⟩
    have len : ∀ l ∈ fitL zs xs y (e.getD (0, 1)), l.length ≤ 24 := fun l hl => Nat.le_trans (fitL_len l hl) l24
    have ll : (fitL zs xs y (e.getD (0, 1))).length ≤ 60 := by unfold fitL; rw [List.length_map]; exact lx
    walk_at "w"
    refine ⟨_, rfl, FL, by omega, len, fun o' H2 s2 B => ?_⟩
    have eo := BareAt.uniq B hB
    subst eo
    have s12 := s1.trans s2
    replace hT := hT.same s12
    have hL2 := hL.same s12
    have FL2 := FL.same s2
    replace kk := fun H' s' => kk H' (s12.trans s')
    generalize fitL zs xs y (e.getD (0, 1)) = ls at *
    clear FL mF qs qt hF hL s1 s2 s12
    cases o' with
    | some m =>
      refine ⟨_, rfl, rfl, _, rfl, ?_⟩
      rw [show (!decide (optI (some m) = V.non)) = true from rfl]
      refine iteT ?_
      rcases th with n | q
      · have hT : H2 T' = some (.tup [.str "never", .int (n : Int)]) := hT
        refine ⟨_, rfl, T', _, _, rfl, SqT.of hT, ?_⟩
        rw [show decide (([V.str "never", V.int (n : Int)].length : Int) = 2) = true from rfl]
        refine ⟨_, rfl, iteT ?_⟩
        refine ⟨_, rfl, T', _, _, _, rfl, rfl, SqT.of hT, atI_of (n := 0) rfl rfl, "never", "never", rfl, ?_⟩
        rw [decide_eq_true rfl]
        refine ⟨_, rfl, iteT ?_⟩
        refine ⟨_, rfl, T', _, _, _, rfl, rfl, SqT.of hT, atI_of (n := 1) rfl rfl, _, rfl, (n : Int), (m : Int), rfl, ?_⟩
        rw [show decide ((n : Int) = (m : Int)) = decide (m = n) from decide_eq_decide.mpr ⟨fun h => by omega, fun h => by omega⟩]
        exact kk _ (Same.refl _)
      · obtain ⟨S, A, hT, hS, hA, l1, l2⟩ := hT
        refine ⟨_, rfl, T', _, _, rfl, SqT.of hT, ?_⟩
        rw [show decide (([V.str "stock", V.ref S, V.ref A].length : Int) = 2) = false from rfl]
        walk_at "w"
        exact kk _ (Same.refl _)
    | none =>
      refine ⟨_, rfl, rfl, _, rfl, ?_⟩
      rw [show (!decide (optI none = V.non)) = false from rfl]
      refine iteF ?_
      rcases th with n | q
      · have hT : H2 T' = some (.tup [.str "never", .int (n : Int)]) := hT
        refine ⟨_, rfl, T', _, _, rfl, SqT.of hT, ?_⟩
        rw [show decide (([V.str "never", V.int (n : Int)].length : Int) = 3) = false from rfl]
        walk_at "w"
        exact kk _ (Same.refl _)
      · obtain ⟨S, A, hT, hS, hA, l1, l2⟩ := hT
        refine ⟨_, rfl, T', _, _, rfl, SqT.of hT, ?_⟩
        rw [show decide (([V.str "stock", V.ref S, V.ref A].length : Int) = 3) = true from rfl]
        refine ⟨_, rfl, iteF ?_⟩
        refine ⟨_, rfl, T', _, _, _, rfl, rfl, SqT.of hT, atI_of (n := 0) rfl rfl, "stock", "stock", rfl, ?_⟩
        rw [decide_eq_true rfl]
        refine ⟨_, rfl, iteF ?_⟩
        refine ⟨_, rfl, T', _, rfl, SqT.of hT, rfl, _, _, rfl, _, _, rfl, _, _, rfl, rfl, ?_⟩
        have lls : ls.length ≤ 900 := by omega
        refine ⟨_, rfl, _, rfl, _, rfl, S, p, D, q.1, ls, k, zs, r, lo, hi, rfl, SqT.of hS, hL2, FL2, by omega, lls, len, fun H3 s3 => ?_⟩
        have hS3 := s3 _ _ hS
        have hA3 := s3 _ _ hA
        replace kk : ∀ H', Same H2 H' → Q (.bl (sizB zs.length ls q.1 && aptB ls q.2 && decide (q.1.length = q.2.length))) H' := kk
        cases e1 : sizB zs.length ls q.1 with
        | false =>
          refine ⟨_, rfl, iteF ?_⟩
          have := kk _ s3
          rw [e1] at this
          exact this
        | true =>
        refine ⟨_, rfl, iteT ?_⟩
        refine ⟨_, rfl, _, rfl, A, D, q.2, ls, rfl, SqT.of hA3, FL2.same s3, l2, lls, len, fun H4 s4 => ?_⟩
        cases e2 : aptB ls q.2 with
        | false =>
          refine ⟨_, rfl, iteF ?_⟩
          have := kk _ (s3.trans s4)
          rw [e1, e2] at this
          exact this
        | true =>
        refine ⟨_, rfl, iteT ?_⟩
        have := kk _ (s3.trans s4)
        rw [e1, e2] at this
        have hS4 := s4 _ _ hS3
        have hA4 := s4 _ _ hA3
        have lm1 : (q.1.map V.int).length = q.1.length := List.length_map ..
        have lm2 : (q.2.map V.int).length = q.2.length := List.length_map ..
        refine ⟨_, rfl, S, _, rfl, .inr (SqT.of hS4), _, rfl, A, _, rfl, .inr (SqT.of hA4), ?_⟩
        refine ⟨rfl, ?_⟩
        rw [lm1, lm2]
        rw [show decide (V.int (q.1.length : Int) = V.int (q.2.length : Int)) = decide (q.1.length = q.2.length) from decide_eq_decide.mpr ⟨fun h => by have := V.int.inj h; omega, fun h => by rw [h]⟩]
        exact this
theorem ok_l_lots {P : Program} {w : World} {K : PySem.W.Frag} {mg : Str → Option Value} {base : Heap} {φ : Fds} (T : Txt K mg φ) : FnOk P w K mg base CX0 1 (He.fAd K ("_law_lots", none)) φ.l_lots p_l_lots sp_lots73 := by
  refine T.f_l_lots.ok sc_l_lots (fun vs H Q E h => ?_) (fun cdv A outer s H vs Q E hr h => ?_)
  · obtain ⟨n, rfl, n6, kk⟩ := h; rfl
  · obtain ⟨n, rfl, n6, kk⟩ := h
    refine ⟨_, PSs.nox (pss_cons (ps_set (i := 1) sc_l_lots.nd rfl (Or.inl rfl) (pe_lst (pa_cons (pe_tup pa_nil) pa_nil)))
      (pss_cons (ps_for PassesOwn.never rfl (pi_range1 rfl T.z_range (pa_cons (pv 0) pa_nil)) (pg_name (i := 2) sc_l_lots.nd rfl (Or.inr rfl))
      (pss_one (ps_set (i := 1) sc_l_lots.nd rfl (Or.inl rfl) (pe_op op_cat (pv 1) (pe_lc (own := [("_law_lot", 3)]) (g := gName 3) rfl sc_l_lots.nd (pi_list (pv 1)) (blkOk_by (own := [("_law_lot", 3)]) (N := N_l_lots) (sc := (defScope s_l_lots)) (by decide +kernel)) (fun _ _ _ _ _ => (pg_name (i := 3) sc_l_lots.nd rfl (Or.inl rfl))) (fun _ _ _ _ _ => pts_nil) (fun _ _ _ _ _ => (pe_op catH (pv 3) (pe_tup (pa_cons (pv 2) pa_nil)))))))))
      (pss_one (ps_ret (pe_sortedLen rfl rfl (by rfl) T.z_sorted (by rfl) T.z_len (pa_cons (pv 1) pa_nil) (by decide +kernel) (by decide +kernel)))))), ?_⟩
    walk_at "w"
    intro p0 np0
    walk_at "w"
    intro L0 nL0
    have s0 : Same H (upd (upd H p0 (.tup [])) L0 (.lst [.ref p0])) := (same1 np0 : Same H _).up nL0
    have F0 : FitsL (upd (upd H p0 (.tup [])) L0 (.lst [.ref p0])) L0 (lotsL 0) := ⟨[.ref p0], upd_same, rfl, fun i v l e1 e2 => by
      cases i with
      | zero => cases e1; cases e2; exact ⟨p0, rfl, up1 nL0 upd_same⟩
      | succ i => simp at e1⟩
    generalize upd (upd H p0 (.tup [])) L0 (.lst [.ref p0]) = H1 at *
    walk_at "w"
    refine for_range (fun i σ H' => (∃ L v, σ = [some (.int (n : Int)), some (.ref L), v, none] ∧ FitsL H' L (lotsL i)) ∧ Same H H') ⟨⟨_, _, rfl, F0⟩, s0⟩ ?_ ?_
    · rintro i σ H2 hi ⟨⟨L, v, rfl, FL⟩, s2⟩
      have hi6 : i < 6 := by omega
      obtain ⟨ts, hL, lt, hts⟩ := FL.ob
      have ll := lots_len i
      have p6 : 2 ^ i ≤ 64 := Nat.pow_le_pow_right (by decide) (show i ≤ 6 by omega)
      refine ⟨_, rfl, _, rfl, L, rfl, ⟨_, SqL.of hL⟩, fun D nD => ?_⟩
      refine lcr (n := ts.length) walk_list (fun _ _ g s => s.seq g) (fun j H v => ∃ T l, v = .ref T ∧ (lotsL i)[j]? = some l ∧ H T = some (.tup ((l ++ [(i : Int)]).map V.int))) (fun j H H' v ⟨T, l, e1, e2, e3⟩ n => ⟨T, l, e1, e2, n _ _ e3 rfl⟩) (szs (by omega)) (SqL.of hL) nD (fun j x H3 H4 N M hj s3 yy hN => ?_) (fun H3 ys s3 hD ly hy => ?_)
      · obtain ⟨rfl, hx⟩ := yy
        have hl0 : (lotsL i)[j]? = some (lotsL i)[j] := List.getElem?_eq_getElem (by omega)
        obtain ⟨T, rfl, hT⟩ := hts j x _ hx hl0
        replace hT := s3 _ _ hT
        have lm := lots_mem i _ (List.mem_of_getElem? hl0)
        refine ⟨rfl, yesT ?_⟩
        walk_at "w"
        intro p np
        have hT2 := up1 (u := .tup [.int (0 + (i : Int))]) np hT
        refine ⟨T, p, _, _, rfl, rfl, hT2, upd_same, szl (by rw [List.length_map]; show _ + 1 ≤ 1000; omega), fun p2 H5 s5 h5 => ?_⟩
        refine hN _ _ ((same1 np).trans s5) ⟨p2, _, rfl, hl0, ?_⟩
        rw [h5, List.map_append, Int.zero_add]
        rfl
      have hL3 := s3 _ _ hL
      walk_at "w"
      intro L2' nL2
      have sN : Same H3 (upd H3 L2' (.lst (ts ++ ys))) := same1 nL2
      refine ⟨⟨L2', _, rfl, ?_⟩, (s2.trans s3).trans sN⟩
      refine FitsL.app upd_same lt (by rw [List.length_map]; omega) (fun i v l e1 e2 => ?_) fun j v l e1 e2 => ?_
      · obtain ⟨T, e, h⟩ := hts i v l e1 e2
        exact ⟨T, e, (s3.trans sN) _ _ h⟩
      · obtain ⟨T, l', e, h1, h2⟩ := hy j v e1
        rw [List.getElem?_map, h1] at e2
        cases e2
        exact ⟨T, e, sN _ _ h2⟩
    · rintro σ H2 ⟨⟨L, v, rfl, FL⟩, s2⟩
      have FL : FitsL H2 L (lotsL n) := FL
      obtain ⟨ts, hL, lt, hts⟩ := FL.ob
      have ll := lots_len n
      have em : ts.map (lotO H2) = lotsL n := by
        refine List.ext_getElem? fun i => ?_
        rw [List.getElem?_map]
        by_cases hi : i < ts.length
        · have e1 : ts[i]? = some ts[i] := List.getElem?_eq_getElem hi
          have e2 : (lotsL n)[i]? = some (lotsL n)[i] := List.getElem?_eq_getElem (by omega)
          obtain ⟨t, et, ht⟩ := hts i _ _ e1 e2
          rw [e1, e2, et]
          exact congrArg some (lotO_eq ht)
        · rw [List.getElem?_eq_none (by omega), List.getElem?_eq_none (by omega)]
          rfl
      have pk : ∀ x ∈ ts, ∃ (t : Addr) (l : List Int), x = V.ref t ∧ H2 t = some (.tup (l.map V.int)) := fun x hx => by
        obtain ⟨i, e1⟩ := List.mem_iff_getElem?.mp hx
        have hi := (List.getElem?_eq_some_iff.mp e1).1
        obtain ⟨t, et, ht⟩ := hts i _ _ e1 (List.getElem?_eq_getElem (by omega))
        exact ⟨t, _, et, ht⟩
      refine ⟨_, rfl, L, ts, fun v => ((lotO H2 v).length : Int), rfl, SqL.of hL, fun x hx => ?_, fun ws W hp hs nW => ?_⟩
      · obtain ⟨t, l, rfl, ht⟩ := pk x hx
        exact ⟨t, _, rfl, ht, by show ((lotO H2 (.ref t)).length : Int) = _; rw [lotO_eq ht, List.length_map]⟩
      have sW : Same H2 (upd H2 W (.lst ws)) := same1 nW
      refine kk W (ws.map (lotO H2)) _ (s2.trans sW) ⟨ws, upd_same, (List.length_map ..).symm, fun i v l e1 e2 => ?_⟩ (em ▸ hp.map _) ?_
      · obtain ⟨t, l', rfl, ht⟩ := pk v (hp.mem_iff.mp (List.mem_of_getElem? e1))
        rw [List.getElem?_map, e1] at e2
        cases e2
        rw [lotO_eq ht]
        exact ⟨t, rfl, sW _ _ ht⟩
      · rw [List.pairwise_map]
        exact hs.imp fun h => Int.ofNat_le.mp h
theorem ok_l_stock_right {P : Program} {w : World} {K : PySem.W.Frag} {mg : Str → Option Value} {base : Heap} {φ : Fds} (T : Txt K mg φ) : FnOk P w K mg base CX0 8 (He.fAd K ("_law_stock_right", none)) φ.l_stock_right p_l_stock_right (sp_stockr K (He.ga K "Measure") (He.ga K "Ladder")) := by
  obtain ⟨_, B0v, B0⟩ := b_fits_3 T
  obtain ⟨_, B1v, B1⟩ := b_shows_stock_5 T
  obtain ⟨_, B2v, B2⟩ := b_l_lots_1 T
  obtain ⟨_, B3v, B3⟩ := b_Ladder_len_1 T
  refine T.f_l_stock_right.ok sc_l_stock_right (fun vs H Q E h => ?_) (fun cdv A outer s H vs Q E hr h => ?_)
  · obtain ⟨p, F, s', T', k, j, fs, zs, r, lo, hi, xs, y, o, rfl, hL, hF, mF, qs, k0, k1, j0, j1, lx, lz, x0, hB, hT, kk⟩ := h; rfl
  · obtain ⟨p, F, s', T', k, j, fs, zs, r, lo, hi, xs, y, o, rfl, hL, hF, mF, qs, k0, k1, j0, j1, lx, lz, x0, hB, hT, kk⟩ := h
    refine ⟨_, PSs.nox (pss_cons (ps_cut (ps_set (i := 4) sc_l_stock_right.nd rfl (Or.inr rfl) (pe_lc (own := [("_law_one", 6)]) (g := gName 6) rfl sc_l_stock_right.nd (pi_tup (pv 1)) (blkOk_by (own := [("_law_one", 6)]) (N := N_l_stock_right) (sc := (defScope s_l_stock_right)) (by decide +kernel)) (fun _ _ _ _ _ => (pg_name (i := 6) sc_l_stock_right.nd rfl (Or.inl rfl))) (fun _ _ _ _ _ => pts_nil) (fun _ _ _ _ _ => (pe_call (ok_fits (K := K) T) (hr.mono (by decide)) rfl T.g_fits T.f_fits.kp B0 B0v pass0 (pa_cons (pv 0) (pa_cons (pv 6) (pa_cons (pv 2) pa_nil))))))))
      (pss_cons (ps_cut (ps_if (pt_cmpR (inDK (K := K) (rm65 hr)) (pe_tup pa_nil) (pv 4) (by rfl))
      (pss_one (ps_ret (pe_and (pe_cmpR (eqDK (K := K) hr.units) (pv 3) (pe_tup (pa_cons pe_str (pa_cons (pe_bm PySem.F.plainAttrs_list PySem.F.slot_list_index PySem.F.type_list_index (indexDK (K := K) (rm65 hr)) (pv 4) (pa_cons (pe_tup pa_nil) pa_nil)) pa_nil))) (nomark _)) (pe_one (pe_cmpR op_isBl (pe_call (ok_shows_stock (K := K) T) (hr.mono (by decide)) rfl T.g_shows_stock T.f_shows_stock.kp B1 B1v pass0 (pa_cons (pv 0) (pa_cons (pv 1) (pa_cons (pv 2) (pa_cons pe_non (pa_cons (pv 3) pa_nil)))))) pe_bl (nomark _))))))
      pss_nil))
      (pss_cons (ps_cut (ps_if (PW.pt (pw_or (pt_cmpR op_ne (pe_ix (ixt (K := K)) (pv 3) pe_int (fun _ _ => rfl)) pe_str (nomark _)) (pw_or1 (pt_cmpR op_notBl (pe_call (ok_shows_stock (K := K) T) (hr.mono (by decide)) rfl T.g_shows_stock T.f_shows_stock.kp B1 B1v pass0 (pa_cons (pv 0) (pa_cons (pv 1) (pa_cons (pv 2) (pa_cons pe_non (pa_cons (pv 3) pa_nil)))))) pe_bl (nomark _)))))
      (pss_one (ps_ret pe_bl))
      pss_nil))
      (pss_cons (ps_cut (ps_for PassesOwn.never rfl (pi_list (pe_call (ok_l_lots (K := K) T) (hr.mono (by decide)) rfl T.g_l_lots T.f_l_lots.kp B2 B2v pass0 (pa_cons (pe_callB (id := "len") (call_lenO (ok_Ladder_len (K := K) T) T.me_Ladder_len (bnil B3v B3) pass0 (hr.mono (by decide))) (by rfl) T.z_len PySem.boot_len (pa_cons (pv 0) pa_nil)) pa_nil))) (pg_name (i := 5) sc_l_stock_right.nd rfl (Or.inr rfl))
      (pss_one (ps_if (pt_val (pe_callB (id := "all") (allK (K := K)) (by rfl) T.z_all (by decide +kernel) (pa_cons (pe_lcD (s0 := s) (H0 := H) (own := [("_law_run", 8)]) (g := gName 8) rfl sc_l_stock_right.nd (pi_list (pv 4)) (blkOk_by (own := [("_law_run", 8)]) (N := N_l_stock_right) (sc := (defScope s_l_stock_right)) (by decide +kernel)) pts_nil (pe_callB (id := "any") (anyK (K := K)) (by rfl) T.z_any (by decide +kernel) (pa_cons (pe_lc (own := [("_law_size", 9)]) (g := gName 9) rfl sc_l_stock_right.nd (pi_tupK (K := K) (pv 5)) (blkOk_by (own := [("_law_size", 9)]) (N := N_l_stock_right) (sc := (relS _ (defScope s_l_stock_right))) (by decide +kernel)) (fun _ _ _ _ _ => (pg_name (i := 9) sc_l_stock_right.nd rfl (Or.inl rfl))) (fun _ _ _ _ _ => pts_nil) (fun _ _ _ _ _ => (pe_cmpR (inK (K := K)) (pv 9) (pv 8) (by rfl)))) pa_nil)) (fun _ _ _ _ _ => (pg_name (i := 8) sc_l_stock_right.nd rfl (Or.inr rfl))) (fun _ _ _ _ _ => pts_nil) (fun _ _ _ _ _ => (pe_callB (id := "any") (anyK (K := K)) (by rfl) T.z_any (by decide +kernel) (pa_cons (pe_lc (own := [("_law_size", 9)]) (g := gName 9) rfl sc_l_stock_right.nd (pi_tupK (K := K) (pv 5)) (blkOk_by (own := [("_law_size", 9)]) (N := N_l_stock_right) (sc := (relS _ (defScope s_l_stock_right))) (by decide +kernel)) (fun _ _ _ _ _ => (pg_name (i := 9) sc_l_stock_right.nd rfl (Or.inl rfl))) (fun _ _ _ _ _ => pts_nil) (fun _ _ _ _ _ => (pe_cmpR (inK (K := K)) (pv 9) (pv 8) (by rfl)))) pa_nil)))) pa_nil)))
      (pss_cons (ps_if (pt_cmpR op_ne (pe_callB (id := "len") (lenS (K := K)) (by rfl) T.z_len PySem.boot_len (pa_cons (pv 5) pa_nil)) (pe_callB (id := "len") (lenS (K := K)) (by rfl) T.z_len PySem.boot_len (pa_cons (pe_ix (ixt (K := K)) (pv 3) pe_int (fun _ _ => rfl)) pa_nil)) (nomark _))
      (pss_one (ps_ret pe_bl))
      pss_nil)
      (pss_one ps_break))
      pss_nil))))
      (pss_cons (ps_cut (ps_for PassesOwn.never rfl (pi_tup (pe_ix (ixt (K := K)) (pv 3) pe_int (fun _ _ => rfl))) (pg_name (i := 6) sc_l_stock_right.nd rfl (Or.inr rfl))
      (pss_one (ps_if (pt_cmpR (neDK (K := K) hr.units) (pe_lcD (s0 := s) (H0 := H) (own := [("_law_other", 10)]) (g := gName 10) rfl sc_l_stock_right.nd (pi_tup (pe_ix (ixt (K := K)) (pv 3) pe_int (fun _ _ => rfl))) (blkOk_by (own := [("_law_other", 10)]) (N := N_l_stock_right) (sc := (defScope s_l_stock_right)) (by decide +kernel)) (pts_one (PW.pt (pw_and (pt_cmpR op_lt (pv 10) (pv 6) (nomark _)) (pw_and1 (pt_val (pe_callB (id := "any") (anyK (K := K)) (by rfl) T.z_any (by decide +kernel) (pa_cons (pe_lc (own := [("_law_size", 9)]) (g := gName 9) rfl sc_l_stock_right.nd (pi_tupK (K := K) (pe_ix (ixl (K := K)) (pv 4) (pv 6) (fun _ _ => rfl))) (blkOk_by (own := [("_law_size", 9)]) (N := N_l_stock_right) (sc := (relS _ (defScope s_l_stock_right))) (by decide +kernel)) (fun _ _ _ _ _ => (pg_name (i := 9) sc_l_stock_right.nd rfl (Or.inl rfl))) (fun _ _ _ _ _ => pts_nil) (fun _ _ _ _ _ => (pe_cmpR (inK (K := K)) (pv 9) (pe_ix (ixl (K := K)) (pv 4) (pv 10) (fun _ _ => rfl)) (by rfl)))) pa_nil))))))) (pv 10) (fun _ _ _ _ _ => (pg_name (i := 10) sc_l_stock_right.nd rfl (Or.inr rfl))) (fun _ _ _ _ _ => (pts_one (PW.pt (pw_and (pt_cmpR op_lt (pv 10) (pv 6) (nomark _)) (pw_and1 (pt_val (pe_callB (id := "any") (anyK (K := K)) (by rfl) T.z_any (by decide +kernel) (pa_cons (pe_lc (own := [("_law_size", 9)]) (g := gName 9) rfl sc_l_stock_right.nd (pi_tupK (K := K) (pe_ix (ixl (K := K)) (pv 4) (pv 6) (fun _ _ => rfl))) (blkOk_by (own := [("_law_size", 9)]) (N := N_l_stock_right) (sc := (relS _ (defScope s_l_stock_right))) (by decide +kernel)) (fun _ _ _ _ _ => (pg_name (i := 9) sc_l_stock_right.nd rfl (Or.inl rfl))) (fun _ _ _ _ _ => pts_nil) (fun _ _ _ _ _ => (pe_cmpR (inK (K := K)) (pv 9) (pe_ix (ixl (K := K)) (pv 4) (pv 10) (fun _ _ => rfl)) (by rfl)))) pa_nil)))))))) (fun _ _ _ _ _ => (pv 10))) (pe_lst pa_nil) (nomark _))
      (pss_one (ps_ret pe_bl))
      pss_nil))))
      (pss_cons (ps_cut (ps_set (i := 7) sc_l_stock_right.nd rfl (Or.inl rfl) (pe_tupRg rfl (by rfl) T.z_tuple (prg_1 (by rfl) T.z_range (pe_callB (id := "len") (call_lenO (ok_Ladder_len (K := K) T) T.me_Ladder_len (bnil B3v B3) pass0 (hr.mono (by decide))) (by rfl) T.z_len PySem.boot_len (pa_cons (pv 0) pa_nil))))))
      (pss_cons (ps_cut (ps_if (pt_cmpR op_ne (pe_call (ok_shows_stock (K := K) T) (hr.mono (by decide)) rfl T.g_shows_stock T.f_shows_stock.kp B1 B1v pass0 (pa_cons (pv 0) (pa_cons (pv 1) (pa_cons (pv 2) (pa_cons pe_non (pa_cons (pe_tup (pa_cons (pe_ix (ixt (K := K)) (pv 3) pe_int (fun _ _ => rfl)) (pa_cons (pv 7) (pa_cons (pe_ix (ixt (K := K)) (pv 3) pe_int (fun _ _ => rfl)) pa_nil)))) pa_nil)))))) (pe_cmpR op_eq (pe_callB (id := "len") (lenS (K := K)) (by rfl) T.z_len PySem.boot_len (pa_cons (pv 7) pa_nil)) (pe_callB (id := "len") (lenS (K := K)) (by rfl) T.z_len PySem.boot_len (pa_cons (pe_ix (ixt (K := K)) (pv 3) pe_int (fun _ _ => rfl)) pa_nil)) (nomark _)) (nomark _))
      (pss_one (ps_ret pe_bl))
      pss_nil))
      (pss_one (ps_ret (pe_cmpR op_isBl (pe_call (ok_shows_stock (K := K) T) (hr.mono (by decide)) rfl T.g_shows_stock T.f_shows_stock.kp B1 B1v pass0 (pa_cons (pv 0) (pa_cons (pv 1) (pa_cons (pv 2) (pa_cons pe_non (pa_cons (pe_tup (pa_cons (pe_ix (ixt (K := K)) (pv 3) pe_int (fun _ _ => rfl)) (pa_cons (pe_slice slH (pe_ix (ixt (K := K)) (pv 3) pe_int (fun _ _ => rfl)) po_none (po_some (pe_un un_neg pe_int))) (pa_cons (pe_slice slH (pe_ix (ixt (K := K)) (pv 3) pe_int (fun _ _ => rfl)) po_none (po_some (pe_un un_neg pe_int))) pa_nil)))) pa_nil)))))) pe_bl (nomark _))))))))))), ?_⟩
    have lf' : fs.length = xs.length := mF.len
    obtain ⟨ls, els⟩ : ∃ ls, ls = fitL zs xs y (0, 1) := ⟨_, rfl⟩
    rw [← els] at hB hT
    have lls : ls.length = xs.length := by rw [els]; unfold fitL; rw [List.length_map]
    obtain ⟨J1, eJ1⟩ : ∃ J : L2.St → Hp → Prop, J = fun σ' H' => ∃ R, σ' = [some (.ref p), some (.ref F), some (.ref s'), some (.ref T'), some (.ref R), none, none, none, none, none, none] ∧ Same H H' ∧ FitsL H' R ls := ⟨_, rfl⟩
    refine ⟨J1, ?_, ?_⟩
    · walk_at "w"
      refine ⟨⟨_, hF⟩, fun D nD => ?_⟩
      refine lcr (n := fs.length) walk_tup (fun _ _ g s => s.sqt g) (fun i H v => ∃ T x, v = .ref T ∧ xs[i]? = some x ∧ H T = some (.tup ((idx zs.length (fitQ zs x y (0, 1))).map V.int))) (fun i H H' v ⟨T, x, e1, e2, e3⟩ n => ⟨T, x, e1, e2, n _ _ e3 rfl⟩) (szs (by omega)) hF nD (fun i x H1 H2 N M hi' s1 yy hN => ?_) (fun H1 ts s1 hD lt ht => ?_)
      · obtain ⟨rfl, hx⟩ := yy
        obtain ⟨q, x', rfl, hx', qx⟩ := (mF.same s1).of hx
        refine ⟨rfl, yesT ?_⟩
        walk_at "w"
        exact ⟨zs, r, lo, hi, x', y, none, rfl, hL.same s1, qx, qs.same s1, rfl, k0, j0, k1, j1, fun T H3 s3 hT => hN _ _ s3 ⟨T, x', rfl, hx', hT⟩⟩
      subst eJ1
      refine ⟨D, rfl, s1, ts, hD, by rw [els]; unfold fitL; rw [List.length_map]; omega, fun i v l e1 e2 => ?_⟩
      obtain ⟨T, x, ev, ex, hT⟩ := ht i v e1
      rw [els] at e2
      unfold fitL at e2
      rw [List.getElem?_map, ex] at e2
      cases e2
      exact ⟨T, ev, hT⟩
    rintro σ1 H11 hJ1
    subst eJ1
    obtain ⟨R, rfl, S11, FL⟩ := hJ1
    have hL11 := hL.same S11
    have hF11 := S11.sqt hF
    have mF11 := mF.same S11
    have qs11 := qs.same S11
    clear hL hF mF qs
    obtain ⟨J2, eJ2⟩ : ∃ J : L2.St → Hp → Prop, J = fun σ' H' => σ' = [some (.ref p), some (.ref F), some (.ref s'), some (.ref T'), some (.ref R), none, none, none, none, none, none] ∧ Same H11 H' ∧ o = none := ⟨_, rfl⟩
    refine ⟨J2, ?_, ?_⟩
    · walk_at "w"
      intro p6 np6
      have s6 : Same H11 (upd H11 p6 (.tup [])) := same1 np6
      have FL6 := FL.same s6
      walk_at "w"
      refine ⟨intsD [], _, dpT (zs := []) upd_same, FL6.dp, shInts _, shRows (fun l => l) _, ?_⟩
      cases o with
      | none =>
        rw [show ((ls.map fun l => intsD l).any fun z => PyData.eqv z (intsD [])) = false by
          cases q : ((ls.map fun l => intsD l).any fun z => PyData.eqv z (intsD [])) with
          | false => rfl
          | true =>
            obtain ⟨l', hl, e⟩ := (any_bare _).mp q
            exact absurd e (hB l' hl)]
        refine ⟨_, rfl, iteF ?_⟩
        subst eJ2
        exact ⟨rfl, s6, rfl⟩
      | some n =>
        rw [(any_bare ls).mpr ⟨[], List.mem_of_getElem? hB.1, rfl⟩]
        refine ⟨_, rfl, iteT ?_⟩
        generalize upd H11 p6 (.tup []) = H6 at *
        have hT : H T' = some (.tup [.str "never", .int (n : Int)]) := hT
        obtain ⟨ts6, hD6, _⟩ := FL6.ob
        refine ⟨_, rfl, _, rfl, .inl ⟨rfl, _, SqL.of hD6⟩, ?_⟩
        refine ⟨Nat.le_of_ble_eq_true rfl, fun p7 np7 => ?_⟩
        have s67 : Same H6 (upd H6 p7 (.tup [])) := same1 np7
        have FL7 := FL6.same s67
        refine ⟨R, .ref p7, intsD [], ls.map fun l => intsD l, n, intsD [], rfl, rfl, FL7.dp, dpT (zs := []) upd_same, shRows (fun l => l) _, shInts _, by rw [List.getElem?_map, hB.1]; rfl, by rw [eqv_intsD]; exact decide_eq_true rfl, fun m z' hm hz' => ?_, ?_⟩
        · rw [List.getElem?_map] at hz'
          cases q : ls[m]? with
          | none => rw [q] at hz'; cases hz'
          | some l' =>
            rw [q] at hz'
            cases hz'
            rw [eqv_intsD]
            exact decide_eq_false (hB.2 m l' hm q)
        generalize upd H6 p7 (.tup []) = H7 at *
        have s7 : Same H6 H7 := s67
        refine ⟨szl (Nat.le_of_ble_eq_true rfl), fun p8 np8 => ?_⟩
        have s8 : Same H7 (upd H7 p8 (.tup [.str "never", .int (n : Int)])) := same1 np8
        have hp8 : upd H7 p8 (.tup [.str "never", .int (n : Int)]) p8 = some (.tup [.str "never", .int (n : Int)]) := upd_same
        generalize upd H7 p8 (.tup [.str "never", .int (n : Int)]) = H8 at *
        have s18 := ((s6.trans s7).trans s8)
        have hT8 := (S11.trans s18) _ _ hT
        refine ⟨.tuple [.str "never", .int (n : Int)], .tuple [.str "never", .int (n : Int)], .tup (SqT.of hT8) (.cons (.str _) (.cons (.int _) .nil)), .tup (SqT.of hp8) (.cons (.str _) (.cons (.int _) .nil)), sh_never _, sh_never _, ?_⟩
        rw [show PyData.eqv (.tuple [.str "never", .int (n : Int)]) (.tuple [.str "never", .int (n : Int)]) = true by simp [PyData.eqv, PyData.eqvAll]]
        refine ⟨_, rfl, iteT ?_⟩
        refine ⟨_, rfl, _, rfl, _, rfl, _, rfl, p, F, s', T', .non, k, j, fs, zs, r, lo, hi, xs, y, none, some n, .inl n, rfl, hL11.same s18, s18.sqt hF11, mF11.same s18, qs11.same s18, rfl, k0, k1, j0, j1, by omega, hT8, by show BareAt (fitL zs xs y (0, 1)) _; rw [← els]; exact hB, fun H9 s9 => ?_⟩
        refine ⟨_, _, rfl, rfl, ?_⟩
        have e1 : shwB zs.length (fitL zs xs y (none.getD (0, 1))) (some n) (.inl n) = true := decide_eq_true rfl
        rw [e1, decide_eq_true rfl]
        exact kk _ ((S11.trans s18).trans s9)
    rintro σ2 H12 hJ2
    subst eJ2
    obtain ⟨rfl, S12, eo⟩ := hJ2
    subst eo
    obtain ⟨S, A, ss, as, hT, hS, hA, few⟩ := hT
    have C : RunsC ls zs.length := by
      rw [els]
      refine fit_runs hL11.rise hL11.posP mF11.posP qs11.pos (by decide) fun z hz => ?_
      have hm : idx zs.length (fitQ zs z y (0, 1)) ∈ ls := by
        rw [els]; unfold fitL
        exact List.mem_map.mpr ⟨z, hz, rfl⟩
      have ne := hB _ hm
      obtain ⟨x0, hx0⟩ := List.exists_mem_of_ne_nil _ ne
      obtain ⟨i, hi, f, _⟩ := idx_mem.mp hx0
      exact ⟨i, hi, f⟩
    have la : as.length ≤ ls.length := lots_mem _ _ (lots_has ls.length as few.arise (fun s hs => by obtain ⟨i, e, h⟩ := few.mem s hs; omega))
    have lsa := few.len
    obtain ⟨J3, eJ3⟩ : ∃ J : L2.St → Hp → Prop, J = fun σ' H' => σ' = [some (.ref p), some (.ref F), some (.ref s'), some (.ref T'), some (.ref R), none, none, none, none, none, none] ∧ Same H12 H' := ⟨_, rfl⟩
    refine ⟨J3, ?_, ?_⟩
    · have S2 := S11.trans S12
      have hT2 := S2 _ _ hT
      refine ⟨_, rfl, T', _, _, _, rfl, rfl, SqT.of hT2, atI_of (n := 0) rfl rfl, ?_⟩
      refine ⟨rfl, _, rfl, ?_⟩
      rw [decide_eq_true rfl]
      refine iteF ?_
      refine ⟨_, rfl, _, rfl, _, rfl, _, rfl, p, F, s', T', .non, k, j, fs, zs, r, lo, hi, xs, y, none, none, .inr (ss, as), rfl, hL11.same S12, S12.sqt hF11, mF11.same S12, qs11.same S12, rfl, k0, k1, j0, j1, by omega, ⟨S, A, hT2, S2 _ _ hS, S2 _ _ hA, (show ss.length ≤ 30 by omega), (show as.length ≤ 30 by omega)⟩, by show BareAt (fitL zs xs y (0, 1)) _; rw [← els]; exact hB, fun H9 s9 => ?_⟩
      have e1 : shwB zs.length (fitL zs xs y (none.getD (0, 1))) none (.inr (ss, as)) = true := by
        show (sizB zs.length (fitL zs xs y (0, 1)) ss && aptB (fitL zs xs y (0, 1)) as && decide (ss.length = as.length)) = true
        rw [← els, siz_few C few, apt_few C few, few.len, decide_eq_true rfl]
        rfl
      rw [e1]
      refine ⟨_, _, rfl, rfl, ?_⟩
      rw [decide_eq_true rfl]
      refine ⟨_, rfl, iteF ?_⟩
      subst eJ3
      exact ⟨rfl, s9⟩
    rintro σ3 H13 hJ3
    subst eJ3
    obtain ⟨rfl, S13⟩ := hJ3
    obtain ⟨J4, eJ4⟩ : ∃ J : L2.St → Hp → Prop, J = fun σ' H' => ∃ v5, σ' = [some (.ref p), some (.ref F), some (.ref s'), some (.ref T'), some (.ref R), v5, none, none, none, none, none] ∧ Same H13 H' := ⟨_, rfl⟩
    refine ⟨J4, ?_, ?_⟩
    · have cl_Ladder := T.cl_Ladder
      have na_Ladder_marks := T.na_Ladder_marks
      have na_Ladder_rule := T.na_Ladder_rule
      have na_Ladder_least := T.na_Ladder_least
      have na_Ladder_most := T.na_Ladder_most
    
      have hL13 := hL11.same (S12.trans S13)
      have FL13 := FL.same (S12.trans S13)
      obtain ⟨ts, hR, lts, hts⟩ := FL13.ob
      have hT3 := ((S11.trans S12).trans S13) _ _ hT
      have hS3 := ((S11.trans S12).trans S13) _ _ hS
      obtain ⟨⟨dx, T9, ps9, l9, h9, hp, hT9, _⟩, _⟩ := id hL13
      walk_at "w"
      refine ⟨zs, r, lo, hi, rfl, hL13, ?_⟩
      refine ⟨zs.length, rfl, by omega, ?_⟩
      refine ⟨zs.length, rfl, lz, fun L ks HL sL FK pk sk => ?_⟩
      obtain ⟨us, hLK, lus, hus⟩ := FK.ob
      have hRL := sL _ _ hR
      refine ⟨L, rfl, ⟨_, SqL.of hLK⟩, ?_⟩
      refine for_list (K := K) (a := L) (xs := us) (fun i σ H' => (∃ v5, σ = [some (.ref p), some (.ref F), some (.ref s'), some (.ref T'), some (.ref R), v5, none, none, none, none, none]) ∧ Same HL H' ∧ ∀ (j : Nat) (l : List Int), j < i → ks[j]? = some l → goodB ls l = false) ⟨⟨_, rfl⟩, Same.refl _, fun j l h => by omega⟩ (fun i σ H' _ q => SqL.of (q.2.1 _ _ hLK)) ?_ ?_
      · rintro i x σ Ha hx ⟨⟨v5, rfl⟩, sa, inv⟩
        have hi : i < us.length := (List.getElem?_eq_some_iff.mp hx).1
        have hl0 : ks[i]? = some ks[i] := List.getElem?_eq_getElem (by omega)
        obtain ⟨Tl, rfl, hTl⟩ := hus i x _ hx hl0
        have hmem : ks[i] ∈ lotsL zs.length := pk.mem_iff.mp (List.mem_of_getElem? hl0)
        have lm := lots_mem zs.length _ hmem
        replace hTl := sa _ _ hTl
        have hRa := sa _ _ hRL
        have hkey : goodB ls ks[i] = true → ks[i].length = ss.length := fun g => by
          have h1 := Few.le few ((good_iff C).mp g)
          have h2 := few_good C few
          obtain ⟨h3, h4⟩ := List.mem_filter.mp h2
          obtain ⟨j, hj⟩ := List.mem_iff_getElem?.mp (pk.mem_iff.mpr h3)
          have hjl := (List.getElem?_eq_some_iff.mp hj).1
          rcases Nat.lt_trichotomy j i with q | q | q
          · rw [inv j ss q hj] at h4; cases h4
          · subst q
            rw [hl0] at hj
            have := Option.some.inj hj
            rw [this]
          · have := List.pairwise_iff_getElem.mp sk i j (by omega) hjl q
            have e := (List.getElem?_eq_some_iff.mp hj).2
            rw [e] at this
            omega
        have hnew : goodB ls ks[i] = false → ∀ (j : Nat) (l : List Int), j < i + 1 → ks[j]? = some l → goodB ls l = false := fun g j l hj hl => by
          rcases Nat.lt_or_ge j i with q | q
          · exact inv j l q hl
          · have : j = i := by omega
            subst this
            rw [hl0] at hl
            cases hl
            exact g
        have hts' : ∀ (i : Nat) (v : V) (l : List Int), ts[i]? = some v → ls[i]? = some l → ∃ T, v = .ref T ∧ Ha T = some (.tup (l.map V.int)) := fun i v l e1 e2 => by
          obtain ⟨T, e, h⟩ := hts i v l e1 e2
          exact ⟨T, e, (sL.trans sa) _ _ h⟩
        generalize ks[i] = lot at *
        clear hx hl0 inv hmem
        walk_at "w"
        refine fun D2 nD2 => ?_
        refine lcz (n := ts.length) walk_list (fun _ _ g s => s.seq g) (ls.map fun l => some (V.bl (lot.any fun s => decide (s ∈ l)))) (by rw [List.length_map]; omega) (szs (by omega)) (SqL.of hRa) nD2 (fun i2 x2 Hc Hd z2 N2 M2 hi2 ez2 s3 yy2 hN2 hM2 => ?_) (fun H3 s3 hD2 => ?_)
        · obtain ⟨rfl, hx2⟩ := yy2
          have hl2 : ls[i2]? = some ls[i2] := List.getElem?_eq_getElem (by omega)
          obtain ⟨Tr, rfl, hTr⟩ := hts' i2 x2 _ hx2 hl2
          rw [List.getElem?_map, hl2] at ez2
          cases ez2
          generalize ls[i2] = rn at *
          replace hTr := s3 _ _ hTr
          replace hTl := s3 _ _ hTl
          refine ⟨rfl, yesT ?_⟩
          walk_at "w"
          refine fun D3 nD3 => ?_
          refine lcz (n := lot.length) (by have := walk_tup (K := K) (a := Tl) (xs := lot.map V.int); rwa [List.length_map] at this) (fun _ _ g s => s.sqt g) (lot.map fun s => some (V.bl (decide (s ∈ rn)))) (by rw [List.length_map]) (szs (by omega)) (SqT.of hTl) nD3 (fun i3 x3 He Hf z3 N3 M3 hi3 ez3 s4 yy3 hN3 hM3 => ?_) (fun H4 s4 hD3 => ?_)
          · obtain ⟨rfl, hx3⟩ := yy3
            have hl3 : lot[i3]? = some lot[i3] := List.getElem?_eq_getElem (by omega)
            rw [List.getElem?_map, hl3] at hx3 ez3
            cases hx3; cases ez3
            replace hTr := s4 _ _ hTr
            refine ⟨rfl, yesT ?_⟩
            refine ⟨_, rfl, _, rfl, _, _, rfl, .inr (SqT.of hTr), rfl, flat_ints _, ?_⟩
            simp only [Bool.false_eq_true, if_false]
            rw [inV_ints]
            exact hN3 _ _ rfl (Same.refl _)
          · rw [fmap_some] at hD3
            refine ⟨_, lot.map fun s => decide (s ∈ rn), rfl, SqL.of (by rw [hD3, List.map_map]; rfl), ?_⟩
            rw [map_any]
            exact hN2 _ _ rfl s4
        · rw [fmap_some] at hD2
          refine ⟨_, ls.map fun l => lot.any fun s => decide (s ∈ l), rfl, SqL.of (by rw [hD2, List.map_map]; rfl), _, rfl, ?_⟩
          have eb : (ls.map fun l => lot.any fun s => decide (s ∈ l)).all _root_.id = goodB ls lot := by rw [List.all_map]; rfl
          rw [eb]
          have sTa := (sL.trans sa).trans s3
          cases e : goodB ls lot with
          | true =>
            refine iteT ?_
            have el := hkey e
            have lml : (lot.map V.int).length = lot.length := List.length_map ..
            have lms : (ss.map V.int).length = ss.length := List.length_map ..
            refine ⟨_, rfl, Tl, _, rfl, .inr (SqT.of (s3 _ _ hTl)), ?_⟩
            refine ⟨_, rfl, T', _, _, _, rfl, rfl, SqT.of (sTa _ _ hT3), atI_of (n := 1) rfl rfl, S, _, rfl, .inr (SqT.of (sTa _ _ hS3)), ?_⟩
            refine ⟨rfl, _, rfl, ?_⟩
            rw [lml, lms, el, decide_eq_true rfl]
            refine iteF ?_
            subst eJ4
            exact ⟨_, rfl, sTa⟩
          | false =>
            refine iteF ?_
            exact ⟨⟨_, rfl⟩, sa.trans s3, hnew e⟩
      · rintro σ Ha ⟨⟨v5, rfl⟩, sa, inv⟩
        subst eJ4
        exact ⟨_, rfl, sL.trans sa⟩
    rintro σ4 H14 hJ4
    subst eJ4
    obtain ⟨v5, rfl, S14⟩ := hJ4
    obtain ⟨J5, eJ5⟩ : ∃ J : L2.St → Hp → Prop, J = fun σ' H' => ∃ v5 v6, σ' = [some (.ref p), some (.ref F), some (.ref s'), some (.ref T'), some (.ref R), v5, v6, none, none, none, none] ∧ Same H14 H' := ⟨_, rfl⟩
    refine ⟨J5, ?_, ?_⟩
    · have FL14 := FL.same ((S12.trans S13).trans S14)
      obtain ⟨ts, hR, lts, hts⟩ := FL14.ob
      have S4 := (((S11.trans S12).trans S13).trans S14)
      have hT4 := S4 _ _ hT
      have hA4 := S4 _ _ hA
      have w1 : Walk _ as.length _ _ := (by have := walk_tup (K := K) (a := A) (xs := as.map V.int); rwa [List.length_map] at this)
      refine ⟨_, rfl, T', _, _, _, rfl, rfl, SqT.of hT4, atI_of (n := 2) rfl rfl, A, rfl, ⟨_, SqT.of hA4⟩, ?_⟩
      refine for_it w1 (fun i σ H' => (∃ v6, σ = [some (.ref p), some (.ref F), some (.ref s'), some (.ref T'), some (.ref R), v5, v6, none, none, none, none]) ∧ Same H14 H') ⟨⟨_, rfl⟩, Same.refl _⟩ (fun i σ H' _ q => SqT.of (q.2 _ _ hA4)) ?_ ?_
      · rintro i x σ Ha Hb hi ⟨⟨v6, rfl⟩, sa⟩ ⟨rfl, hx⟩
        rw [List.getElem?_map, List.getElem?_eq_getElem hi] at hx
        cases hx
        obtain ⟨ia, ea, hia⟩ := few.mem _ (List.getElem_mem hi)
        have hmi := List.getElem_mem hi
        have hTa := sa _ _ hT4
        have hAa := sa _ _ hA4
        generalize as[i] = one at *
        subst ea
        refine ⟨_, rfl, T', _, _, _, rfl, rfl, SqT.of hTa, atI_of (n := 2) rfl rfl, A, rfl, ⟨_, SqT.of hAa⟩, fun D nD => ?_⟩
        refine lcz (n := as.length) w1 (fun _ _ g s => s.sqt g) (as.map fun _ => none) (by rw [List.length_map]) (szs (by omega)) (SqT.of hAa) nD (fun i2 x2 Hc Hd z2 N2 M2 hi2 ez2 s3 yy2 hN2 hM2 => ?_) (fun H3 s3 hD2 => ?_)
        · obtain ⟨rfl, hx2⟩ := yy2
          rw [List.getElem?_map, List.getElem?_eq_getElem hi2] at hx2 ez2
          cases hx2; cases ez2
          obtain ⟨ib, eb, hib⟩ := few.mem _ (List.getElem_mem hi2)
          have hmj := List.getElem_mem hi2
          have s13 := sa.trans s3
          have hR3 := s13 _ _ hR
          generalize as[i2] = oth at *
          subst eb
          refine ⟨rfl, ?_⟩
          walk_at "w"
          refine ite2 (fun e => ?_) (fun e => ?_)
          · have lt := of_decide_eq_true e
            have hla : ls[ia]? = some ls[ia] := List.getElem?_eq_getElem hia
            have hlb : ls[ib]? = some ls[ib] := List.getElem?_eq_getElem hib
            have no := apart_no C hla hlb (few.apart _ hmi _ hmj (by omega))
            obtain ⟨Ta, ea, hTa⟩ := FitsL.at (D := R) lts hts hla
            obtain ⟨Tb, eb, hTb⟩ := FitsL.at (D := R) lts hts hlb
            obtain ⟨aa, ma, la1, la2⟩ := C ia _ hla
            have lla : ls[ia].length ≤ 6 := by rw [la2, List.length_map, List.length_range']; omega
            generalize ls[ia] = ra at *
            generalize ls[ib] = rb at *
            replace hTa := s13 _ _ hTa
            replace hTb := s13 _ _ hTb
            walk_at "w"
            intro D7 nD7
            refine lcz (n := ra.length) (by have := walk_tup (K := K) (a := Ta) (xs := ra.map V.int); rwa [List.length_map] at this) (fun _ _ g s => s.sqt g) (ra.map fun s => some (V.bl (decide (s ∈ rb)))) (by rw [List.length_map]) (szs (by omega)) (SqT.of hTa) nD7 (fun i3 x3 He Hf z3 N3 M3 hi3 ez3 s4 yy3 hN3 hM3 => ?_) (fun HA s4 hD7 => ?_)
            · obtain ⟨rfl, hx3⟩ := yy3
              have hl3 : ra[i3]? = some ra[i3] := List.getElem?_eq_getElem (by omega)
              rw [List.getElem?_map, hl3] at hx3 ez3
              cases hx3; cases ez3
              replace hTb := s4 _ _ hTb
              replace hR3 := s4 _ _ hR3
              refine ⟨rfl, yesT ?_⟩
              refine ⟨_, rfl, _, rfl, _, rfl, R, ts, _, _, rfl, rfl, SqL.of hR3, atI_nat eb, Tb, _, rfl, .inr (SqT.of hTb), rfl, flat_ints _, ?_⟩
              simp only [Bool.false_eq_true, if_false]
              rw [inV_ints]
              exact hN3 _ _ rfl (Same.refl _)
            · rw [fmap_some] at hD7
              refine ⟨_, ra.map fun s => decide (s ∈ rb), rfl, SqL.of (by rw [hD7, List.map_map]; rfl), _, rfl, ?_⟩
              rw [map_any, no]
              exact iteF (hM2 _ rfl s4)
          · exact hM2 _ rfl (Same.refl _)
        have e0 : (as.map fun _ => (none : Option V)).filterMap _root_.id = [] := by
          rw [List.filterMap_map, List.filterMap_eq_nil_iff]
          exact fun _ _ => rfl
        rw [e0] at hD2
        refine ⟨szl (Nat.zero_le _), fun p9 np9 => ?_⟩
        have sN : Same H3 (upd H3 p9 (.lst [])) := same1 np9
        refine ⟨.list [], .list [], .lst (SqL.of (sN _ _ hD2)) .nil, .lst (SqL.of upd_same) .nil, by decide +kernel, by decide +kernel, ?_⟩
        rw [show PyData.eqv (.list []) (.list []) = true from rfl]
        refine ⟨_, rfl, iteF ?_⟩
        exact ⟨⟨_, rfl⟩, (sa.trans s3).trans sN⟩
      · rintro σ Ha ⟨⟨v6, rfl⟩, sa⟩
        subst eJ5
        exact ⟨_, _, rfl, sa⟩
    rintro σ5 H15 hJ5
    subst eJ5
    obtain ⟨v5', v6, rfl, S15⟩ := hJ5
    obtain ⟨J6, eJ6⟩ : ∃ J : L2.St → Hp → Prop, J = fun σ' H' => ∃ M, σ' = [some (.ref p), some (.ref F), some (.ref s'), some (.ref T'), some (.ref R), v5', v6, some (.ref M), none, none, none] ∧ Same H15 H' ∧ H' M = some (.tup (((List.range zs.length).map fun k : Nat => (k : Int)).map V.int)) := ⟨_, rfl⟩
    refine ⟨J6, ?_, ?_⟩
    · have cl_Ladder := T.cl_Ladder
      have na_Ladder_marks := T.na_Ladder_marks
      have na_Ladder_rule := T.na_Ladder_rule
      have na_Ladder_least := T.na_Ladder_least
      have na_Ladder_most := T.na_Ladder_most
    
      have hL15 := hL11.same (((S12.trans S13).trans S14).trans S15)
      obtain ⟨⟨dx, T9, ps9, l9, h9, hp, hT9, _⟩, _⟩ := id hL15
      refine ⟨_, rfl, _, p, dx, _, rfl, rfl, hp, p, k, zs, r, lo, hi, rfl, hL15, zs.length, rfl, by omega, ?_⟩
      refine ⟨_, rfl, ⟨by decide, by decide, by omega, by omega⟩, fun M nM => ?_⟩
      have em : rgV 0 (zs.length : Int) = ((List.range zs.length).map fun k : Nat => (k : Int)).map V.int := by
        unfold rgV
        rw [List.map_map, show ((zs.length : Int) - 0).toNat = zs.length by omega]
        refine List.map_congr_left fun i _ => ?_
        show V.int (0 + (i : Int)) = V.int (i : Int)
        rw [Int.zero_add]
      subst eJ6
      exact ⟨M, rfl, same1 nM, by rw [upd_same, em]⟩
    rintro σ6 H16 hJ6
    subst eJ6
    obtain ⟨M, rfl, S16, hM⟩ := hJ6
    have sM := ((((S11.trans S12).trans S13).trans S14).trans S15).trans S16
    have hL6 := hL11.same ((((S12.trans S13).trans S14).trans S15).trans S16)
    have hF6 := ((((S12.trans S13).trans S14).trans S15).trans S16).sqt hF11
    have mF6 := mF11.same ((((S12.trans S13).trans S14).trans S15).trans S16)
    have qs6 := qs11.same ((((S12.trans S13).trans S14).trans S15).trans S16)
    have hT6 := sM _ _ hT
    have hS6 := sM _ _ hS
    have hA6 := sM _ _ hA
    clear hT hS hA qs11 mF11 hF11 hL11
    obtain ⟨J7, eJ7⟩ : ∃ J : L2.St → Hp → Prop, J = fun σ' H' => σ' = [some (.ref p), some (.ref F), some (.ref s'), some (.ref T'), some (.ref R), v5', v6, some (.ref M), none, none, none] ∧ Same H16 H' := ⟨_, rfl⟩
    refine ⟨J7, ?_, ?_⟩
    · refine ⟨_, rfl, _, rfl, _, rfl, _, rfl, T', _, _, _, rfl, rfl, SqT.of hT6, atI_of (n := 0) rfl rfl, _, rfl, _, rfl, T', _, _, _, rfl, rfl, SqT.of hT6, atI_of (n := 2) rfl rfl, szl (Nat.le_of_ble_eq_true rfl), fun p9 np9 => ?_⟩
      have sN : Same H16 (upd H16 p9 (.tup [.str "stock", .ref M, .ref A])) := same1 np9
      have hp9 : upd H16 p9 (.tup [.str "stock", .ref M, .ref A]) p9 = some (.tup [.str "stock", .ref M, .ref A]) := upd_same
      generalize upd H16 p9 (.tup [.str "stock", .ref M, .ref A]) = H8 at *
      have lrg : ((List.range zs.length).map fun k : Nat => (k : Int)).length = zs.length := by rw [List.length_map, List.length_range]
      refine ⟨p, F, s', p9, .non, k, j, fs, zs, r, lo, hi, xs, y, none, none, .inr (((List.range zs.length).map fun k : Nat => (k : Int)), as), rfl, hL6.same sN, sN.sqt hF6, mF6.same sN, qs6.same sN, rfl, k0, k1, j0, j1, by omega, ⟨M, A, hp9, sN _ _ hM, sN _ _ hA6, by show (List.map _ _).length ≤ 30; rw [lrg]; omega, (show as.length ≤ 30 by omega)⟩, by show BareAt (fitL zs xs y (0, 1)) _; rw [← els]; exact hB, fun H9 s9 => ?_⟩
      have e1 : shwB zs.length (fitL zs xs y (none.getD (0, 1))) none (.inr (((List.range zs.length).map fun k : Nat => (k : Int)), as)) = decide (zs.length = ss.length) := by
        show (sizB zs.length (fitL zs xs y (0, 1)) _ && aptB (fitL zs xs y (0, 1)) as && decide (((List.range zs.length).map fun k : Nat => (k : Int)).length = as.length)) = _
        rw [← els, siz_all C, apt_few C few, lrg, ← lsa]
        rfl
      rw [e1]
      have s69 := sN.trans s9
      have lmm : ((((List.range zs.length).map fun k : Nat => (k : Int)).map V.int)).length = zs.length := by rw [List.length_map, lrg]
      have lms : (ss.map V.int).length = ss.length := List.length_map ..
      refine ⟨_, rfl, M, _, rfl, .inr (SqT.of (s69 _ _ hM)), _, rfl, T', _, _, _, rfl, rfl, SqT.of (s69 _ _ hT6), atI_of (n := 1) rfl rfl, S, _, rfl, .inr (SqT.of (s69 _ _ hS6)), ?_⟩
      refine ⟨rfl, ?_⟩
      rw [lmm, lms, show decide (V.int (zs.length : Int) = V.int (ss.length : Int)) = decide (zs.length = ss.length) from decide_eq_decide.mpr ⟨fun h => by have := V.int.inj h; omega, fun h => by rw [h]⟩]
      refine ⟨rfl, _, rfl, ?_⟩
      rw [decide_eq_true rfl]
      refine iteF ?_
      subst eJ7
      exact ⟨rfl, s69⟩
    rintro σ7 H17 hJ7
    subst eJ7
    obtain ⟨rfl, S17⟩ := hJ7
    have s17 := S17
    refine ⟨_, rfl, _, rfl, _, rfl, _, rfl, T', _, _, _, rfl, rfl, SqT.of (S17 _ _ hT6), atI_of (n := 0) rfl rfl, ?_⟩
    replace hT6 := S17 _ _ hT6
    replace hS6 := S17 _ _ hS6
    replace hA6 := S17 _ _ hA6
    walk_at "w"
    intro M1 Ha s1 hM1
    rw [cut_last, ← List.map_dropLast] at hM1
    replace hT6 := s1 _ _ hT6
    replace hA6 := s1 _ _ hA6
    walk_at "w"
    intro M2 Hb s2 hM2
    rw [cut_last, ← List.map_dropLast] at hM2
    replace hM1 := s2 _ _ hM1
    refine ⟨szl (Nat.le_of_ble_eq_true rfl), fun p9 np9 => ?_⟩
    have sN : Same Hb (upd Hb p9 (.tup [.str "stock", .ref M1, .ref M2])) := same1 np9
    have hp9 : upd Hb p9 (.tup [.str "stock", .ref M1, .ref M2]) p9 = some (.tup [.str "stock", .ref M1, .ref M2]) := upd_same
    generalize upd Hb p9 (.tup [.str "stock", .ref M1, .ref M2]) = H8 at *
    have sx := ((S17.trans s1).trans s2).trans sN
    have ss0 : 0 < ss.length := by
      obtain ⟨s, hs, _⟩ := few.hit 0 (by omega)
      exact List.length_pos_of_mem hs
    refine ⟨p, F, s', p9, .non, k, j, fs, zs, r, lo, hi, xs, y, none, none, .inr (ss.dropLast, as.dropLast), rfl, hL6.same sx, sx.sqt hF6, mF6.same sx, qs6.same sx, rfl, k0, k1, j0, j1, by omega, ⟨M1, M2, hp9, sN _ _ hM1, sN _ _ hM2, by show (List.dropLast _).length ≤ 30; rw [List.length_dropLast]; omega, by show (List.dropLast _).length ≤ 30; rw [List.length_dropLast]; omega⟩, by show BareAt (fitL zs xs y (0, 1)) _; rw [← els]; exact hB, fun H9 s9 => ?_⟩
    have e1 : shwB zs.length (fitL zs xs y (none.getD (0, 1))) none (.inr (ss.dropLast, as.dropLast)) = false := by
      show (sizB zs.length (fitL zs xs y (0, 1)) ss.dropLast && aptB (fitL zs xs y (0, 1)) as.dropLast && decide (ss.dropLast.length = as.dropLast.length)) = false
      rw [← els, siz_less C few (by rw [List.length_dropLast]; omega)]
      rfl
    rw [e1]
    refine ⟨_, _, rfl, rfl, ?_⟩
    rw [decide_eq_true rfl]
    exact kk _ ((sM.trans sx).trans s9)
theorem ok_l_pairs_right {P : Program} {w : World} {K : PySem.W.Frag} {mg : Str → Option Value} {base : Heap} {φ : Fds} (T : Txt K mg φ) : FnOk P w K mg base CX0 8 (He.fAd K ("_law_pairs_right", none)) φ.l_pairs_right p_l_pairs_right (sp_pairsr K (He.ga K "Measure") (He.ga K "Ladder") (He.ga K "Grid")) := by
  obtain ⟨_, B0v, B0⟩ := b_broken_4 T
  obtain ⟨_, B1v, B1⟩ := b_Ladder_len_1 T
  refine T.f_l_pairs_right.ok sc_l_pairs_right (fun vs H Q E h => ?_) (fun cdv A outer s H vs Q E hr h => ?_)
  · obtain ⟨p, F, s', A', L1, L2', v, j, k, m, zs, ys, g, y, us, fs, al, rfl, G, hF, hf, qs, m0, m1, lf, TD, hA, lal, hal, kk⟩ := h; rfl
  · obtain ⟨p, F, s', A', L1, L2', v, j, k, m, zs, ys, g, y, us, fs, al, rfl, G, hF, hf, qs, m0, m1, lf, TD, hA, lal, hal, kk⟩ := h
    refine ⟨_, PSs.nox (pss_cons (ps_if (pt_cmpR op_eq (pe_ix (ixt (K := K)) (pv 3) pe_int (fun _ _ => rfl)) pe_str (nomark _))
      (pss_one (ps_ret (pe_and (pe_cmpR (inK (K := K)) (pe_ix (ixt (K := K)) (pe_ix (ixt (K := K)) (pv 3) pe_int (fun _ _ => rfl)) pe_int (fun _ _ => rfl)) (pv 4) (by rfl)) (pe_one (pe_not (pe_callB (id := "any") (anyK (K := K)) (by rfl) T.z_any (by decide +kernel) (pa_cons (pe_lc (own := [("_law_one", 10)]) (g := gName 10) rfl sc_l_pairs_right.nd (pi_tup (pv 1)) (blkOk_by (own := [("_law_one", 10)]) (N := N_l_pairs_right) (sc := (defScope s_l_pairs_right)) (by decide +kernel)) (fun _ _ _ _ _ => (pg_name (i := 10) sc_l_pairs_right.nd rfl (Or.inl rfl))) (fun _ _ _ _ _ => pts_nil) (fun _ _ _ _ _ => (pe_cmpR (ne0TK (K := K) (Nat.lt_of_le_of_lt (Nat.le_add_right _ 64) hr.units)) (pe_call (ok_broken (K := K) T) (hr.mono (by decide)) rfl T.g_broken T.f_broken.kp B0 B0v pass0 (pa_cons (pv 0) (pa_cons (pe_ix (ixt (K := K)) (pv 3) pe_int (fun _ _ => rfl)) (pa_cons (pv 10) (pa_cons (pv 2) pa_nil))))) (pe_tup pa_nil) (nomark _)))) pa_nil)))))))
      pss_nil)
      (pss_cons (ps_for PassesOwn.never rfl (pi_tup (pe_ix (ixt (K := K)) (pv 3) pe_int (fun _ _ => rfl))) (pg_tup rfl (pgs_cons (pg_name (i := 5) sc_l_pairs_right.nd rfl (Or.inr rfl)) (pgs_cons (pg_name (i := 6) sc_l_pairs_right.nd rfl (Or.inr rfl)) (pgs_cons (pg_name (i := 7) sc_l_pairs_right.nd rfl (Or.inl rfl)) (pgs_cons (pg_name (i := 8) sc_l_pairs_right.nd rfl (Or.inl rfl)) pgs_nil)))))
      (pss_cons (ps_if (pt_cmpR (notInK (K := K)) (pv 8) (pe_call (ok_broken (K := K) T) (hr.mono (by decide)) rfl T.g_broken T.f_broken.kp B0 B0v pass0 (pa_cons (pv 0) (pa_cons (pe_tup (pa_cons (pv 5) (pa_cons (pv 6) pa_nil))) (pa_cons (pe_ix (ixt (K := K)) (pv 1) (pv 7) (fun _ _ => rfl)) (pa_cons (pv 2) pa_nil))))) (by rfl))
      (pss_one (ps_ret pe_bl))
      pss_nil)
      (pss_cons (ps_setLc (i := 9) (own := [("_law_one", 10)]) (g := gName 10) rfl sc_l_pairs_right.nd rfl rfl (sw_true rfl rfl rfl (by decide +kernel)) (pi_tup (pv 1)) (blkOk_by (own := [("_law_one", 10)]) (N := N_l_pairs_right) (sc := (defScope s_l_pairs_right)) (by decide +kernel)) (fun _ _ _ _ _ => (pg_name (i := 10) sc_l_pairs_right.nd rfl (Or.inl rfl))) (fun _ _ _ _ _ => pts_nil) (fun _ _ _ _ _ => (pe_call (ok_broken (K := K) T) (hr.mono (by decide)) rfl T.g_broken T.f_broken.kp B0 B0v pass0 (pa_cons (pv 0) (pa_cons (pe_tup (pa_cons (pv 5) (pa_cons (pv 6) pa_nil))) (pa_cons (pv 10) (pa_cons (pv 2) pa_nil)))))))
      (pss_one (ps_if (PW.pt (pw_and (pt_cmpR (inK (K := K)) (pv 5) (pv 4) (by rfl)) (pw_and1 (pt_not (pt_val (pe_callB (id := "any") (anyK (K := K)) (by rfl) T.z_any (by decide +kernel) (pa_cons (pe_lc (own := [("_law_some", 11)]) (g := gName 11) rfl sc_l_pairs_right.nd (pi_list (pv 9)) (blkOk_by (own := [("_law_some", 11)]) (N := N_l_pairs_right) (sc := (defScope s_l_pairs_right)) (by decide +kernel)) (fun _ _ _ _ _ => (pg_name (i := 11) sc_l_pairs_right.nd rfl (Or.inl rfl))) (fun _ _ _ _ _ => pts_nil) (fun _ _ _ _ _ => (pe_or (pe_cmpR (inK (K := K)) pe_str (pv 11) (by rfl)) (pe_one (pe_cmpR (inK (K := K)) pe_str (pv 11) (by rfl)))))) pa_nil)))))))
      (pss_one (ps_ret pe_bl))
      pss_nil)))))
      (pss_one (ps_ret (pe_cmpR op_eq (pe_callB (id := "len") (lenS (K := K)) (by rfl) T.z_len PySem.boot_len (pa_cons (pe_ix (ixt (K := K)) (pv 3) pe_int (fun _ _ => rfl)) pa_nil)) (pe_op op_mulA (pe_callB (id := "len") (call_lenO (ok_Ladder_len (K := K) T) T.me_Ladder_len (bnil B1v B1) pass0 (hr.mono (by decide))) (by rfl) T.z_len PySem.boot_len (pa_cons (fldK (K := K) (pv 0) rfl) pa_nil)) (pe_callB (id := "len") (call_lenO (ok_Ladder_len (K := K) T) T.me_Ladder_len (bnil B1v B1) pass0 (hr.mono (by decide))) (by rfl) T.z_len PySem.boot_len (pa_cons (fldK (K := K) (pv 0) rfl) pa_nil))) (nomark _)))))), ?_⟩
    have na_Grid_lengths := T.na_Grid_lengths
    have na_Grid_breadths := T.na_Grid_breadths
    have na_Grid_grade := T.na_Grid_grade
    have cl_Grid := T.cl_Grid
    have cl_Ladder := T.cl_Ladder
    have na_Ladder_marks := T.na_Ladder_marks
    have na_Ladder_rule := T.na_Ladder_rule
    have na_Ladder_least := T.na_Ladder_least
    have na_Ladder_most := T.na_Ladder_most
    
    have lu : us.length = fs.length := hf.len
    have py := qs.pos
    have pfs := hf.pos
    have pzs : ∀ z ∈ zs, 0 < z.2 := by
      obtain ⟨r1, lo1, hi1, a1⟩ := G.a1
      exact a1.posP
    have lz := G.l1
    have ly := G.m1
    cases eg : goodP (prs zs.length ys.length) (frstB zs ys g y fs) with
    | some pr =>
      rw [eg] at TD
      obtain ⟨T, w', rfl, hT, P, rfl, hP⟩ := TD
      have sqT := SqT.of (K := K) hT
      have sqP := SqT.of (K := K) hP
      obtain ⟨l1, l2, nb⟩ := good_lt eg
      obtain ⟨a, ha⟩ := ge2 (zs := zs) l1
      obtain ⟨b, hb⟩ := ge2 (zs := ys) l2
      have nbf := frst_none.mp nb
      have hin : (pr.1 : Int) ∈ al := (hal pr.1 l1).mpr fun f hf' => by
        have q := nbf f hf'
        rw [brkP_at ha hb] at q
        obtain ⟨_, h2, _, h4⟩ := brk_nil.mp q
        exact (fit_no ha (pzs _ (List.mem_of_getElem? ha)) (pfs f hf').1 py).mpr ⟨h2, h4⟩
      walk_at "w"
      refine ⟨flat_ints al, _, rfl, ?_⟩
      rw [inV_ints, decide_eq_true hin]
      refine iteT ?_
      refine ⟨_, rfl, _, rfl, ⟨_, hF⟩, fun D nD => ?_⟩
      refine lcz (n := us.length) walk_tup (fun _ _ g s => s.sqt g) (us.map fun _ => some (V.bl false)) (by rw [List.length_map]) (szs (by omega)) hF nD (fun i x H3 H4 o N M hi ho s3 yy hN hM => ?_) (fun H3 s3 hD => ?_)
      · obtain ⟨rfl, hx⟩ := yy
        rw [List.getElem?_map, hx] at ho
        cases ho
        obtain ⟨f, hfi, t, f1, f2, rfl, hsq, q1, q2⟩ := (hf.same s3).of hx
        have hn := nbf f (List.mem_of_getElem? hfi)
        rw [brkP_at ha hb] at hn
        have G3 := G.same s3
        refine ⟨rfl, yesT ?_⟩
        refine ⟨_, rfl, _, rfl, T, _, _, _, rfl, rfl, s3.sqt sqT, atI_of (n := 1) rfl rfl, _, rfl, _, rfl, p, P, t, s', L1, L2', f1, f2, pr.1, pr.2, k, j, m, g, a, b, f.1, f.2, y, zs, ys, rfl, G3.ag, G3.a1, G3.a2, s3.sqt sqP, ha, hb, hsq, q1, q2, qs.same s3, by omega, G.j0, G.j1, G.k0, G.k1, m0, m1, fun T8 H8 s8 hT8 => ?_⟩
        rw [hn] at hT8
        refine ⟨szl (Nat.zero_le _), fun p9 np9 => ?_⟩
        refine ⟨T8, p9, [], rfl, rfl, SqT.of (up1 np9 hT8), SqT.of upd_same, ?_⟩
        exact hN _ _ rfl (s8.up np9)
      have ef : (us.map fun _ => some (V.bl false)).filterMap _root_.id = (us.map fun _ => false).map V.bl := by rw [List.filterMap_map, List.map_map]; rw [show (_root_.id ∘ fun _ : V => some (V.bl false)) = (some ∘ fun _ : V => V.bl false) from rfl, List.filterMap_eq_map]; rfl
      rw [ef] at hD
      refine ⟨D, _, rfl, SqL.of hD, _, rfl, ?_⟩
      rw [show (us.map fun _ => false).any _root_.id = false by rw [List.any_map, List.any_eq_false]; exact fun _ _ q => nomatch q]
      exact kk _ s3
    | none =>
      rw [eg] at TD
      obtain ⟨T, q', ws, rfl, hT, hq, hp⟩ := TD
      have sqT := SqT.of (K := K) hT
      have sqq := SqT.of (K := K) hq
      have lws : ws.length = zs.length * ys.length := by rw [hp.len, prs_len]
      walk_at "w"
      refine for_tup (K := K) (a := q') (xs := ws) (fun i σ H' => (∃ v5 v6 v7 v8 v9, σ = [some (.ref p), some (.ref F), some (.ref s'), some (.ref T), some (.ref A'), v5, v6, v7, v8, v9, none, none]) ∧ Same H H') ⟨⟨_, _, _, _, _, rfl⟩, Same.refl _⟩ (fun i σ H' _ q => q.2.sqt sqq) ?_ ?_
      · rintro i x σ H1 hx ⟨⟨v5, v6, v7, v8, v9, rfl⟩, s1⟩
        have hi : i < zs.length * ys.length := by have := (List.getElem?_eq_some_iff.mp hx).1; omega
        have hpn := prs_at hi
        obtain ⟨q, hfq, T3, rfl, hT3⟩ := (hp.same s1).all i x _ hx hpn
        obtain ⟨l1, l2⟩ := prs_lt hpn
        generalize hpq : (i / ys.length, i % ys.length) = pr at *
        obtain ⟨f, hf1, hf2⟩ := fst_mem hfq
        obtain ⟨a, ha⟩ := ge2 (zs := zs) l1
        obtain ⟨b, hb⟩ := ge2 (zs := ys) l2
        rw [brkP_at ha hb] at hf2
        have G1 := G.same s1
        have hF1 := s1.sqt hF
        have hf1' := hf.same s1
        have qs1 := qs.same s1
        have hA1 := s1 _ _ hA
        refine ⟨T3, _, rfl, SqT.of hT3, rfl, _, _, rfl, _, _, rfl, _, _, rfl, _, _, rfl, rfl, ?_⟩
        obtain ⟨u, hu, t, f1, f2, rfl, hsq, q1, q2⟩ := hf1'.at hf1
        refine ⟨_, rfl, _, rfl, _, rfl, _, rfl, szl (Nat.le_of_ble_eq_true rfl), fun p9 np9 => ?_⟩
        have sN : Same H1 (upd H1 p9 (.tup [.int (pr.1 : Int), .int (pr.2 : Int)])) := same1 np9
        have hp9 : upd H1 p9 (.tup [.int (pr.1 : Int), .int (pr.2 : Int)]) p9 = some (.tup [.int (pr.1 : Int), .int (pr.2 : Int)]) := upd_same
        generalize upd H1 p9 (.tup [.int (pr.1 : Int), .int (pr.2 : Int)]) = H2 at *
        have G2 := G1.same sN
        refine ⟨_, rfl, _, rfl, F, _, _, _, rfl, rfl, sN.sqt hF1, atI_nat hu, _, rfl, p, p9, t, s', L1, L2', f1, f2, pr.1, pr.2, k, j, m, g, a, b, f.1, f.2, y, zs, ys, rfl, G2.ag, G2.a1, G2.a2, SqT.of hp9, ha, hb, sN.sqt hsq, q1.same sN, q2.same sN, qs1.same sN, by omega, G.j0, G.j1, G.k0, G.k1, m0, m1, fun T8 H8 s8 hT8 => ?_⟩
        refine ⟨_, _, rfl, .inr (SqT.of hT8), rfl, flat_strs _, ?_⟩
        simp only [if_true]
        rw [inV_str, decide_eq_true hf2]
        refine ⟨_, rfl, iteF ?_⟩
        have s18 := sN.trans s8
        replace G1 := G1.same s18
        replace hF1 := s18.sqt hF1
        replace hf1' := hf1'.same s18
        replace qs1 := qs1.same s18
        replace hA1 := s18 _ _ hA1
        replace s1 := s1.trans s18
        clear s18 sN s8 hp9 hT8 hsq q1 q2 hu np9 G2 hT3 hx
        refine ⟨_, rfl, _, rfl, ⟨_, hF1⟩, fun D nD => ?_⟩
        refine lcr (n := us.length) walk_tup (fun _ _ g s => s.sqt g) (fun i H v => ∀ f, fs[i]? = some f → ∃ t, v = .ref t ∧ H t = some (.tup ((brkW a (grdQ b g pr.1) f.1 f.2 y).map V.str))) (fun i H H' v h n f e => by obtain ⟨t, e1, e2⟩ := h f e; exact ⟨t, e1, n _ _ e2 rfl⟩) (szs (by omega)) hF1 nD (fun i' x H3 H4 N M hi' s3 yy hN => ?_) (fun H3 rs s3 hD lr hr => ?_)
        · obtain ⟨rfl, hx⟩ := yy
          obtain ⟨f', hfi, t, f1, f2, rfl, hsq, q1, q2⟩ := (hf1'.same s3).of hx
          refine ⟨rfl, yesT ?_⟩
          refine ⟨_, rfl, _, rfl, _, rfl, szl (Nat.le_of_ble_eq_true rfl), fun p9 np9 => ?_⟩
          have sN : Same H4 (upd H4 p9 (.tup [.int (pr.1 : Int), .int (pr.2 : Int)])) := same1 np9
          have hp9 : upd H4 p9 (.tup [.int (pr.1 : Int), .int (pr.2 : Int)]) p9 = some (.tup [.int (pr.1 : Int), .int (pr.2 : Int)]) := upd_same
          generalize upd H4 p9 (.tup [.int (pr.1 : Int), .int (pr.2 : Int)]) = H5 at *
          have s35 := s3.trans sN
          have G2 := G1.same s35
          refine ⟨_, rfl, _, rfl, p, p9, t, s', L1, L2', f1, f2, pr.1, pr.2, k, j, m, g, a, b, f'.1, f'.2, y, zs, ys, rfl, G2.ag, G2.a1, G2.a2, SqT.of hp9, ha, hb, sN.sqt hsq, q1.same sN, q2.same sN, qs1.same s35, by omega, G.j0, G.j1, G.k0, G.k1, m0, m1, fun T8 H8 s8 hT8 => ?_⟩
          refine hN _ _ (sN.trans s8) fun f'' ef => ?_
          rw [hfi] at ef
          cases ef
          exact ⟨T8, rfl, hT8⟩
        have hA3 := s3 _ _ hA1
        refine ⟨_, rfl, _, rfl, _, _, rfl, .inl (SqL.of hA3), rfl, flat_ints _, ?_⟩
        simp only [Bool.false_eq_true, if_false]
        rw [inV_ints]
        refine ⟨_, rfl, ?_⟩
        cases ein : decide ((pr.1 : Int) ∈ al) with
        | false =>
          refine iteF ?_
          exact ⟨⟨_, _, _, _, _, rfl⟩, s1.trans s3⟩
        | true =>
          have fits := (hal pr.1 l1).mp (of_decide_eq_true ein) f (List.mem_of_getElem? hf1)
          have ff := (fit_no ha (pzs _ (List.mem_of_getElem? ha)) (pfs f (List.mem_of_getElem? hf1)).1 py).mp fits
          have wd := brk_word hf2 ff.1 ff.2
          refine iteT ?_
          refine ⟨_, rfl, _, rfl, ⟨_, SqL.of hD⟩, fun D2 nD2 => ?_⟩
          refine lcz (n := rs.length) walk_list (fun _ _ g s => s.seq g) (fs.map fun f => some (V.bl (decide (("narrow" : Str) ∈ brkW a (grdQ b g pr.1) f.1 f.2 y) || decide (("broad" : Str) ∈ brkW a (grdQ b g pr.1) f.1 f.2 y)))) (by rw [List.length_map]; omega) (szs (by omega)) (SqL.of hD) nD2 (fun i3 x H5 H6 o N M hi3 ho s5 yy hN hM => ?_) (fun H5 s5 hD2 => ?_)
          · obtain ⟨rfl, hx⟩ := yy
            obtain ⟨f3, hf3⟩ : ∃ f3, fs[i3]? = some f3 := ⟨_, List.getElem?_eq_getElem (by omega)⟩
            rw [List.getElem?_map, hf3] at ho
            cases ho
            obtain ⟨t3, rfl, ht3⟩ := hr i3 x hx f3 hf3
            replace ht3 := s5 _ _ ht3
            refine ⟨rfl, yesT ?_⟩
            refine ⟨_, rfl, _, _, rfl, .inr (SqT.of ht3), rfl, flat_strs _, ?_⟩
            simp only [Bool.false_eq_true, if_false]
            rw [inV_str]
            refine ⟨_, rfl, ?_⟩
            have hN' : N (V.bl (decide (("narrow" : Str) ∈ brkW a (grdQ b g pr.1) f3.1 f3.2 y) || decide (("broad" : Str) ∈ brkW a (grdQ b g pr.1) f3.1 f3.2 y))) H6 := hN _ _ rfl (Same.refl _)
            clear hN
            generalize decide (("narrow" : Str) ∈ brkW a (grdQ b g pr.1) f3.1 f3.2 y) = c1 at hN' ⊢
            cases c1 with
            | true => exact iteT hN'
            | false =>
              refine iteF ?_
              refine ⟨_, rfl, _, _, rfl, .inr (SqT.of ht3), rfl, flat_strs _, ?_⟩
              simp only [Bool.false_eq_true, if_false]
              rw [inV_str]
              exact hN'
          have ef : (fs.map fun f => some (V.bl (decide (("narrow" : Str) ∈ brkW a (grdQ b g pr.1) f.1 f.2 y) || decide (("broad" : Str) ∈ brkW a (grdQ b g pr.1) f.1 f.2 y)))).filterMap _root_.id = (fs.map fun f => decide (("narrow" : Str) ∈ brkW a (grdQ b g pr.1) f.1 f.2 y) || decide (("broad" : Str) ∈ brkW a (grdQ b g pr.1) f.1 f.2 y)).map V.bl := by rw [List.filterMap_map, List.map_map]; rw [show (_root_.id ∘ fun f : Q2 × Q2 => some (V.bl (decide (("narrow" : Str) ∈ brkW a (grdQ b g pr.1) f.1 f.2 y) || decide (("broad" : Str) ∈ brkW a (grdQ b g pr.1) f.1 f.2 y)))) = (some ∘ fun f : Q2 × Q2 => V.bl (decide (("narrow" : Str) ∈ brkW a (grdQ b g pr.1) f.1 f.2 y) || decide (("broad" : Str) ∈ brkW a (grdQ b g pr.1) f.1 f.2 y))) from rfl, List.filterMap_eq_map]; rfl
          rw [ef] at hD2
          refine ⟨D2, _, rfl, SqL.of hD2, _, rfl, ?_⟩
          rw [show (fs.map fun f => decide (("narrow" : Str) ∈ brkW a (grdQ b g pr.1) f.1 f.2 y) || decide (("broad" : Str) ∈ brkW a (grdQ b g pr.1) f.1 f.2 y)).any _root_.id = true by rw [List.any_map, List.any_eq_true]; exact ⟨f, List.mem_of_getElem? hf1, wd⟩]
          refine iteF ?_
          exact ⟨⟨_, _, _, _, _, rfl⟩, (s1.trans s3).trans s5⟩
      · rintro σ H1 ⟨⟨v5, v6, v7, v8, v9, rfl⟩, s1⟩
        have G1 := G.same s1
        obtain ⟨dx, qq, hpg, aq⟩ := G1.ag.ob
        obtain ⟨r1, lo1, hi1, A1⟩ := G1.a1
        obtain ⟨r2, lo2, hi2, A2⟩ := G1.a2
        obtain ⟨⟨d1, T1, ps1, u1, h1, hq1, _⟩, _⟩ := id A1
        obtain ⟨⟨d2, T2, ps2, u2, h2, hq2, _⟩, _⟩ := id A2
        refine ⟨_, rfl, T, _, _, _, rfl, rfl, s1.sqt sqT, atI_of (n := 1) rfl rfl, q', _, rfl, .inr (s1.sqt sqq), ?_⟩
        walk_at "y"
        rw [show decide (V.int (ws.length : Int) = (fun i j => V.int (i * j)) (zs.length : Int) (ys.length : Int)) = true from decide_eq_true (by show V.int _ = V.int _; rw [lws]; simp)]
        exact kk _ s1
theorem ok_law {P : Program} {w : World} {K : PySem.W.Frag} {mg : Str → Option Value} {base : Heap} {φ : Fds} (T : Txt K mg φ) : FnOk P w K mg base CX0 11 (He.fAd K ("law", none)) φ.law p_law (sp_law K) := by
  obtain ⟨_, B0v, B0⟩ := b_l_hand_2 T
  obtain ⟨_, B1v, B1⟩ := b_l_grades_1 T
  obtain ⟨_, B2v, B2⟩ := b_l_marks_of_2 T
  obtain ⟨_, B3v, B3⟩ := b_Grid_init_4 T
  obtain ⟨_, B4v, B4⟩ := b_l_measures_1 T
  obtain ⟨_, B5v, B5⟩ := b_l_any_ladder_2 T
  obtain ⟨_, B6v, B6⟩ := b_l_loose_1 T
  obtain ⟨_, B7v, B7⟩ := b_l_feet_of_3 T
  obtain ⟨_, B8v, B8⟩ := b_Measure_init_3 T
  obtain ⟨_, B9v, B9⟩ := b_pair_for_3 T
  obtain ⟨_, B10v, B10⟩ := b_stock_for_3 T
  obtain ⟨_, B11v, B11⟩ := b_l_stock_right_4 T
  obtain ⟨_, B12v, B12⟩ := b_fits_3 T
  obtain ⟨_, B13v, B13⟩ := b_shows_pair_4 T
  obtain ⟨_, B14v, B14⟩ := b_l_pairs_right_5 T
  refine T.f_law.ok sc_law (fun vs H Q E h => ?_) (fun cdv A outer s H vs Q E hr h => ?_)
  · obtain ⟨a, ns, rfl, hS, hlen, kk⟩ := h; rfl
  · obtain ⟨a, ns, rfl, hS, hlen, kk⟩ := h
    refine ⟨_, PSs.nox (pss_cons (ps_for PassesOwn.never rfl (pi_range1 rfl T.z_range (pa_cons (pe_callB (id := "max") (call_max2 rfl) (by rfl) T.z_max (by decide +kernel) (pa_cons pe_int (pa_cons (pe_callB (id := "min") (call_min2 rfl) (by rfl) T.z_min (by decide +kernel) (pa_cons pe_int (pa_cons (pe_callB (id := "len") (lenS (K := K)) (by rfl) T.z_len PySem.boot_len (pa_cons (pv 0) pa_nil)) pa_nil))) pa_nil))) pa_nil)) (pg_name (i := 1) sc_law.nd rfl (Or.inl rfl))
      (pss_cons (ps_cut (ps_set (i := 2) sc_law.nd rfl (Or.inl rfl) (pe_call (ok_l_hand (K := K) T) (hr.mono (by decide)) rfl T.g_l_hand T.f_l_hand.kp B0 B0v pass0 (pa_cons (pv 0) (pa_cons (pv 1) pa_nil)))))
      (pss_cons (ps_cut (ps_set (i := 3) sc_law.nd rfl (Or.inl rfl) (pe_lst (pa_cons (pe_call (ok_l_marks_of (K := K) T) (hr.mono (by decide)) rfl T.g_l_marks_of T.f_l_marks_of.kp B2 B2v pass0 (pa_cons (pv 2) (pa_cons pe_int pa_nil))) (pa_cons (pe_call (ok_l_marks_of (K := K) T) (hr.mono (by decide)) rfl T.g_l_marks_of T.f_l_marks_of.kp B2 B2v pass0 (pa_cons (pv 2) (pa_cons pe_int pa_nil))) (pa_cons (pe_call (ok_l_grades (K := K) T) (hr.mono (by decide)) rfl T.g_l_grades T.f_l_grades.kp B1 B1v pass0 (pa_cons (pv 2) pa_nil)) pa_nil))))))
      (pss_cons (ps_cut (ps_set (i := 4) sc_law.nd rfl (Or.inr rfl) (pe_make T.mk_Grid (ok_Grid_init (K := K) T) (hr.mono (by decide)) rfl T.g_Grid B3 B3v pass0 (pa_cons (pe_call (ok_l_any_ladder (K := K) T) (hr.mono (by decide)) rfl T.g_l_any_ladder T.f_l_any_ladder.kp B5 B5v pass0 (pa_cons (pv 2) (pa_cons (pe_ix (ixl (K := K)) (pv 3) pe_int (fun _ _ => rfl)) pa_nil))) (pa_cons (pe_call (ok_l_any_ladder (K := K) T) (hr.mono (by decide)) rfl T.g_l_any_ladder T.f_l_any_ladder.kp B5 B5v pass0 (pa_cons (pv 2) (pa_cons (pe_ix (ixl (K := K)) (pv 3) pe_int (fun _ _ => rfl)) pa_nil))) (pa_cons (pe_ix (ixt (K := K)) (pe_call (ok_l_measures (K := K) T) (hr.mono (by decide)) rfl T.g_l_measures T.f_l_measures.kp B4 B4v pass0 (pa_cons (pe_slice (slL (K := K)) (pv 3) (po_some pe_int) po_none) pa_nil)) pe_int (fun _ _ => rfl)) pa_nil))))))
      (pss_cons (ps_cut (ps_set (i := 5) sc_law.nd rfl (Or.inl rfl) (pe_call (ok_l_loose (K := K) T) (hr.mono (by decide)) rfl T.g_l_loose T.f_l_loose.kp B6 B6v pass0 (pa_cons (pv 2) pa_nil))))
      (pss_cons (ps_cut (ps_asg (pe_tup (pa_cons (pe_make T.mk_Measure (ok_Measure_init (K := K) T) (hr.mono (by decide)) rfl T.g_Measure B8 B8v pass0 (pa_cons (pe_ix (ixt (K := K)) (pv 5) pe_int (fun _ _ => rfl)) (pa_cons (pe_ix (ixt (K := K)) (pv 5) pe_int (fun _ _ => rfl)) pa_nil))) (pa_cons (pe_callTy (T := "tuple") (tupleL (K := K)) (by rfl) T.z_tuple (by decide +kernel) (pa_cons (pe_lc (own := [("_law_one", 13)]) (g := gName 13) rfl sc_law.nd (pi_list (pe_call (ok_l_feet_of (K := K) T) (hr.mono (by decide)) rfl T.g_l_feet_of T.f_l_feet_of.kp B7 B7v pass0 (pa_cons (pv 2) (pa_cons (pv 3) (pa_cons (pv 5) pa_nil))))) (blkOk_by (own := [("_law_one", 13)]) (N := N_law) (sc := (defScope s_law)) (by decide +kernel)) (fun _ _ _ _ _ => (pg_name (i := 13) sc_law.nd rfl (Or.inl rfl))) (fun _ _ _ _ _ => pts_nil) (fun _ _ _ _ _ => (pe_call (ok_l_measures (K := K) T) (hr.mono (by decide)) rfl T.g_l_measures T.f_l_measures.kp B4 B4v pass0 (pa_cons (pv 13) pa_nil)))) pa_nil)) pa_nil))) (pg_tup rfl (pgs_cons (pg_name (i := 6) sc_law.nd rfl (Or.inr rfl)) (pgs_cons (pg_name (i := 7) sc_law.nd rfl (Or.inl rfl)) pgs_nil)))))
      (pss_cons (ps_cut (ps_set (i := 8) sc_law.nd rfl (Or.inl rfl) (pe_callTy (T := "tuple") (tupleL (K := K)) (by rfl) T.z_tuple (by decide +kernel) (pa_cons (pe_lc (own := [("_law_one", 13)]) (g := gName 13) rfl sc_law.nd (pi_tup (pv 7)) (blkOk_by (own := [("_law_one", 13)]) (N := N_law) (sc := (defScope s_law)) (by decide +kernel)) (fun _ _ _ _ _ => (pg_name (i := 13) sc_law.nd rfl (Or.inl rfl))) (fun _ _ _ _ _ => pts_nil) (fun _ _ _ _ _ => (pe_ix (ixt (K := K)) (pv 13) pe_int (fun _ _ => rfl)))) pa_nil))))
      (pss_cons (ps_cut (ps_par (i := 9) (j := 10) rfl sc_law.nd rfl rfl (by decide) rfl rfl (pa_cons (pe_call (ok_stock_for (K := K) T) (hr.mono (by decide)) rfl T.g_stock_for T.f_stock_for.kp B10 B10v pass0 (pa_cons (fldK (K := K) (pv 4) rfl) (pa_cons (pv 8) (pa_cons (pv 6) pa_nil)))) (pa_cons (pe_call (ok_pair_for (K := K) T) (hr.mono (by decide)) rfl T.g_pair_for T.f_pair_for.kp B9 B9v pass0 (pa_cons (pv 4) (pa_cons (pv 7) (pa_cons (pv 6) pa_nil)))) pa_nil)) (by rfl)))
      (pss_cons (ps_cut (ps_if (pt_not (pt_val (pe_call (ok_l_stock_right (K := K) T) (hr.mono (by decide)) rfl T.g_l_stock_right T.f_l_stock_right.kp B11 B11v pass0 (pa_cons (fldK (K := K) (pv 4) rfl) (pa_cons (pv 8) (pa_cons (pv 6) (pa_cons (pv 9) pa_nil)))))))
      (pss_one (ps_ret pe_bl))
      pss_nil))
      (pss_cons (ps_cut (ps_set (i := 11) sc_law.nd rfl (Or.inr rfl) (pe_lc (own := [("_law_one", 13)]) (g := gName 13) rfl sc_law.nd (pi_tup (pv 8)) (blkOk_by (own := [("_law_one", 13)]) (N := N_law) (sc := (defScope s_law)) (by decide +kernel)) (fun _ _ _ _ _ => (pg_name (i := 13) sc_law.nd rfl (Or.inl rfl))) (fun _ _ _ _ _ => pts_nil) (fun _ _ _ _ _ => (pe_call (ok_fits (K := K) T) (hr.mono (by decide)) rfl T.g_fits T.f_fits.kp B12 B12v pass0 (pa_cons (fldK (K := K) (pv 4) rfl) (pa_cons (pv 13) (pa_cons (pv 6) pa_nil))))))))
      (pss_cons (ps_cut (ps_setLcD (i := 12) (s0 := s) (H0 := H) (own := [("_law_size", 14)]) (g := gName 14) rfl sc_law.nd rfl rfl (sw_true rfl rfl rfl (by decide +kernel)) (pi_tup (pe_ix (ixl (K := K)) (pv 11) pe_int (fun _ _ => rfl))) (blkOk_by (own := [("_law_size", 14)]) (N := N_law) (sc := (defScope s_law)) (by decide +kernel)) (pts_one (pt_val (pe_callB (id := "all") (allK (K := K)) (by rfl) T.z_all (by decide +kernel) (pa_cons (pe_lc (own := [("_law_run", 15)]) (g := gName 15) rfl sc_law.nd (pi_listK (K := K) (pv 11)) (blkOk_by (own := [("_law_run", 15)]) (N := N_law) (sc := (relS _ (defScope s_law))) (by decide +kernel)) (fun _ _ _ _ _ => (pg_name (i := 15) sc_law.nd rfl (Or.inl rfl))) (fun _ _ _ _ _ => pts_nil) (fun _ _ _ _ _ => (pe_cmpR (inK (K := K)) (pv 14) (pv 15) (by rfl)))) pa_nil)))) (pv 14) (fun _ _ _ _ _ => (pg_name (i := 14) sc_law.nd rfl (Or.inr rfl))) (fun _ _ _ _ _ => (pts_one (pt_val (pe_callB (id := "all") (allK (K := K)) (by rfl) T.z_all (by decide +kernel) (pa_cons (pe_lc (own := [("_law_run", 15)]) (g := gName 15) rfl sc_law.nd (pi_listK (K := K) (pv 11)) (blkOk_by (own := [("_law_run", 15)]) (N := N_law) (sc := (relS _ (defScope s_law))) (by decide +kernel)) (fun _ _ _ _ _ => (pg_name (i := 15) sc_law.nd rfl (Or.inl rfl))) (fun _ _ _ _ _ => pts_nil) (fun _ _ _ _ _ => (pe_cmpR (inK (K := K)) (pv 14) (pv 15) (by rfl)))) pa_nil))))) (fun _ _ _ _ _ => (pv 14))))
      (pss_cons (ps_cut (ps_if (pt_cmpR op_ne (pe_cmpR (neDK (K := K) hr.units) (pv 12) (pe_lst pa_nil) (nomark _)) (pe_and (pe_cmpR op_eq (pe_ix (ixt (K := K)) (pv 9) pe_int (fun _ _ => rfl)) pe_str (nomark _)) (pe_one (pe_cmpR op_eq (pe_callB (id := "len") (lenS (K := K)) (by rfl) T.z_len PySem.boot_len (pa_cons (pe_ix (ixt (K := K)) (pv 9) pe_int (fun _ _ => rfl)) pa_nil)) pe_int (nomark _)))) (nomark _))
      (pss_one (ps_ret pe_bl))
      pss_nil))
      (pss_cons (ps_cut (ps_if (PW.pt (pw_or (PW.pt (pw_and (pt_cmpR (eqDK (K := K) hr.units) (pv 12) (pe_lst pa_nil) (nomark _)) (pw_and1 (pt_cmpR op_eq (pe_ix (ixt (K := K)) (pv 10) pe_int (fun _ _ => rfl)) pe_str (nomark _))))) (pw_or1 (pt_cmpR op_notBl (pe_call (ok_shows_pair (K := K) T) (hr.mono (by decide)) rfl T.g_shows_pair T.f_shows_pair.kp B13 B13v pass0 (pa_cons (pv 4) (pa_cons (pv 7) (pa_cons (pv 6) (pa_cons (pv 10) pa_nil))))) pe_bl (nomark _)))))
      (pss_one (ps_ret pe_bl))
      pss_nil))
      (pss_one (ps_if (pt_not (pt_val (pe_call (ok_l_pairs_right (K := K) T) (hr.mono (by decide)) rfl T.g_l_pairs_right T.f_l_pairs_right.kp B14 B14v pass0 (pa_cons (pv 4) (pa_cons (pv 7) (pa_cons (pv 6) (pa_cons (pv 10) (pa_cons (pv 12) pa_nil))))))))
      (pss_one (ps_ret pe_bl))
      pss_nil)))))))))))))))
      (pss_one (ps_ret pe_bl))), ?_⟩
    have na_Grid_lengths := T.na_Grid_lengths
    have na_Grid_breadths := T.na_Grid_breadths
    have na_Grid_grade := T.na_Grid_grade
    have cl_Grid := T.cl_Grid
    have cl_Ladder := T.cl_Ladder
    have na_Ladder_marks := T.na_Ladder_marks
    have na_Ladder_rule := T.na_Ladder_rule
    have na_Ladder_least := T.na_Ladder_least
    have na_Ladder_most := T.na_Ladder_most
    
    walk_at "w"
    refine for_range (fun i σ H' => (∃ v1 v2 v3 v4 v5 v6 v7 v8 v9 v10 v11 v12 v13 v14 v15 : Option V, σ = [some (.ref a), v1, v2, v3, v4, v5, v6, v7, v8, v9, v10, v11, v12, v13, v14, v15]) ∧ Same H H') ?_ ?_ ?_
    · exact ⟨⟨_, _, _, _, _, _, _, _, _, _, _, _, _, _, _, rfl⟩, fun _ _ z => z⟩
    · rintro i σ H1 hi ⟨⟨v1, v2, v3, v4, v5, v6, v7, v8, v9, v10, v11, v12, v13, v14, v15, rfl⟩, s1⟩
      have hi4 : i < 3 := by
        refine Nat.lt_of_lt_of_le hi ?_
        split <;> split <;> omega
      clear hi
      obtain ⟨J1, eJ1⟩ : ∃ J : L2.St → Hp → Prop, J = fun σ' H' => ∃ h, σ' = [some (.ref a), some (.int (0 + (i : Int))), some (.ref h), v3, v4, v5, v6, v7, v8, v9, v10, v11, v12, v13, v14, v15] ∧ HandAt H' h 0 ∧ Same H1 H' ∧ H1 h = none := ⟨_, rfl⟩
      refine ⟨J1, ?_, ?_⟩
      · walk_at "w"
        refine ⟨ns, i, by show [V.ref a, V.int (0 + (i : Int))] = _; rw [Int.zero_add], s1.seq hS, by omega, fun h H3 nh s3 hh => ?_⟩
        subst eJ1
        exact ⟨h, rfl, hh, s3, nh⟩
      rintro σ1 H2 hJ1
      subst eJ1
      obtain ⟨h, rfl, hh, S2, nh⟩ := hJ1
      obtain ⟨J2, eJ2⟩ : ∃ J : L2.St → Hp → Prop, J = fun σ' H' => ∃ ps zs ys g, σ' = [some (.ref a), some (.int (0 + (i : Int))), some (.ref h), some (.ref ps), v4, v5, v6, v7, v8, v9, v10, v11, v12, v13, v14, v15] ∧ HandAt H' h 300 ∧ Kp h H2 H' ∧ SidesAt H' h ps 180 zs ys g ∧ RiseQ zs ∧ RiseQ ys ∧ zs.length ≤ 6 := ⟨_, rfl⟩
      refine ⟨J2, ?_, ?_⟩
      · walk_at "w"
        refine ⟨by decide, by decide, fun l1 us zs Hb hhb kb nl1 hl1 tq1 l10 l11 ri1 => ?_⟩
        have l16 : zs.length ≤ 6 := l11
        replace l11 : zs.length ≤ 8 := Nat.le_trans l11 (by decide)
        replace tq1 : Tqs Hb 180 us zs := tq1.mono (by decide)
        clear hh
        walk_at "w"
        refine ⟨by decide, by decide, fun l2 ws ys Hc hhc kc nl2 hl2 tq2 l20 l21 ri2 => ?_⟩
        replace l21 : ys.length ≤ 8 := Nat.le_trans l21 (by decide)
        replace tq2 : Tqs Hc 180 ws ys := tq2.mono (by decide)
        replace tq1 := tq1.kp hhb kc
        replace hl1 := kc _ _ hl1 nl1
        have kC := kb.trans kc
        clear hhb kc kb
        walk_at "w"
        intro vg g Hd hhd kd tg
        replace tq1 := tq1.kp hhc kd
        replace hl1 := kd _ _ hl1 nl1
        replace tq2 := tq2.kp hhc kd
        replace hl2 := kd _ _ hl2 nl2
        have kD := kC.trans kd
        clear hhc kd kC
        walk_at "w"
        intro ps nps
        have npsh := hhd.ne nps
        have sN : Same Hd (upd Hd ps (.lst [.ref l1, .ref l2, vg])) := same1 nps
        have hps : upd Hd ps (.lst [.ref l1, .ref l2, vg]) ps = some (.lst [.ref l1, .ref l2, vg]) := upd_same
        generalize upd Hd ps (.lst [.ref l1, .ref l2, vg]) = He' at *
        subst eJ2
        exact ⟨ps, zs, ys, g, rfl, (hhd.same sN).mono (by omega), kD.trans (Kp.same sN), ⟨⟨l1, l2, vg, us, ws, hps, sN _ _ hl1, sN _ _ hl2, tq1.same sN, tq2.same sN, tg.same sN, npsh, nl1, nl2⟩, l10, l11, l20, l21⟩, ri1, ri2, l16⟩
      rintro σ2 H3 hJ2
      subst eJ2
      obtain ⟨ps, zs, ys, g, rfl, hh3, k3, SD, ri1, ri2, lz⟩ := hJ2
      have S3 := S2.ofKp nh k3
      clear k3 S2 hh
      obtain ⟨J3, eJ3⟩ : ∃ J : L2.St → Hp → Prop, J = fun σ' H' => ∃ pg L1 L2, σ' = [some (.ref a), some (.int (0 + (i : Int))), some (.ref h), some (.ref ps), some (.ref pg), v5, v6, v7, v8, v9, v10, v11, v12, v13, v14, v15] ∧ HandAt H' h 310 ∧ Kp h H3 H' ∧ GC K (He.ga K "Measure") (He.ga K "Ladder") (He.ga K "Grid") H' pg 20 184 L1 L2 zs ys g := ⟨_, rfl⟩
      refine ⟨J3, ?_, ?_⟩
      · have b1 := SD.l0
        have b2 := SD.m0
        have c1 := SD.l1
        have c2 := SD.m1
        obtain ⟨l1, l2, vg, us, ws, hps, hl1, hl2, tq1, tq2, tg, n0, n1, n2⟩ := SD.ob
        walk_at "w"
        refine ⟨zs, rfl, hh3, by omega, n1, hl1, tq1, by decide, by decide, b1, by omega, ri1, fun L1 r1 lo1 hi1 Ha hha ka A1 => ?_⟩
        have hps' := ka _ _ hps n0
        have hl2' := ka _ _ hl2 n2
        have tq2' := tq2.kp hh3 ka
        have tg' := tg.kp hh3 ka
        walk_at "w"
        refine ⟨ys, rfl, hha, by omega, n2, hl2', tq2', by decide, by decide, b2, by omega, ri2, fun L2' r2 lo2 hi2 Hb hhb kb A2 => ?_⟩
        replace A1 := A1.kp hha kb
        have hps2 := kb _ _ hps' n0
        have tg2 := tg'.kp hha kb
        walk_at "w"
        intro pc npc
        have ec : cutV [V.ref l1, V.ref l2, vg] (some 2) none = [vg] := by rw [cutV_drop _ (i := 2) (n := 2) rfl]; rfl
        rw [ec]
        have sN : Same Hb (upd Hb pc (.lst [vg])) := same1 npc
        refine ⟨pc, 20, [vg], [g], rfl, .inl (SqL.of upd_same), Tqs.one (tg2.same sN), by decide, by decide, Nat.le_of_ble_eq_true rfl, fun T1 qs HA sA hT1 hm => ?_⟩
        replace sA := sN.trans sA
        replace A1 := A1.same sA
        replace A2 := A2.same sA
        obtain ⟨qg, eq, ag⟩ := hm.at (i := 0) (z := g) rfl
        clear sN npc hps' hl2' tq2' tg' hps2 tg2
        walk_at "w"
        refine grd_made (k := 184) (j := 20) (e := some g) A1 A2 ⟨qg, rfl, ag⟩ (by decide) (by decide) fun pg HB _ sB AG => ?_
        subst eJ3
        exact ⟨pg, L1, L2', rfl, ((hhb.same sA).same sB).mono (by omega), ((ka.trans kb).trans (Kp.same sA)).trans (Kp.same sB), ⟨AG, ⟨_, _, _, A1.same sB⟩, ⟨_, _, _, A2.same sB⟩, by decide, by decide, by decide, by decide, b1, by omega, b2, by omega⟩⟩
      rintro σ3 H4 hJ3
      subst eJ3
      obtain ⟨pg, L1, L2', rfl, hh4, k4, G⟩ := hJ3
      replace SD := SD.kp hh3 k4
      have S4 := S3.ofKp nh k4
      clear k4 S3 hh3
      obtain ⟨J4, eJ4⟩ : ∃ J : L2.St → Hp → Prop, J = fun σ' H' => ∃ vy y, σ' = [some (.ref a), some (.int (0 + (i : Int))), some (.ref h), some (.ref ps), some (.ref pg), some vy, v6, v7, v8, v9, v10, v11, v12, v13, v14, v15] ∧ HandAt H' h 330 ∧ Kp h H4 H' ∧ TQ H' vy 20 y := ⟨_, rfl⟩
      refine ⟨J4, ?_, ?_⟩
      · walk_at "w"
        intro vy y Ha hha ka ty
        subst eJ4
        exact ⟨vy, y, rfl, hha.mono (by omega), ka, ty⟩
      rintro σ4 H5 hJ4
      subst eJ4
      obtain ⟨vy, y, rfl, hh5, k5, ty⟩ := hJ4
      replace SD := SD.kp hh4 k5
      replace G := G.kp hh4 k5
      have S5 := S4.ofKp nh k5
      clear k5 S4 hh4
      obtain ⟨J5, eJ5⟩ : ∃ J : L2.St → Hp → Prop, J = fun σ' H' => ∃ qb at' us fs, σ' = [some (.ref a), some (.int (0 + (i : Int))), some (.ref h), some (.ref ps), some (.ref pg), some vy, some (.ref qb), some (.ref at'), v8, v9, v10, v11, v12, v13, v14, v15] ∧ Kp h H5 H' ∧ H' at' = some (.tup us) ∧ Fts K (He.ga K "Measure") H' 260 us fs ∧ QAt (He.ga K "Measure") H' qb 260 y ∧ 0 < fs.length ∧ fs.length ≤ 6 := ⟨_, rfl⟩
      refine ⟨J5, ?_, ?_⟩
      · obtain ⟨qy, rfl, hqy, py, y1, y2⟩ := id ty
        walk_at "w"
        refine q_made (k := 20) py y1 y2 (by decide) (by decide) fun qb Hc sc ab => ?_
        have kc : Kp h H5 Hc := Kp.same sc
        have SDc := SD.kp hh5 kc
        walk_at "w"
        refine ⟨zs, ys, g, y, rfl, hh5.same sc, by decide, SDc, ty.same sc, by decide, by decide, fun l us fs Ha hha ka nlh hl hf f0 f5 => ?_⟩
        have lu : us.length = fs.length := hf.len
        have ab2 := ab.kp (hh5.same sc) ka
        walk_at "w"
        intro D nD
        refine lcr (n := us.length) walk_list (fun _ _ q s => s.seq q) (fun i H v => ∀ f, fs[i]? = some f → FtV K (He.ga K "Measure") H 260 v f) (fun i H H' v q n f e => (q f e).nl n) (szs (by omega)) (SqL.of hl) nD (fun i x Hb Hc N M hi sb yy hN => ?_) (fun Hb ys' sb hD ly hy => ?_)
        · obtain ⟨rfl, hx⟩ := yy
          obtain ⟨f, hfi, T, v1, v2, rfl, hT, t1, t2⟩ := (hf.same sb).of hx
          refine ⟨rfl, yesT ?_⟩
          walk_at "w"
          refine ⟨[f.1, f.2], rfl, .inr (SqT.of hT), (Tqs.nil.cons t2).cons t1, by decide, by decide, Nat.le_of_ble_eq_true rfl, fun T7 ps' HJ sJ hT7 hm => ?_⟩
          obtain ⟨q1, e1, a1⟩ := hm.at (i := 0) (z := f.1) rfl
          obtain ⟨q2, e2, a2⟩ := hm.at (i := 1) (z := f.2) rfl
          have lp : ps'.length = 2 := hm.len
          refine hN _ _ sJ fun f' ef => ?_
          rw [hfi] at ef
          cases ef
          match ps', lp with
          | [y1, y2], _ =>
            cases e1; cases e2
            exact ⟨T7, q1, q2, rfl, SqT.of hT7, a1, a2⟩
        walk_at "w"
        intro T9 nT9
        have s9 : Same Hb (upd Hb T9 (.tup ys')) := same1 nT9
        have hT9 : upd Hb T9 (.tup ys') T9 = some (.tup ys') := upd_same
        have hfb : Fts K (He.ga K "Measure") Hb 260 ys' fs := ⟨by rw [ly, lu], fun i v f h1 h2 => hy i v h1 f h2⟩
        generalize upd Hb T9 (.tup ys') = Hc2 at *
        walk_at "w"
        intro p8 np8
        have s8 : Same Hc2 (upd Hc2 p8 (.tup [.ref qb, .ref T9])) := same1 np8
        refine ⟨p8, _, rfl, SqT.of upd_same, rfl, _, _, rfl, _, _, rfl, rfl, ?_⟩
        have sx := (sb.trans s9).trans s8
        subst eJ5
        exact ⟨qb, T9, ys', fs, rfl, (kc.trans ka).trans (Kp.same sx), s8 _ _ hT9, (hfb.same s9).same s8, (ab2.same sx).mono (by decide), f0, f5⟩
      rintro σ5 H6 hJ5
      subst eJ5
      obtain ⟨qb, at', us, fs, rfl, k6, hat, hf, aby, f0, f6⟩ := hJ5
      replace SD := SD.kp hh5 k6
      replace G := G.kp hh5 k6
      have S6 := S5.ofKp nh k6
      clear k6 S5 hh5 SD
      obtain ⟨J6, eJ6⟩ : ∃ J : L2.St → Hp → Prop, J = fun σ' H' => ∃ lg ps', σ' = [some (.ref a), some (.int (0 + (i : Int))), some (.ref h), some (.ref ps), some (.ref pg), some vy, some (.ref qb), some (.ref at'), some (.ref lg), v9, v10, v11, v12, v13, v14, v15] ∧ Same H6 H' ∧ H' lg = some (.tup ps') ∧ Mks (He.ga K "Measure") H' 260 ps' (fs.map Prod.fst) := ⟨_, rfl⟩
      refine ⟨J6, ?_, ?_⟩
      · have lu : us.length = fs.length := hf.len
        walk_at "w"
        intro D nD
        refine lcr (n := us.length) walk_tup (fun _ _ q s => s.sqt q) (fun i H v => ∀ f, fs[i]? = some f → ∃ q, v = .ref q ∧ QAt (He.ga K "Measure") H q 260 f.1) (fun i H H' v q n f e => by obtain ⟨q, e1, e2⟩ := q f e; exact ⟨q, e1, e2.nl n⟩) (szs (by omega)) (SqT.of hat) nD (fun i x Hb Hc N M hi sb yy hN => ?_) (fun Hb ys' sb hD ly hy => ?_)
        · obtain ⟨rfl, hx⟩ := yy
          obtain ⟨f, hfi, T, v1, v2, rfl, hT, t1, t2⟩ := (hf.same sb).of hx
          refine ⟨rfl, yesT ?_⟩
          refine ⟨_, rfl, T, _, _, _, rfl, rfl, hT, atI_of (n := 0) rfl rfl, ?_⟩
          refine hN _ _ (Same.refl _) fun f' ef => ?_
          rw [hfi] at ef
          cases ef
          exact ⟨v1, rfl, t1⟩
        walk_at "w"
        intro T9 nT9
        have s9 : Same Hb (upd Hb T9 (.tup ys')) := same1 nT9
        subst eJ6
        refine ⟨T9, ys', rfl, sb.trans s9, upd_same, by rw [List.length_map]; omega, fun i v z h1 h2 => ?_⟩
        rw [List.getElem?_map] at h2
        cases ef : fs[i]? with
        | none => rw [ef] at h2; cases h2
        | some f =>
          rw [ef] at h2
          cases h2
          obtain ⟨q, e1, e2⟩ := hy i v h1 f ef
          exact ⟨q, e1, e2.same s9⟩
      rintro σ6 H7 hJ6
      subst eJ6
      obtain ⟨lg, pl, rfl, s7, hlg, hml⟩ := hJ6
      replace G := G.same s7
      replace hat := s7 _ _ hat
      replace hf := hf.same s7
      replace aby := aby.same s7
      have S7 : Same H1 H7 := S6.trans s7
      have lx6 : (fs.map Prod.fst).length ≤ 6 := by rw [List.length_map]; exact f6
      have lx0 : 0 < (fs.map Prod.fst).length := by rw [List.length_map]; exact f0
      clear s7 S6
      obtain ⟨J7, eJ7⟩ : ∃ J : L2.St → Hp → Prop, J = fun σ' H' => ∃ T1 tv, σ' = [some (.ref a), some (.int (0 + (i : Int))), some (.ref h), some (.ref ps), some (.ref pg), some vy, some (.ref qb), some (.ref at'), some (.ref lg), some (.ref T1), some tv, v11, v12, v13, v14, v15] ∧ Same H7 H' ∧ StockV H' T1 (fitL zs (fs.map Prod.fst) y (0, 1)) ∧ ToldV H' tv (prs zs.length ys.length) (frstB zs ys g y fs) (goodP (prs zs.length ys.length) (frstB zs ys g y fs)) := ⟨_, rfl⟩
      refine ⟨J7, ?_, ?_⟩
      · obtain ⟨dx, qq, hpg, aq⟩ := G.ag.ob
        obtain ⟨r1, lo1, hi1, A1⟩ := G.a1
        walk_at "w"
        refine ⟨zs, r1, lo1, hi1, fs.map Prod.fst, y, none, rfl, A1, SqT.of hlg, hml, aby, rfl, by decide, by decide, by decide, by decide, by omega, fun T1 Ha sa SV => ?_⟩
        walk_at "w"
        refine ⟨zs, ys, g, y, us, fs, rfl, G.same sa, SqT.of (sa _ _ hat), hf.same sa, aby.same sa, by decide, by decide, by omega, fun tv Hb sb TD => ?_⟩
        walk_at "w"
        subst eJ7
        exact ⟨T1, tv, rfl, sa.trans sb, SV.same sb, TD⟩
      rintro σ7 H8 hJ7
      subst eJ7
      obtain ⟨T1, tv, rfl, s8, SV, TD⟩ := hJ7
      replace G := G.same s8
      replace hat := s8 _ _ hat
      replace hlg := s8 _ _ hlg
      replace hml := hml.same s8
      replace hf := hf.same s8
      replace aby := aby.same s8
      have S8 : Same H1 H8 := S7.trans s8
      clear s8 S7
      obtain ⟨ls, els⟩ : ∃ ls, ls = fitL zs (fs.map Prod.fst) y (0, 1) := ⟨_, rfl⟩
      obtain ⟨o, hB, hSV⟩ : ∃ o, BareAt ls o ∧ StkV H8 T1 ls o := by
        rw [← els] at SV
        rcases SV with ⟨n, b, h⟩ | ⟨b, h⟩
        · exact ⟨some n, b, h⟩
        · exact ⟨none, b, h⟩
      clear SV
      obtain ⟨J8, eJ8⟩ : ∃ J : L2.St → Hp → Prop, J = fun σ' H' => σ' = [some (.ref a), some (.int (0 + (i : Int))), some (.ref h), some (.ref ps), some (.ref pg), some vy, some (.ref qb), some (.ref at'), some (.ref lg), some (.ref T1), some tv, v11, v12, v13, v14, v15] ∧ Same H8 H' := ⟨_, rfl⟩
      refine ⟨J8, ?_, ?_⟩
      · obtain ⟨dx, qq, hpg, aq⟩ := G.ag.ob
        obtain ⟨r1, lo1, hi1, A1⟩ := G.a1
        have lz6 : zs.length ≤ 6 := lz
        walk_at "w"
        refine ⟨zs, r1, lo1, hi1, fs.map Prod.fst, y, o, rfl, A1, SqT.of hlg, hml, aby, by decide, by decide, by decide, by decide, lx6, lz6, lx0, by rw [← els]; exact hB, by rw [← els]; exact hSV, fun Ha sa => ?_⟩
        walk_at "w"
        subst eJ8
        exact ⟨rfl, sa⟩
      rintro σ8 H9 hJ8
      subst eJ8
      obtain ⟨rfl, s9⟩ := hJ8
      replace G := G.same s9
      replace hat := s9 _ _ hat
      replace hlg := s9 _ _ hlg
      replace hml := hml.same s9
      replace hf := hf.same s9
      replace aby := aby.same s9
      replace TD := TD.same s9
      have S9 : Same H1 H9 := S8.trans s9
      replace hSV : StkV H9 T1 ls o := hSV.same s9
      clear s9 S8
      obtain ⟨J9, eJ9⟩ : ∃ J : L2.St → Hp → Prop, J = fun σ' H' => ∃ D9, σ' = [some (.ref a), some (.int (0 + (i : Int))), some (.ref h), some (.ref ps), some (.ref pg), some vy, some (.ref qb), some (.ref at'), some (.ref lg), some (.ref T1), some tv, some (.ref D9), v12, v13, v14, v15] ∧ Same H9 H' ∧ FitsL H' D9 ls := ⟨_, rfl⟩
      refine ⟨J9, ?_, ?_⟩
      · obtain ⟨dx, qq, hpg, aq⟩ := G.ag.ob
        obtain ⟨r1, lo1, hi1, A1⟩ := G.a1
        have lpl : pl.length = (fs.map Prod.fst).length := hml.len
        walk_at "w"
        intro D nD
        refine lcr (n := pl.length) walk_tup (fun _ _ g s => s.sqt g) (fun i H v => ∃ T x, v = .ref T ∧ (fs.map Prod.fst)[i]? = some x ∧ H T = some (.tup ((idx zs.length (fitQ zs x y (0, 1))).map V.int))) (fun i H H' v ⟨T, x, e1, e2, e3⟩ n => ⟨T, x, e1, e2, n _ _ e3 rfl⟩) (szs (by omega)) (SqT.of hlg) nD (fun i x Ha Hb N M hi' sa yy hN => ?_) (fun Ha ts sa hD lt ht => ?_)
        · obtain ⟨rfl, hx⟩ := yy
          obtain ⟨q, x', rfl, hx', qx⟩ := (hml.same sa).of hx
          have hpg2 := sa _ _ hpg
          refine ⟨rfl, yesT ?_⟩
          walk_at "w"
          exact ⟨zs, r1, lo1, hi1, x', y, none, rfl, A1.same sa, qx, aby.same sa, rfl, by decide, by decide, by decide, by decide, fun T H3 s3 hT => hN _ _ s3 ⟨T, x', rfl, hx', hT⟩⟩
        subst eJ9
        refine ⟨D, rfl, sa, ts, hD, by rw [els]; unfold fitL; rw [List.length_map, List.length_map]; rw [List.length_map] at lpl; omega, fun i v l e1 e2 => ?_⟩
        obtain ⟨T, x, ev, ex, hT⟩ := ht i v e1
        rw [els] at e2
        unfold fitL at e2
        rw [List.getElem?_map, ex] at e2
        cases e2
        exact ⟨T, ev, hT⟩
      rintro σ9 H10 hJ9
      subst eJ9
      obtain ⟨D9, rfl, s10, FL⟩ := hJ9
      replace G := G.same s10
      replace hat := s10 _ _ hat
      replace hf := hf.same s10
      replace aby := aby.same s10
      replace TD := TD.same s10
      have S10 : Same H1 H10 := S9.trans s10
      replace hSV : StkV H10 T1 ls o := hSV.same s10
      have ls0 : 0 < ls.length := by rw [els]; unfold fitL; rw [List.length_map]; exact lx0
      have ls6 : ls.length ≤ 6 := by rw [els]; unfold fitL; rw [List.length_map]; exact lx6
      have l24 : ∀ l ∈ ls, l.length ≤ 24 := fun l hl => by rw [els] at hl; exact Nat.le_trans (fitL_len l hl) (by omega)
      clear s10 S9 hml hlg
      obtain ⟨J10, eJ10⟩ : ∃ J : L2.St → Hp → Prop, J = fun σ' H' => ∃ D10, σ' = [some (.ref a), some (.int (0 + (i : Int))), some (.ref h), some (.ref ps), some (.ref pg), some vy, some (.ref qb), some (.ref at'), some (.ref lg), some (.ref T1), some tv, some (.ref D9), some (.ref D10), v13, v14, v15] ∧ Same H10 H' ∧ H' D10 = some (.lst ((alL ls).map V.int)) := ⟨_, rfl⟩
      refine ⟨J10, ?_, ?_⟩
      · obtain ⟨ts, hD9, lts, hts⟩ := FL.ob
        obtain ⟨l0, lr, elr⟩ : ∃ l0 lr, ls = l0 :: lr := by
          cases e : ls with
          | nil => rw [e] at ls0; simp at ls0
          | cons l0 lr => exact ⟨l0, lr, rfl⟩
        have h0 : ls[0]? = some l0 := by rw [elr]; rfl
        obtain ⟨T0, e0, hT0⟩ := FitsL.at (D := D9) lts hts h0
        have ll0 := l24 l0 (List.mem_of_getElem? h0)
        have eal : alL ls = l0.filter fun z => ls.all fun m => decide (z ∈ m) := by rw [elr]; rfl
        refine ⟨_, rfl, D9, ts, _, _, rfl, rfl, SqL.of hD9, atI_of (n := 0) rfl e0, T0, rfl, ⟨_, SqT.of hT0⟩, fun D nD => ?_⟩
        refine lcz (n := l0.length) (by have := walk_tup (K := K) (a := T0) (xs := l0.map V.int); rwa [List.length_map] at this) (fun _ _ g s => s.sqt g) (l0.map fun z => if (ls.all fun m => decide (z ∈ m)) = true then some (V.int z) else none) (by rw [List.length_map]) (szs (by omega)) (SqT.of hT0) nD (fun i x Ha Hb o2 N M hi ho sa yy hN hM => ?_) (fun Ha sa hD => ?_)
        · obtain ⟨rfl, hx⟩ := yy
          rw [List.getElem?_map, List.getElem?_eq_getElem hi] at hx ho
          cases hx; cases ho
          generalize l0[i] = z at *
          have hDa := sa _ _ hD9
          refine ⟨rfl, ?_⟩
          refine ⟨_, rfl, _, rfl, ⟨_, SqL.of hDa⟩, fun D2 nD2 => ?_⟩
          refine lcz (n := ts.length) walk_list (fun _ _ g s => s.seq g) (ls.map fun m => some (V.bl (decide (z ∈ m)))) (by rw [List.length_map, lts]) (szs (by omega)) (SqL.of hDa) nD2 (fun i3 x H5 H6 o3 N3 M3 hi3 ho3 s5 yy hN3 hM3 => ?_) (fun H5 s5 hD2 => ?_)
          · obtain ⟨rfl, hx⟩ := yy
            have hl0 : ls[i3]? = some ls[i3] := List.getElem?_eq_getElem (by omega)
            obtain ⟨T2, rfl, hT2⟩ := hts i3 x _ hx hl0
            rw [List.getElem?_map, hl0] at ho3
            cases ho3
            generalize ls[i3] = m3 at *
            refine ⟨rfl, yesT ?_⟩
            refine ⟨_, rfl, _, rfl, _, _, rfl, .inr (SqT.of (s5 _ _ (sa _ _ hT2))), rfl, flat_ints _, ?_⟩
            simp only [Bool.false_eq_true, if_false]
            rw [inV_ints]
            exact hN3 _ _ rfl (Same.refl _)
          rw [fmap_some] at hD2
          refine ⟨D2, ls.map fun m => decide (z ∈ m), rfl, SqL.of (by rw [hD2, List.map_map]; rfl), _, rfl, ?_⟩
          have eb : (ls.map fun m => decide (z ∈ m)).all _root_.id = ls.all fun m => decide (z ∈ m) := by rw [List.all_map]; rfl
          rw [eb]
          cases ec : ls.all fun m => decide (z ∈ m) with
          | true =>
            refine iteT ?_
            refine ⟨_, rfl, ?_⟩
            exact hN _ _ (if_pos ec) s5
          | false =>
            refine iteF ?_
            exact hM _ (if_neg (by rw [ec]; decide)) s5
        subst eJ10
        refine ⟨D, rfl, sa, ?_⟩
        rw [hD, eal, fmap_if]
      rintro σ10 H11 hJ10
      subst eJ10
      obtain ⟨D10, rfl, s11, hD10⟩ := hJ10
      replace G := G.same s11
      replace hat := s11 _ _ hat
      replace hf := hf.same s11
      replace aby := aby.same s11
      replace TD := TD.same s11
      have S11 : Same H1 H11 := S10.trans s11
      replace hSV : StkV H11 T1 ls o := hSV.same s11
      have lal := alL_len l24
      clear s11 S10 FL
      obtain ⟨J11, eJ11⟩ : ∃ J : L2.St → Hp → Prop, J = fun σ' H' => σ' = [some (.ref a), some (.int (0 + (i : Int))), some (.ref h), some (.ref ps), some (.ref pg), some vy, some (.ref qb), some (.ref at'), some (.ref lg), some (.ref T1), some tv, some (.ref D9), some (.ref D10), v13, v14, v15] ∧ Same H11 H' := ⟨_, rfl⟩
      refine ⟨J11, ?_, ?_⟩
      · refine ⟨_, rfl, szl (Nat.zero_le _), fun p9 np9 => ?_⟩
        have sN : Same H11 (upd H11 p9 (.lst [])) := same1 np9
        have hp9 : upd H11 p9 (.lst []) p9 = some (.lst []) := upd_same
        have hDa := sN _ _ hD10
        replace hSV : StkV (upd H11 p9 (.lst [])) T1 ls o := hSV.same sN
        generalize upd H11 p9 (.lst []) = Ha at *
        refine ⟨.list ((alL ls).map PyData.int), .list [], dpL hDa, .lst (SqL.of hp9) .nil, shL _, by decide +kernel, ?_⟩
        rw [eqv_nil]
        cases o with
        | some n =>
          have hT : Ha T1 = some (.tup [.str "never", .int (n : Int)]) := hSV
          refine ⟨_, rfl, T1, _, _, _, rfl, rfl, SqT.of hT, atI_of (n := 0) rfl rfl, ?_⟩
          refine ⟨rfl, ?_⟩
          rw [show decide (V.str "never" = V.str "stock") = false from by decide +kernel]
          refine ⟨_, rfl, iteF ?_⟩
          rw [alL_bare hB]
          refine ⟨rfl, _, rfl, ?_⟩
          rw [show (!decide (V.bl (!decide (([] : List Int) = [])) = V.bl false)) = false from by decide +kernel]
          refine iteF ?_
          subst eJ11
          exact ⟨rfl, sN⟩
        | none =>
          obtain ⟨S, A, ss, as, hT, hS9, hA9, few⟩ := hSV
          refine ⟨_, rfl, T1, _, _, _, rfl, rfl, SqT.of hT, atI_of (n := 0) rfl rfl, ?_⟩
          refine ⟨rfl, ?_⟩
          rw [show decide (V.str "stock" = V.str "stock") = true from decide_eq_true rfl]
          refine ⟨_, rfl, iteT ?_⟩
          refine ⟨_, rfl, T1, _, _, _, rfl, rfl, SqT.of hT, atI_of (n := 1) rfl rfl, S, _, rfl, .inr (SqT.of hS9), ?_⟩
          refine ⟨rfl, ?_⟩
          refine ⟨rfl, _, rfl, ?_⟩
          obtain ⟨r1, lo1, hi1, A1⟩ := G.a1
          have pfs := hf.pos
          have C : RunsC ls zs.length := by
            rw [els]
            refine fit_runs A1.rise A1.posP (fun z hz => by obtain ⟨f, hf', rfl⟩ := List.mem_map.mp hz; exact (pfs f hf').1) aby.pos (by decide) fun z hz => ?_
            have hm : idx zs.length (fitQ zs z y (0, 1)) ∈ ls := by
              rw [els]; unfold fitL
              exact List.mem_map.mpr ⟨z, hz, rfl⟩
            have ne := hB _ hm
            obtain ⟨x0, hx0⟩ := List.exists_mem_of_ne_nil _ ne
            obtain ⟨i, hi, f, _⟩ := idx_mem.mp hx0
            exact ⟨i, hi, f⟩
          have e1 := alL_one ls0 C few
          have e2 : (!decide (alL ls = [])) = decide (V.int (((ss.map V.int).length : Nat) : Int) = V.int 1) := by
            rw [List.length_map]
            by_cases q : alL ls = []
            · rw [q]
              have : ¬ ss.length = 1 := fun z => (e1.mpr z) q
              rw [decide_eq_true rfl, decide_eq_false (fun z => by have := V.int.inj z; omega)]
              rfl
            · have := e1.mp q
              rw [decide_eq_false q, this]
              rfl
          rw [e2, decide_eq_true rfl]
          refine iteF ?_
          subst eJ11
          exact ⟨rfl, sN⟩
      rintro σ11 H12 hJ11
      subst eJ11
      obtain ⟨rfl, s12⟩ := hJ11
      replace G := G.same s12
      replace hat := s12 _ _ hat
      replace hf := hf.same s12
      replace aby := aby.same s12
      replace TD := TD.same s12
      replace hD10 := s12 _ _ hD10
      have S12 : Same H1 H12 := S11.trans s12
      clear s12 S11 hSV
      obtain ⟨J12, eJ12⟩ : ∃ J : L2.St → Hp → Prop, J = fun σ' H' => σ' = [some (.ref a), some (.int (0 + (i : Int))), some (.ref h), some (.ref ps), some (.ref pg), some vy, some (.ref qb), some (.ref at'), some (.ref lg), some (.ref T1), some tv, some (.ref D9), some (.ref D10), v13, v14, v15] ∧ Same H12 H' := ⟨_, rfl⟩
      refine ⟨J12, ?_, ?_⟩
      · refine ⟨_, rfl, szl (Nat.zero_le _), fun p9 np9 => ?_⟩
        have sN : Same H12 (upd H12 p9 (.lst [])) := same1 np9
        have hp9 : upd H12 p9 (.lst []) p9 = some (.lst []) := upd_same
        have hDa := sN _ _ hD10
        generalize upd H12 p9 (.lst []) = Ha at *
        refine ⟨.list ((alL ls).map PyData.int), .list [], dpL hDa, .lst (SqL.of hp9) .nil, shL _, by decide +kernel, ?_⟩
        rw [eqv_nil]
        have G2 := G.same sN
        refine ⟨_, rfl, ?_⟩
        by_cases q : alL ls = []
        · rw [decide_eq_true q]
          refine iteT ?_
          cases eg : goodP (prs zs.length ys.length) (frstB zs ys g y fs) with
          | some pr =>
            exfalso
            obtain ⟨l1, l2, nb⟩ := good_lt eg
            obtain ⟨a9, ha⟩ := ge2 (zs := zs) l1
            obtain ⟨b9, hb⟩ := ge2 (zs := ys) l2
            have nbf := frst_none.mp nb
            obtain ⟨r1, lo1, hi1, A1⟩ := G.a1
            have hin : (pr.1 : Int) ∈ alL ls := by
              rw [els]
              refine (alL_fit f0 l1).mpr fun f hf' => ?_
              have q := nbf f hf'
              rw [brkP_at ha hb] at q
              obtain ⟨_, h2, _, h4⟩ := brk_nil.mp q
              exact (fit_no ha (A1.posP _ (List.mem_of_getElem? ha)) (hf.pos f hf').1 aby.pos).mpr ⟨h2, h4⟩
            rw [q] at hin
            cases hin
          | none =>
            have TD2 := TD.same sN
            rw [eg] at TD2
            obtain ⟨T, q9, ws, rfl, hT, hq, hp⟩ := TD2
            refine ⟨_, rfl, T, _, _, _, rfl, rfl, SqT.of hT, atI_of (n := 0) rfl rfl, ?_⟩
            refine ⟨rfl, _, rfl, ?_⟩
            rw [show decide (V.str "none" = V.str "pair") = false from by decide +kernel]
            refine iteF ?_
            refine ⟨_, rfl, _, rfl, _, rfl, _, rfl, pg, at', qb, L1, L2', _, 20, 184, 260, zs, ys, g, y, us, fs, true, rfl, G2, sN.sqt (SqT.of hat), hf.same sN, aby.same sN, by decide, by decide, by omega, .inl ⟨TD.same sN, rfl⟩, fun Hz sz => ?_⟩
            refine ⟨_, _, rfl, rfl, ?_⟩
            rw [decide_eq_true rfl]
            refine ⟨_, rfl, iteF ?_⟩
            subst eJ12
            exact ⟨rfl, sN.trans sz⟩
        · rw [decide_eq_false q]
          refine iteF (iteF ?_)
          refine ⟨_, rfl, _, rfl, _, rfl, _, rfl, pg, at', qb, L1, L2', _, 20, 184, 260, zs, ys, g, y, us, fs, true, rfl, G2, sN.sqt (SqT.of hat), hf.same sN, aby.same sN, by decide, by decide, by omega, .inl ⟨TD.same sN, rfl⟩, fun Hz sz => ?_⟩
          refine ⟨_, _, rfl, rfl, ?_⟩
          rw [decide_eq_true rfl]
          refine ⟨_, rfl, iteF ?_⟩
          subst eJ12
          exact ⟨rfl, sN.trans sz⟩
      rintro σ12 H13 hJ12
      subst eJ12
      obtain ⟨rfl, s13⟩ := hJ12
      replace G := G.same s13
      replace hat := s13 _ _ hat
      replace hf := hf.same s13
      replace aby := aby.same s13
      replace TD := TD.same s13
      replace hD10 := s13 _ _ hD10
      have S13 : Same H1 H13 := S12.trans s13
      clear s13 S12
      refine ⟨_, rfl, _, rfl, _, rfl, _, rfl, _, rfl, pg, at', qb, D10, L1, L2', tv, 20, 184, 260, zs, ys, g, y, us, fs, alL ls, rfl, G, SqT.of hat, hf, aby, by decide, by decide, by omega, TD, hD10, by omega, fun i hi => by rw [els]; exact alL_fit f0 hi, fun Ha sa => ?_⟩
      refine ⟨_, rfl, iteF ?_⟩
      exact ⟨⟨_, _, _, _, _, _, _, _, _, _, _, _, _, _, _, rfl⟩, s1.trans (S13.trans sa)⟩
    · rintro σ H1 ⟨⟨v1, v2, v3, v4, v5, v6, v7, v8, v9, v10, v11, v12, v13, v14, v15, rfl⟩, s1⟩
      walk_at "w"
      exact kk _
end K73

open PySem PySem.W PySem.Calls PyProof.Rows
set_option maxRecDepth 100000 in
set_option maxHeartbeats 0 in
theorem PySem.Challenge.cw_sizeladders_k73_whole_stock_and_pairs_holds : PySem.Challenge.rw_sizeladders_k73_whole_stock_and_pairs.Holds := by
  exact K73.pre fun T => K73.ok_law T
