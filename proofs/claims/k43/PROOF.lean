import PyProof.Rows.All
import Wide.All
import OpenK.AllK
import Wide.FinOn
import KE.KStateDown
import HandS.ForMost
import HandS.More
import HandS.WordsExc
import HandS.Defaults
import HandS.MakeKw
import HandS.MakeKwOnly
import HandS.Wide
import HandS.IsInst
import HandS.Flow
import HandS.Style
import HandS.OwnEq
import HandS.Head0
import HandS.Head1
import HandS.Head2
import HandS.HeadEnd
import HandS.HeadHook1
import HandS.HeadHook2
import HandS.ExcIs
import HandS.ExcOwn
import HandS.TryOnly
import HandS.ExcBuiltin
import HandS.FStr
import HandS.Text
import HandS.Codes
import HandS.StrMore
import HandS.Walk
import HandS.Zip
import HandS.Conv
import HandS.Iter
import KE.GoesEnum
import KE.DataMinMax
import HandS.SortKw
import HandS.TupAny
import HandS.FStrTup
import HandS.Deep
import HandS.SetFor
import HandS.Strs
import PyProof.ReprHeadsTuple
import PyProof.ReprNest
import KE.KFmtOwn
import HandS.RevRange
import HandS.ExcInit
import HandS.Nested
import KE.KExcSuper
import HandS.ExcField
import HandS.ExcValue
import PyProof.RowDictHeap
import HandS.TupLe
import KE.KSortKeyAny
import PySem.Challenge.RW_sizeladders_k43_fewest_sizes_walked
set_option Elab.async false
set_option linter.all false
set_option maxRecDepth 100000
set_option maxHeartbeats 4000000
namespace My
open PySem PySem.Spec PyProof.Rows L2
/-! ### operators of great numbers -/
section
variable {X : Cx}
theorem op_fd : OpR X (binaryOp .FloorDiv) (rI (fun _ j => j ≠ 0 ∧ j.natAbs.log2 < 9000) fun i j => .int (i.fdiv j)) :=
  opI fun _ _ _ _ _ _ _ hc q => floordiv_int hc.1 q (.inl (PyProof.noPylong_of_log2 hc.2))
theorem op_mulA : OpR X (binaryOp .Mult) (rI (fun i j => CMul i j ∨ CMulW i j) fun i j => .int (i * j)) :=
  opI fun _ _ _ _ _ _ _ hc q => mul_int q (hc.elim (fun h => h.ok) (fun h => h.ok))
/-! ### cuts: what is wanted behind a piece, said by a word of one's own -/
def tCutS (t : TS) : TS := fun D σ H => ∃ J : L2.St → Hp → Prop, t { D with nx := J } σ H ∧ ∀ σ' H', J σ' H' → D.nx σ' H'
theorem ps_cut {st : Stmt} {t : TS} (h : PS X st t) : PS X st (tCutS t) := by
  refine ⟨fun pins s σ H D I hw => ?_⟩
  obtain ⟨J, h1, h2⟩ := hw
  refine thn (h.run pins s σ H _ I h1) fun f s' q => ?_
  cases f with
  | next => obtain ⟨σ', H', I', q'⟩ := q; exact ⟨σ', H', I', h2 _ _ q'⟩
  | brk => exact q
  | cont => exact q
  | ret u => exact q
/-! ### calls by keywords -/
variable {CX : CXT} {k n : Nat} {f C : Addr} {fd : FuncData} {ps ks : List Str} {sp : Sp} {E : XK} {x m : Str} {p pos apos : Pos} {o e : Expr} {es : List Expr} {kws : List Keyword} {ta : TE} {t tk : TA} {g : List Value → List Value → List Value} {gV : List V → List V → List V}
/-- f(k = v, ..) -/
theorem pe_callK0 (F : FnOk X.prog X.w X.K X.mg X.base CX k f fd ps sp) (hr : Room k X.A) (hg : Gl X x) (hm : X.mg x = some (.ref f)) (hk : PySem.W.keepIn X.K (.ref f) = true) (hb : KBn X.K fd ps 0 ks g gV) (hx : Passes CX X E)
    (hkw : PK X kws tk) (hall : (backToKw pos (keywordEach kws X.env)).all (·.1.isSome) = true := by rfl) (hks : (backToKw pos (keywordEach kws X.env)).filterMap (·.1) = ks := by rfl)
    (hdb : (x == ("__debug__" : Str)) = false := by decide) (hpl : ((backTo pos (starEach [] X.env)).any (·.1) || (backToKw pos (keywordEach kws X.env)).any (·.1.isNone)) = false := by rfl) :
    PE X (.Call (.Name x p) [] kws pos) (tCallN 0 ks.length sp gV E tNil tk) := by
  refine ⟨fun pins s σ H Q I h => ?_⟩
  refine wpAny_Call_Name_kw (ld_glob I hg hm ?_ hdb)
  refine PySem.W.callWith_KW0 (h₀ := X.base) I.ok.mod.kin hk hall ?_ hpl
  refine thn (hkw.run pos pins s σ H _ I h) fun ws s2 ⟨zs, H2, I2, rz, l1, l2, q2⟩ => ⟨I2.kIn, ?_⟩
  rw [hks]
  exact run_fnN (us := []) (vs := []) F hr hb hx I2 .nil rz rfl l2 q2
end
/-! ### heaps -/
theorem up1 {H : Hp} {p x : Addr} {o u : HO} (hp : H p = none) (hx : H x = some o) : upd H p u x = some o := by
  rw [upd_ne (ne_of_none hx hp)]; exact hx
theorem same1 {H : Hp} {p : Addr} {u : HO} (hp : H p = none) : Same H (upd H p u) := fun _ _ e => up1 hp e
theorem _root_.L2.Same.sqt {K : PySem.W.Frag} {H H' : Hp} {a : Addr} {xs : List V} (e : Same H H') (h : SqT K H a xs) : SqT K H' a xs := by
  rcases h with (h | ⟨o, h⟩) | h
  · exact .inl (.inl (e _ _ h))
  · exact .inl (.inr ⟨o, e _ _ h⟩)
  · exact .inr h
/-- all stays but what stands at h -/
def Kp (h : Addr) (H H' : Hp) : Prop := ∀ b o, H b = some o → b ≠ h → H' b = some o
theorem Kp.refl (h : Addr) (H : Hp) : Kp h H H := fun _ _ e _ => e
theorem Kp.trans {h : Addr} {H H1 H2 : Hp} (a : Kp h H H1) (b : Kp h H1 H2) : Kp h H H2 := fun c o e n => b c o (a c o e n) n
theorem Kp.same {h : Addr} {H H1 : Hp} (a : Same H H1) : Kp h H H1 := fun c o e _ => a c o e
theorem Kp.up {h p : Addr} {H H1 : Hp} {u : HO} (a : Kp h H H1) (hp : H1 p = none) : Kp h H (upd H1 p u) := fun c o e n => up1 hp (a c o e n)
theorem Kp.set {h : Addr} {H H1 : Hp} {u : HO} (a : Kp h H H1) : Kp h H (upd H1 h u) := fun c o e n => by
  rw [upd_ne n]; exact a c o e n
/-- a list other than that at h, the script among them -/
theorem Kp.seq {K : PySem.W.Frag} {h a : Addr} {H H1 : Hp} {xs : List V} (k : Kp h H H1) (n : a ≠ h) (s : SqL K H a xs) : SqL K H1 a xs := by
  rcases s with (s | ⟨o, s⟩) | s
  · exact .inl (.inl (k _ _ s n))
  · exact .inl (.inr ⟨o, k _ _ s n⟩)
  · exact .inr s
/-! ### the hand: a list of three ints, drawn from -/
def HandAt (H : Hp) (h : Addr) (n : Nat) : Prop := ∃ a b c : Int, H h = some (.lst [.int a, .int b, .int c]) ∧ 0 ≤ a ∧ 0 ≤ b ∧ b < 4611686018427387904 ∧ 0 ≤ c ∧ c ≤ n
theorem HandAt.mono {H : Hp} {h : Addr} {n m : Nat} (a : HandAt H h n) (l : n ≤ m) : HandAt H h m := by
  obtain ⟨x, y, z, h1, h2, h3, h4, h5, h6⟩ := a
  exact ⟨x, y, z, h1, h2, h3, h4, h5, by omega⟩
theorem HandAt.same {H H' : Hp} {h : Addr} {n : Nat} (a : HandAt H h n) (s : Same H H') : HandAt H' h n := by
  obtain ⟨x, y, z, h1, h2⟩ := a
  exact ⟨x, y, z, s _ _ h1, h2⟩
theorem HandAt.up {H : Hp} {h p : Addr} {u : HO} {n : Nat} (a : HandAt H h n) (hp : H p = none) : HandAt (upd H p u) h n := a.same (same1 hp)
theorem HandAt.ne {H : Hp} {h p : Addr} {n : Nat} (a : HandAt H h n) (hp : H p = none) : p ≠ h := by
  obtain ⟨x, y, z, h1, _⟩ := a
  exact (ne_of_none h1 hp).symm
def notHand : HO → Bool
  | .lst _ => false
  | _ => true
theorem HandAt.apart {H : Hp} {h p : Addr} {o : HO} {n : Nat} (a : HandAt H h n) (hp : H p = some o) (ho : notHand o = true) : p ≠ h := by
  obtain ⟨x, y, z, h1, _⟩ := a
  exact ne_of hp h1 (by intro e; rw [e] at ho; cases ho)
def sp_take : Sp := fun vs H Q _ => ∃ (h : Addr) (n : Nat) (m : Int), vs = [.ref h, .int m] ∧ HandAt H h n ∧ n < 1000000 ∧ 0 < m ∧ m.natAbs.log2 < 9000 ∧
  ∀ (d : Int) (H' : Hp), 0 ≤ d → d < m → HandAt H' h (n + 1) → Kp h H H' → Q (.int d) H'
def sp_hand (K : PySem.W.Frag) : Sp := fun vs H Q _ => ∃ (a : Addr) (ns : List Int) (k : Nat), vs = [.ref a, .int k] ∧ SqL K H a (ns.map V.int) ∧ k ≤ 1000 ∧
  ∀ (p : Addr) (H' : Hp), H p = none → Same H H' → HandAt H' p 0 → Q (.ref p) H'
/-! ### numbers -/
abbrev Sz (k : Nat) (z : Int) : Prop := z.natAbs < 2 ^ k
theorem Sz.mono {a b : Nat} {z : Int} (h : Sz a z) (l : a ≤ b) : Sz b z := Nat.lt_of_lt_of_le h (Nat.pow_le_pow_right (by decide) l)
theorem Sz.mul {a b : Nat} {x y : Int} (h : Sz a x) (g : Sz b y) : Sz (a + b) (x * y) := wide_lt h g
theorem Sz.neg {a : Nat} {x : Int} (h : Sz a x) : Sz a (-x) := by
  show (-x).natAbs < 2 ^ a
  rw [Int.natAbs_neg]; exact h
theorem Sz.add {a : Nat} {x y : Int} (h : Sz a x) (g : Sz a y) : Sz (a + 1) (x + y) := by
  show (x + y).natAbs < 2 ^ (a + 1)
  have h1 : x.natAbs < 2 ^ a := h
  have h2 : y.natAbs < 2 ^ a := g
  rw [Nat.pow_succ]; omega
theorem Sz.sub {a : Nat} {x y : Int} (h : Sz a x) (g : Sz a y) : Sz (a + 1) (x - y) := by
  show (x - y).natAbs < 2 ^ (a + 1)
  have h1 : x.natAbs < 2 ^ a := h
  have h2 : y.natAbs < 2 ^ a := g
  rw [Nat.pow_succ]; omega
theorem Sz.le {a : Nat} {x y : Int} (h : Sz a x) (l : y.natAbs ≤ x.natAbs) : Sz a y := Nat.lt_of_le_of_lt l h
theorem Sz.cmul {a b : Nat} {x y : Int} (h : Sz a x) (g : Sz b y) (h0 : 0 < a) (h1 : 0 < b) (l : a + b ≤ 1000000) : CMul x y ∨ CMulW x y := .inr (wide_mul h g h0 h1 l)
theorem Sz.log {a : Nat} {x : Int} (h : Sz a x) (h0 : 0 < a) (l : a ≤ 9000) : x.natAbs.log2 < 9000 := Nat.lt_of_lt_of_le (PySem.Flt.log2_lt_of h0 h) l
theorem dI {i j : Int} : decide (V.int i = V.int j) = decide (i = j) := by
  rw [dec_int, Bool.beq_eq_decide_eq]
/-- t / u is a / b in lowest terms -/
structure Fr (t u a b : Int) : Prop where
  pos : 0 < u
  eq : t * b = a * u
  co : Int.gcd t u = 1
  lt : t.natAbs ≤ a.natAbs
  lu : u.natAbs ≤ b.natAbs
def sgn (b : Int) : Int := if 0 < b then 1 else -1
theorem gcd_step {g s : Int} (hs : 0 < s) (hg : 0 ≤ g) : Int.gcd s (g % s) = Int.gcd g s := by
  obtain ⟨m, rfl⟩ := Int.eq_ofNat_of_zero_le hg
  obtain ⟨n, rfl⟩ := Int.eq_ofNat_of_zero_le (Int.le_of_lt hs)
  show Nat.gcd n (m % n) = Nat.gcd m n
  rw [Nat.gcd_comm m n, Nat.gcd_comm n (m % n), ← Nat.gcd_rec]
theorem fr_mk {a b c : Int} (hb : b ≠ 0) (hc : c = sgn b * (Int.gcd a b : Int)) : c ≠ 0 ∧ c.natAbs ≤ b.natAbs ∧ Fr (a.fdiv c) (b.fdiv c) a b := by
  have g0 : 0 < Int.gcd a b := Int.gcd_pos_of_ne_zero_right a hb
  have gd : (Int.gcd a b : Int) ∣ a := Int.gcd_dvd_left ..
  have gb : (Int.gcd a b : Int) ∣ b := Int.gcd_dvd_right ..
  have hs : sgn b = 1 ∨ sgn b = -1 := by unfold sgn; split <;> simp
  have cd : c ∣ a := by
    rcases hs with e | e <;> rw [hc, e]
    · rw [Int.one_mul]; exact gd
    · rw [Int.neg_one_mul]; exact (Int.neg_dvd).mpr gd
  have cb : c ∣ b := by
    rcases hs with e | e <;> rw [hc, e]
    · rw [Int.one_mul]; exact gb
    · rw [Int.neg_one_mul]; exact (Int.neg_dvd).mpr gb
  have cn : c.natAbs = Int.gcd a b := by
    rcases hs with e | e <;> rw [hc, e]
    · rw [Int.one_mul, Int.natAbs_natCast]
    · rw [Int.neg_one_mul, Int.natAbs_neg, Int.natAbs_natCast]
  have c0 : c ≠ 0 := by
    intro e; rw [e] at cn; simp at cn; omega
  have ta : a.fdiv c * c = a := Int.fdiv_mul_cancel cd
  have tb : b.fdiv c * c = b := Int.fdiv_mul_cancel cb
  have c1 : 1 ≤ c.natAbs := by omega
  have na : a.natAbs = (a.fdiv c).natAbs * c.natAbs := by rw [← Int.natAbs_mul, ta]
  have nb : b.natAbs = (b.fdiv c).natAbs * c.natAbs := by rw [← Int.natAbs_mul, tb]
  refine ⟨c0, ?_, ?_, ?_, ?_, ?_, ?_⟩
  · rw [cn]
    exact Nat.le_of_dvd (by omega) (Int.gcd_dvd_natAbs_right a b)
  · rcases Int.lt_trichotomy b 0 with h | h | h
    · have e : sgn b = -1 := by unfold sgn; rw [if_neg (by omega)]
      have cneg : c < 0 := by rw [hc, e]; omega
      rcases Int.lt_or_le 0 (b.fdiv c) with z | z
      · exact z
      · have : 0 ≤ b.fdiv c * c := Int.mul_nonneg_of_nonpos_of_nonpos z (by omega)
        omega
    · exact absurd h hb
    · have e : sgn b = 1 := by unfold sgn; rw [if_pos h]
      have cpos : 0 < c := by rw [hc, e]; omega
      rcases Int.lt_or_le 0 (b.fdiv c) with z | z
      · exact z
      · have : b.fdiv c * c ≤ 0 := Int.mul_nonpos_of_nonpos_of_nonneg z (by omega)
        omega
  · have : a.fdiv c * (b.fdiv c * c) = a.fdiv c * c * b.fdiv c := by
      rw [Int.mul_assoc, Int.mul_comm c]
    rw [tb, ta] at this
    exact this
  · have e : Int.gcd a b = Int.gcd (a.fdiv c) (b.fdiv c) * c.natAbs := by
      have := Int.gcd_mul_right (a.fdiv c) c (b.fdiv c)
      rw [ta, tb] at this
      exact this
    rw [← cn] at e
    have e2 : 1 * c.natAbs = Int.gcd (a.fdiv c) (b.fdiv c) * c.natAbs := by rw [Nat.one_mul]; exact e
    exact (Nat.eq_of_mul_eq_mul_right (by omega) e2).symm
  · rw [na]; exact Nat.le_mul_of_pos_right _ (by omega)
  · rw [nb]; exact Nat.le_mul_of_pos_right _ (by omega)
/-! ### a Measure -/
def mf (t u : Int) : List (Str × V) := [("top", .int t), ("bottom", .int u)]
theorem ne_tb : ¬ (("top" : Str) = "bottom") := by decide +kernel
theorem mf_put (t u : Int) : putF "bottom" (.int u) (putF "top" (.int t) []) = mf t u := by
  show (if ("top" : Str) = "bottom" then [(("top" : Str), V.int u)] else (("top" : Str), V.int t) :: putF "bottom" (V.int u) []) = mf t u
  rw [if_neg ne_tb] <;> rfl
theorem mf_top (t u : Int) : (mf t u).lookup ("top" : Str) = some (.int t) := by
  rw [← mf_put, lookup_putF, if_neg ne_tb, lookup_putF, if_pos rfl]
theorem mf_bottom (t u : Int) : (mf t u).lookup ("bottom" : Str) = some (.int u) := by
  rw [← mf_put, lookup_putF, if_pos rfl]
theorem mf_no (t u : Int) {m : Str} (h1 : ¬ m = "top") (h2 : ¬ m = "bottom") : (mf t u).lookup m = none := by
  rw [← mf_put, lookup_putF, if_neg h2, lookup_putF, if_neg h1] <;> rfl
def MAt (C : Addr) (H : Hp) (p : Addr) (t u : Int) : Prop := ∃ dx, H p = some (.ins C dx (mf t u))
theorem MAt.same {C p : Addr} {H H' : Hp} {t u : Int} (m : MAt C H p t u) (s : Same H H') : MAt C H' p t u := by
  obtain ⟨dx, h⟩ := m; exact ⟨dx, s _ _ h⟩
theorem MAt.kp {C p h : Addr} {H H' : Hp} {t u : Int} {n : Nat} (m : MAt C H p t u) (hh : HandAt H h n) (s : Kp h H H') : MAt C H' p t u := by
  obtain ⟨dx, e⟩ := m; exact ⟨dx, s _ _ e (hh.apart e rfl)⟩
def sp_minit (C : Addr) : Sp := fun vs H Q _ => ∃ (p dx : Addr) (a b : Int), vs = [.ref p, .int a, .int b] ∧ H p = some (.ins C dx []) ∧ b ≠ 0 ∧ b.natAbs.log2 < 9000 ∧
  ∀ (t u : Int) (H' : Hp), Fr t u a b → H' p = some (.ins C dx (mf t u)) → (∀ c o, H c = some o → c ≠ p → H' c = some o) → Q .non H'
theorem made {C : Addr} {H : Hp} {Q : VK} {E : XK} {a b : Int} (hb : b ≠ 0) (hl : b.natAbs.log2 < 9000) (k : ∀ (p : Addr) (t u : Int) (H' : Hp), H p = none → Same H H' → MAt C H' p t u → Fr t u a b → Q (.ref p) H') :
    ∀ x dx, H x = none → H dx = none → dx ≠ x → sp_minit C [.ref x, .int a, .int b] (upd (upd H dx (.own x)) x (.ins C dx [])) (fun v H2 => v = .non ∧ Q (.ref x) H2) E := by
  intro x dx nx nd ne
  refine ⟨x, dx, a, b, rfl, upd_same, hb, hl, fun t u H' fr hx kp => ⟨rfl, ?_⟩⟩
  refine k x t u H' nx (fun c o e => ?_) ⟨dx, hx⟩ fr
  have n1 : c ≠ x := ne_of_none e nx
  refine kp c o ?_ n1
  rw [upd_ne n1]
  exact up1 nd e
def sp_whole : Sp := fun vs H Q _ => ∃ n : Int, vs = [.int n] ∧ Q (.bl true) H
def sp_common : Sp := fun vs H Q _ => ∃ a b : Int, vs = [.int a, .int b] ∧ Q (.int (Int.gcd a b : Int)) H
def lessA (t u t' u' : Int) (al : Bool) : Bool := decide (t * u' < t' * u) || (al && decide (t * u' = t' * u))
def sp_below (C : Addr) : Sp := fun vs H Q _ => ∃ (p q : Addr) (t u t' u' : Int) (al : Bool), vs = [.ref p, .ref q, .bl al] ∧ MAt C H p t u ∧ MAt C H q t' u' ∧ Sz 9000 t ∧ Sz 9000 u ∧ Sz 9000 t' ∧ Sz 9000 u' ∧ Q (.bl (lessA t u t' u' al)) H
theorem Kp.get {h q : Addr} {H H' : Hp} {o : HO} {n : Nat} (k : Kp h H H') (hh : HandAt H h n) (e : H q = some o) (no : notHand o = true) : H' q = some o := k _ _ e (hh.apart e no)
theorem _root_.L2.Same.get {q : Addr} {H H' : Hp} {o : HO} (k : Same H H') (e : H q = some o) : H' q = some o := k _ _ e
theorem _root_.L2.Same.ofKp {h : Addr} {H H1 H2 : Hp} (s : Same H H1) (nh : H h = none) (k : Kp h H1 H2) : Same H H2 := fun c o e => k c o (s c o e) (ne_of_none e nh)
theorem _root_.L2.Same.up {p : Addr} {H H1 : Hp} {u : HO} (s : Same H H1) (hp : H1 p = none) : Same H (upd H1 p u) := s.trans (same1 hp)
theorem sgn_cases (b : Int) : sgn b = 1 ∨ sgn b = -1 := by unfold sgn; split <;> simp
/-! ### rules with the written part by its name (for the blocks of comprehensions) -/
section
variable {X : Cx} {K : PySem.W.Frag}
theorem ixl (hK : X.K = K := by rfl) : IxR X (rIxL K) := by subst hK; exact ix_list
theorem ixt (hK : X.K = K := by rfl) : IxR X (rIxT K) := by subst hK; exact ix_tup
theorem isi (hK : X.K = K := by rfl) : CallR X (.builtin "isinstance") (rIsi K) := by subst hK; exact call_isi
def rLenS (K : PySem.W.Frag) : List V → Hp → VK → Prop := fun xs H Q => ∃ p ys, xs = [.ref p] ∧ (SqL K H p ys ∨ SqT K H p ys) ∧ Q (.int (ys.length : Int)) H
theorem lenS (hK : X.K = K := by rfl) : CallR X (.builtin "len") (rLenS K) := by subst hK; exact call_len_seq
theorem allK (hK : X.K = K := by rfl) (hc : X.calm = true := by rfl) : CallR X (.builtin "all") (rAll K) := by subst hK; exact cr_all hc
theorem anyK (hK : X.K = K := by rfl) (hc : X.calm = true := by rfl) : CallR X (.builtin "any") (rAny K) := by subst hK; exact cr_any hc
theorem eqDK (hu : X.A.units + 64 < cLine) (hK : X.K = K := by rfl) : OpR X (compareOp .Eq) (rEqD K) := by subst hK; exact op_eqD hu
theorem neDK (hu : X.A.units + 64 < cLine) (hK : X.K = K := by rfl) : OpR X (compareOp .NotEq) (rNeD K) := by subst hK; exact op_neD hu
theorem inK (hK : X.K = K := by rfl) : OpR X (compareOp .In) (rIn K false) := by subst hK; exact op_in_seq
theorem notInK (hK : X.K = K := by rfl) : OpR X (compareOp .NotIn) (rIn K true) := by subst hK; exact op_notIn_seq
theorem fldK {e : Expr} {f : Str} {pos : Pos} {ta : TE} (he : PE X e ta) (hb : attributeBase e f X.env (eval e X.env) = eval e X.env) (hK : X.K = K := by rfl) : PE X (.Attribute e f pos) (tFld K ta f) := by subst hK; exact pe_fld he hb
end
theorem yesT {te : TE} {σ : L2.St} {H : Hp} {N : VK} {M : Hp → Prop} (h : te σ H N) : tYes σ H (fun b H3 => if b = true then te σ H3 N else M H3) := by
  show (if true = true then te σ H N else M H)
  rw [if_pos rfl]; exact h
theorem made_same {H H' : Hp} {x dx C : Addr} (nx : H x = none) (nd : H dx = none) (kp : ∀ c o, (upd (upd H dx (.own x)) x (.ins C dx [])) c = some o → c ≠ x → H' c = some o) : Same H H' := fun c o e => by
  have n1 : c ≠ x := ne_of_none e nx
  refine kp c o ?_ n1
  rw [upd_ne n1]
  exact up1 nd e
/-! ### the head's facts, and more of them -/
def obsM (n : Nat) (fa : List He.Fa) (fn : List He.DefD) (ex : List (PySem.W.Frag → Bool)) (g : Addr → Option Obj) : He.AlD × Bool := (He.obsDG n fa fn g, ex.all fun f => f (He.frG g (He.asD g n)))
def hookM (n : Nat) (fa : List He.Fa) (fn : List He.DefD) (ex : List (PySem.W.Frag → Bool)) : PySem.W.Hook where
  α := He.AlD × Bool
  obs := fun s => obsM n fa fn ex s.heap.get?
  val := fun _ => (He.valD fn, true)
  says := fun _ h => ∃ K : PySem.W.Frag, K.In h ∧ He.SaysD fa fn K ∧ (ex.all fun f => f K) = true
  of := fun _ _ e => ⟨_, He.frG_in, congrArg (fun z : He.AlD × Bool => z.1) e, congrArg (fun z : He.AlD × Bool => z.2) e⟩
  keeps := fun _ _ _ ⟨K, hK, c⟩ k => ⟨K, PySem.W.Frag.In.keeps hK k, c⟩
theorem obsM_eq {n : Nat} {fa : List He.Fa} {fn : List He.DefD} {ex : List (PySem.W.Frag → Bool)} {g : Addr → Option Obj} {s : Shared} (h : ∀ a, g a = s.heap.get? a) : obsM n fa fn ex g = (hookM n fa fn ex).obs s := by
  have e : g = s.heap.get? := funext h
  rw [e] <;> rfl
theorem ex_at {ex : List (PySem.W.Frag → Bool)} {K : PySem.W.Frag} (c : (ex.all fun f => f K) = true) (i : Nat) {f : PySem.W.Frag → Bool} (h : ex[i]? = some f) : f K = true := List.all_eq_true.mp c f (List.mem_of_getElem? h)
/-- what isinstance asks of an own class -/
structure IsC (K : PySem.W.Frag) (C : Addr) : Prop where
  ha : PySem.W.findIn K (.ref C) "__class__" = some (some (.builtin "object.__class__"))
  hn : PySem.W.specialIn K (.builtin "object.__class__") "__get__" = some (some (.builtin "getset_descriptor.__get__"))
  htk : PySem.W.takesIn K (.builtin "object.__class__") = some true
  hm : PySem.W.mroIn K C (.type "object") = some true
def isCB (x : Str) : PySem.W.Frag → Bool := fun K => He.eqO (PySem.W.findIn K (.ref (He.ga K x)) "__class__") (some (some (.builtin "object.__class__"))) && (He.eqO (PySem.W.specialIn K (.builtin "object.__class__") "__get__") (some (some (.builtin "getset_descriptor.__get__"))) &&
  (decide (PySem.W.takesIn K (.builtin "object.__class__") = some true) && decide (PySem.W.mroIn K (He.ga K x) (.type "object") = some true)))
theorem isC_ok {x : Str} {K : PySem.W.Frag} (c : isCB x K = true) : IsC K (He.ga K x) := by
  obtain ⟨c1, c⟩ := He.ba c
  obtain ⟨c2, c⟩ := He.ba c
  obtain ⟨c3, c4⟩ := He.ba c
  exact ⟨He.eqO_ok c1, He.eqO_ok c2, of_decide_eq_true c3, of_decide_eq_true c4⟩
/-- a class by name: an own one, a built-in one -/
def cv (K : PySem.W.Frag) : Str ⊕ String → Value
  | .inl x => .ref (He.ga K x)
  | .inr n => .type n
def kitF (a b : Str ⊕ String) (r : Bool) : PySem.W.Frag → Bool := fun K => decide (PySem.W.kitOne K (cv K a) (cv K b) = some r)
theorem kitF_ok {a b : Str ⊕ String} {r : Bool} {K : PySem.W.Frag} (c : kitF a b r K = true) : PySem.W.kitOne K (cv K a) (cv K b) = some r := of_decide_eq_true c
theorem tyM {K : PySem.W.Frag} {H : Hp} {a C dx : Addr} {fs : List (Str × V)} (e : H a = some (.ins C dx fs)) (cl : Cls K C) (i : IsC K C) : TyX K H (.ref a) (.ref C) := .base (.ins e cl i.ha i.hn i.htk i.hm)
/-! ### sums and parts of Measures -/
/-- the same fraction once more -/
theorem Fr.of {t u a b c d : Int} (f : Fr t u a b) (hb : b ≠ 0) (e : a * d = c * b) : t * d = c * u := by
  have h1 := f.eq
  have h2 : (t * d) * b = (c * u) * b := by
    calc (t * d) * b = (t * b) * d := by simp only [Int.mul_assoc, Int.mul_comm, Int.mul_left_comm]
      _ = (a * u) * d := by rw [h1]
      _ = (a * d) * u := by simp only [Int.mul_assoc, Int.mul_comm, Int.mul_left_comm]
      _ = (c * b) * u := by rw [e]
      _ = (c * u) * b := by simp only [Int.mul_assoc, Int.mul_comm, Int.mul_left_comm]
  exact Int.eq_of_mul_eq_mul_right hb h2
/-- what stood at the start stands (by another name than the steps') -/
structure Old (H H' : Hp) : Prop where
  s : Same H H'
theorem Old.refl (H : Hp) : Old H H := ⟨Same.refl _⟩
theorem Old.up {p : Addr} {H H1 : Hp} {u : HO} (a : Old H H1) (hp : H1 p = none) : Old H (upd H1 p u) := ⟨a.s.up hp⟩
theorem Old.then {H H1 H2 : Hp} (a : Old H H1) (b : Same H1 H2) : Old H H2 := ⟨a.s.trans b⟩
theorem Old.kp {h : Addr} {H H1 H2 : Hp} (a : Old H H1) (nh : H h = none) (k : Kp h H1 H2) : Old H H2 := ⟨a.s.ofKp nh k⟩
theorem Old.put {h : Addr} {H H1 : Hp} {u : HO} (a : Old H H1) (nh : H h = none) : Old H (upd H1 h u) := ⟨fun c o e => by rw [upd_ne (ne_of_none e nh)]; exact a.s _ _ e⟩
/-- a list is changed, what is no list stays -/
theorem up2 {H : Hp} {l x : Addr} {xs : List V} {o u : HO} (hl : H l = some (.lst xs)) (hx : H x = some o) (no : notHand o = true) : upd H l u x = some o := by
  rw [upd_ne (ne_of hx hl (by intro e; rw [e] at no; cases no))]; exact hx
end My
namespace My
open PySem PySem.Spec PyProof.Rows L2
/-! ### fractions as pairs, stretches as ends -/
abbrev Q2 := Int × Int
def ltq (a b : Q2) : Bool := decide (a.1 * b.2 < b.1 * a.2)
def eqq (a b : Q2) : Bool := decide (a.1 * b.2 = b.1 * a.2)
def someB : Option Q2 → Option Q2 → Bool → Bool → Bool
  | some a, some b, ia, ib => ltq a b || (eqq a b && ia && ib)
  | _, _, _, _ => true
def Re (a b : Q2) : Prop := 0 < a.2 ∧ 0 < b.2 ∧ a.1 * b.2 = b.1 * a.2
def ReO : Option Q2 → Option Q2 → Prop
  | none, none => True
  | some a, some b => Re a b
  | _, _ => False
theorem Re.symm {a b : Q2} (h : Re a b) : Re b a := ⟨h.2.1, h.1, h.2.2.symm⟩
theorem Re.refl {a : Q2} (h : 0 < a.2) : Re a a := ⟨h, h, rfl⟩
theorem ReO.symm : ∀ {a b : Option Q2}, ReO a b → ReO b a
  | none, none, _ => trivial
  | some _, some _, h => Re.symm h
  | none, some _, h => h.elim
  | some _, none, h => h.elim
theorem pos_key {a b c d : Q2} (h : Re a c) (g : Re b d) : (a.1 * b.2) * (c.2 * d.2) = (c.1 * d.2) * (a.2 * b.2) := by
  have := h.2.2
  grind
theorem pos_key' {a b c d : Q2} (h : Re a c) (g : Re b d) : (b.1 * a.2) * (c.2 * d.2) = (d.1 * c.2) * (a.2 * b.2) := by
  have := g.2.2
  grind
theorem ltq_congr {a b c d : Q2} (h : Re a c) (g : Re b d) : ltq a b = ltq c d := by
  unfold ltq
  have k1 := pos_key h g
  have k2 := pos_key' h g
  have p1 : 0 < c.2 * d.2 := Int.mul_pos h.2.1 g.2.1
  have p2 : 0 < a.2 * b.2 := Int.mul_pos h.1 g.1
  refine decide_eq_decide.mpr ⟨fun x => ?_, fun x => ?_⟩
  · have := Int.mul_lt_mul_of_pos_right x p1
    rw [k1, k2] at this
    exact Int.lt_of_mul_lt_mul_right this (Int.le_of_lt p2)
  · have := Int.mul_lt_mul_of_pos_right x p2
    rw [← k1, ← k2] at this
    exact Int.lt_of_mul_lt_mul_right this (Int.le_of_lt p1)
theorem eqq_congr {a b c d : Q2} (h : Re a c) (g : Re b d) : eqq a b = eqq c d := by
  unfold eqq
  have k1 := pos_key h g
  have k2 := pos_key' h g
  have p1 : 0 < c.2 * d.2 := Int.mul_pos h.2.1 g.2.1
  have p2 : 0 < a.2 * b.2 := Int.mul_pos h.1 g.1
  refine decide_eq_decide.mpr ⟨fun x => ?_, fun x => ?_⟩
  · rw [x] at k1
    rw [k1] at k2
    exact Int.eq_of_mul_eq_mul_right (by omega) k2
  · rw [x] at k1
    rw [← k2] at k1
    exact Int.eq_of_mul_eq_mul_right (by omega) k1
theorem someB_congr : ∀ {a b c d : Option Q2} {i j : Bool}, ReO a c → ReO b d → someB a b i j = someB c d i j
  | some a, some b, some c, some d, i, j, h, g => by
    show (ltq a b || (eqq a b && i && j)) = (ltq c d || (eqq c d && i && j))
    rw [ltq_congr h g, eqq_congr h g]
  | none, some _, none, some _, _, _, _, _ => rfl
  | none, none, none, none, _, _, _, _ => rfl
  | some _, none, some _, none, _, _, _, _ => rfl
  | some _, _, none, _, _, _, h, _ => h.elim
  | none, _, some _, _, _, _, h, _ => h.elim
  | some _, some _, some _, none, _, _, _, g => g.elim
  | some _, none, some _, some _, _, _, _, g => g.elim
  | none, some _, none, none, _, _, _, g => g.elim
  | none, none, none, some _, _, _, _, g => g.elim
/-- in lowest terms, its numbers of less than four thousand bits -/
structure Low (a : Q2) : Prop where
  pos : 0 < a.2
  co : Int.gcd a.1 a.2 = 1
  s1 : Sz 4000 a.1
  s2 : Sz 4000 a.2
def LowO : Option Q2 → Prop
  | none => True
  | some a => Low a
theorem dvd_co {a b c : Int} (h : a ∣ b * c) (g : Int.gcd a b = 1) : a ∣ c := by
  have h1 : a.natAbs ∣ b.natAbs * c.natAbs := by rw [← Int.natAbs_mul]; exact Int.natAbs_dvd_natAbs.mpr h
  exact Int.natAbs_dvd_natAbs.mp (Nat.Coprime.dvd_of_dvd_mul_left g h1)
/-! ### their values -/
/-- None, or the tuple of an end's two numbers -/
def EndV (k : Nat) (H : Hp) (v : V) : Option Q2 → Prop
  | none => v = .non
  | some a => ∃ p, v = .ref p ∧ H p = some (.tup [.int a.1, .int a.2]) ∧ 0 < a.2 ∧ Sz k a.1 ∧ Sz k a.2
theorem EndV.mono {k j : Nat} (l : k ≤ j) {H : Hp} {v : V} : ∀ {e : Option Q2}, EndV k H v e → EndV j H v e
  | none, h => h
  | some _, ⟨p, h1, h2, h3, h4, h5⟩ => ⟨p, h1, h2, h3, h4.mono l, h5.mono l⟩
def MsV (C : Addr) (H : Hp) (v : V) : Option Q2 → Prop
  | none => v = .non
  | some a => ∃ p, v = .ref p ∧ MAt C H p a.1 a.2
theorem EndV.same {k : Nat} {H H' : Hp} {v : V} : ∀ {e : Option Q2}, EndV k H v e → Same H H' → EndV k H' v e
  | none, h, _ => h
  | some _, ⟨p, h1, h2, h3⟩, s => ⟨p, h1, s _ _ h2, h3⟩
theorem EndV.kp {j : Nat} {H H' : Hp} {h : Addr} {n : Nat} {v : V} : ∀ {e : Option Q2}, EndV j H v e → HandAt H h n → Kp h H H' → EndV j H' v e
  | none, h, _, _ => h
  | some _, ⟨p, h1, h2, h3⟩, hh, k => ⟨p, h1, k.get hh h2 rfl, h3⟩
theorem MsV.same {C : Addr} {H H' : Hp} {v : V} : ∀ {e : Option Q2}, MsV C H v e → Same H H' → MsV C H' v e
  | none, h, _ => h
  | some _, ⟨p, h1, h2⟩, s => ⟨p, h1, h2.same s⟩
theorem MsV.kp {C : Addr} {H H' : Hp} {h : Addr} {n : Nat} {v : V} : ∀ {e : Option Q2}, MsV C H v e → HandAt H h n → Kp h H H' → MsV C H' v e
  | none, h, _, _ => h
  | some _, ⟨p, h1, h2⟩, hh, k => ⟨p, h1, h2.kp hh k⟩
/-! ### a Stretch -/
def sf (l h : V) (li hi : Bool) : List (Str × V) := [("low", l), ("high", h), ("low_in", .bl li), ("high_in", .bl hi)]
theorem sf_put (l h : V) (li hi : Bool) : putF "high_in" (.bl hi) (putF "low_in" (.bl li) (putF "high" h (putF "low" l []))) = sf l h li hi := by
  have e1 : putF ("high" : Str) h (putF ("low" : Str) l []) = ([("low", l), ("high", h)] : List (Str × V)) := by
    show (if ("low" : Str) = "high" then [(("low" : Str), h)] else (("low" : Str), l) :: putF "high" h []) = _
    rw [if_neg (by decide +kernel)] <;> rfl
  have e2 : putF ("low_in" : Str) (.bl li) [("low", l), ("high", h)] = ([("low", l), ("high", h), ("low_in", .bl li)] : List (Str × V)) := by
    show (if ("low" : Str) = "low_in" then _ else (("low" : Str), l) :: (if ("high" : Str) = "low_in" then _ else (("high" : Str), h) :: putF "low_in" (V.bl li) [])) = _
    rw [if_neg (by decide +kernel), if_neg (by decide +kernel)] <;> rfl
  have e3 : putF ("high_in" : Str) (.bl hi) [("low", l), ("high", h), ("low_in", .bl li)] = sf l h li hi := by
    show (if ("low" : Str) = "high_in" then _ else (("low" : Str), l) :: (if ("high" : Str) = "high_in" then _ else (("high" : Str), h) :: (if ("low_in" : Str) = "high_in" then _ else (("low_in" : Str), V.bl li) :: putF "high_in" (V.bl hi) []))) = _
    rw [if_neg (by decide +kernel), if_neg (by decide +kernel), if_neg (by decide +kernel)] <;> rfl
  rw [e1, e2, e3]
theorem sf_low (l h : V) (li hi : Bool) : (sf l h li hi).lookup ("low" : Str) = some l := by
  rw [← sf_put, lookup_putF, if_neg (by decide +kernel), lookup_putF, if_neg (by decide +kernel), lookup_putF, if_neg (by decide +kernel), lookup_putF, if_pos rfl]
theorem sf_high (l h : V) (li hi : Bool) : (sf l h li hi).lookup ("high" : Str) = some h := by
  rw [← sf_put, lookup_putF, if_neg (by decide +kernel), lookup_putF, if_neg (by decide +kernel), lookup_putF, if_pos rfl]
theorem sf_low_in (l h : V) (li hi : Bool) : (sf l h li hi).lookup ("low_in" : Str) = some (.bl li) := by
  rw [← sf_put, lookup_putF, if_neg (by decide +kernel), lookup_putF, if_pos rfl]
theorem sf_high_in (l h : V) (li hi : Bool) : (sf l h li hi).lookup ("high_in" : Str) = some (.bl hi) := by
  rw [← sf_put, lookup_putF, if_pos rfl]
theorem sf_no (l h : V) (li hi : Bool) {m : Str} (h1 : ¬ m = "low") (h2 : ¬ m = "high") (h3 : ¬ m = "low_in") (h4 : ¬ m = "high_in") : (sf l h li hi).lookup m = none := by
  rw [← sf_put, lookup_putF, if_neg h4, lookup_putF, if_neg h3, lookup_putF, if_neg h2, lookup_putF, if_neg h1] <;> rfl
/-- a Stretch at p: its ends, whether they are in -/
structure StAt (CM CS : Addr) (H : Hp) (p : Addr) (lo hi : Option Q2) (li hj : Bool) : Prop where
  ob : ∃ dx l h, H p = some (.ins CS dx (sf l h li hj)) ∧ MsV CM H l lo ∧ MsV CM H h hi
  l1 : LowO lo
  l2 : LowO hi
  n1 : lo = none → li = false
  n2 : hi = none → hj = false
theorem StAt.same {CM CS p : Addr} {H H' : Hp} {lo hi : Option Q2} {li hj : Bool} (a : StAt CM CS H p lo hi li hj) (s : Same H H') : StAt CM CS H' p lo hi li hj := by
  obtain ⟨⟨dx, l, h, h1, h2, h3⟩, a1, a2, a3, a4⟩ := a
  exact ⟨⟨dx, l, h, s _ _ h1, h2.same s, h3.same s⟩, a1, a2, a3, a4⟩
theorem StAt.kp {CM CS p h : Addr} {H H' : Hp} {n : Nat} {lo hi : Option Q2} {li hj : Bool} (a : StAt CM CS H p lo hi li hj) (hh : HandAt H h n) (s : Kp h H H') : StAt CM CS H' p lo hi li hj := by
  obtain ⟨⟨dx, l, h, h1, h2, h3⟩, a1, a2, a3, a4⟩ := a
  exact ⟨⟨dx, l, h, s.get hh h1 rfl, h2.kp hh s, h3.kp hh s⟩, a1, a2, a3, a4⟩
/-! ### promises -/
/-- the tuple of two ends and two truths, between which something is -/
structure EndsAt (H : Hp) (p : Addr) (ea eb : Option Q2) (ia ib : Bool) : Prop where
  ob : ∃ va vb, H p = some (.tup [va, vb, .bl ia, .bl ib]) ∧ EndV 140 H va ea ∧ EndV 140 H vb eb
  so : someB ea eb ia ib = true
theorem EndsAt.same {H H' : Hp} {p : Addr} {ea eb : Option Q2} {ia ib : Bool} (a : EndsAt H p ea eb ia ib) (s : Same H H') : EndsAt H' p ea eb ia ib := by
  obtain ⟨⟨va, vb, h1, h2, h3⟩, h4⟩ := a
  exact ⟨⟨va, vb, s _ _ h1, h2.same s, h3.same s⟩, h4⟩
theorem EndsAt.kp {H H' : Hp} {p h : Addr} {n : Nat} {ea eb : Option Q2} {ia ib : Bool} (a : EndsAt H p ea eb ia ib) (hh : HandAt H h n) (s : Kp h H H') : EndsAt H' p ea eb ia ib := by
  obtain ⟨⟨va, vb, h1, h2, h3⟩, h4⟩ := a
  exact ⟨⟨va, vb, s.get hh h1 rfl, h2.kp hh s, h3.kp hh s⟩, h4⟩
theorem MsV.put {CM p C dx : Addr} {H : Hp} {v : V} {o : HO} (hp : H p = some (.ins C dx [])) : ∀ {m : Option Q2}, MsV CM H v m → MsV CM (upd H p o) v m
  | none, h => h
  | some _, ⟨q, h1, ⟨dy, h2⟩⟩ => ⟨q, h1, ⟨dy, by
      rw [upd_ne (ne_of h2 hp (by intro e; injection e with _ _ e; cases e))]; exact h2⟩⟩
theorem ReO.isS : ∀ {a b : Option Q2}, ReO a b → a.isSome = b.isSome
  | none, none, _ => rfl
  | some _, some _, _ => rfl
  | none, some _, h => h.elim
  | some _, none, h => h.elim
/-! ### what two stretches have in common -/
def cutLo : Option Q2 → Bool → Option Q2 → Bool → Option Q2 × Bool
  | none, _, n, j => (n, j)
  | some a, i, none, _ => (some a, i)
  | some a, i, some b, j => if ltq a b then (some b, j) else if eqq a b then (some a, i && j) else (some a, i)
def cutHi : Option Q2 → Bool → Option Q2 → Bool → Option Q2 × Bool
  | none, _, n, j => (n, j)
  | some a, i, none, _ => (some a, i)
  | some a, i, some b, j => if ltq b a then (some b, j) else if eqq a b then (some a, i && j) else (some a, i)
/-- the same end, and in or not alike where there is one -/
def Alike (x y : Option Q2 × Bool) : Prop := ReO x.1 y.1 ∧ (x.1.isSome = true → x.2 = y.2)
theorem Alike.someB {x y z w : Option Q2 × Bool} (h : Alike x y) (g : Alike z w) : My.someB x.1 z.1 x.2 z.2 = My.someB y.1 w.1 y.2 w.2 := by
  obtain ⟨x, i⟩ := x
  obtain ⟨y, j⟩ := y
  obtain ⟨z, k⟩ := z
  obtain ⟨w, l⟩ := w
  obtain ⟨h1, h2⟩ := h
  obtain ⟨g1, g2⟩ := g
  rw [someB_congr h1 g1]
  cases x with
  | none => cases y with
    | none => rfl
    | some _ => exact h1.elim
  | some a => cases z with
    | none => cases w with
      | none => cases y <;> rfl
      | some _ => exact g1.elim
    | some b =>
      have e1 : i = j := h2 rfl
      have e2 : k = l := g2 rfl
      rw [e1, e2]
/-- a Stretch, or None where nothing is between -/
def CutV (CM CS : Addr) (H : Hp) (v : V) (lo hi : Option Q2 × Bool) : Prop :=
  (someB lo.1 hi.1 lo.2 hi.2 = true ∧ ∃ r, v = .ref r ∧ StAt CM CS H r lo.1 hi.1 (lo.2 && lo.1.isSome) (hi.2 && hi.1.isSome)) ∨ (someB lo.1 hi.1 lo.2 hi.2 = false ∧ v = .non)
/-- the law's own: a tuple of four, or None -/
def DueV (H : Hp) (v : V) (lo hi : Option Q2 × Bool) : Prop :=
  (someB lo.1 hi.1 lo.2 hi.2 = true ∧ ∃ r, v = .ref r ∧ EndsAt H r lo.1 hi.1 lo.2 hi.2) ∨ (someB lo.1 hi.1 lo.2 hi.2 = false ∧ v = .non)
theorem DueV.same {H H' : Hp} {v : V} {lo hi : Option Q2 × Bool} (h : DueV H v lo hi) (s : Same H H') : DueV H' v lo hi := by
  rcases h with ⟨h1, r, h2, h3⟩ | h
  · exact .inl ⟨h1, r, h2, h3.same s⟩
  · exact .inr h
theorem CutV.same {CM CS : Addr} {H H' : Hp} {v : V} {lo hi : Option Q2 × Bool} (h : CutV CM CS H v lo hi) (s : Same H H') : CutV CM CS H' v lo hi := by
  rcases h with ⟨h1, r, h2, h3⟩ | h
  · exact .inl ⟨h1, r, h2, h3.same s⟩
  · exact .inr h
/-- what is told is what is due -/
def Match (CM CS : Addr) (H : Hp) (found due : V) : Prop :=
  (found = .non ∧ due = .non) ∨ ∃ (r d : Addr) (lo hi ea eb : Option Q2) (ia ib : Bool), found = .ref r ∧ due = .ref d ∧ EndsAt H d ea eb ia ib ∧ StAt CM CS H r lo hi (ia && ea.isSome) (ib && eb.isSome) ∧ ReO lo ea ∧ ReO hi eb
theorem Match.same {CM CS : Addr} {H H' : Hp} {f d : V} (h : Match CM CS H f d) (s : Same H H') : Match CM CS H' f d := by
  rcases h with h | ⟨r, d, lo, hi, ea, eb, ia, ib, h1, h2, h3, h4, h5, h6⟩
  · exact .inl h
  · exact .inr ⟨r, d, lo, hi, ea, eb, ia, ib, h1, h2, h3.same s, h4.same s, h5, h6⟩
theorem Re.trans {a b c : Q2} (h : Re a b) (g : Re b c) : Re a c := by
  obtain ⟨h1, h2, h3⟩ := h
  obtain ⟨g1, g2, g3⟩ := g
  refine ⟨h1, g2, Int.eq_of_mul_eq_mul_right (show b.2 ≠ 0 by omega) ?_⟩
  grind
theorem ReO.trans : ∀ {a b c : Option Q2}, ReO a b → ReO b c → ReO a c
  | none, none, none, _, _ => trivial
  | some _, some _, some _, h, g => Re.trans h g
  | none, some _, _, h, _ => h.elim
  | some _, none, _, h, _ => h.elim
  | none, none, some _, _, g => g.elim
  | some _, some _, none, _, g => g.elim
def PosO : Option Q2 → Prop
  | none => True
  | some a => 0 < a.2
theorem ReO.refl : ∀ {a : Option Q2}, PosO a → ReO a a
  | none, _ => trivial
  | some _, h => Re.refl h
theorem Alike.trans {x y z : Option Q2 × Bool} (h : Alike x y) (g : Alike y z) : Alike x z := ⟨h.1.trans g.1, fun e => (h.2 e).trans (g.2 (by rw [← h.1.isS]; exact e))⟩
theorem StAt.raw {CM CS p : Addr} {H : Hp} {lo hi : Option Q2} {li hj : Bool} (a : StAt CM CS H p lo hi li hj) {m : Str} (h1 : ¬ m = "low") (h2 : ¬ m = "high") (h3 : ¬ m = "low_in") (h4 : ¬ m = "high_in") : ∃ dx fs, H p = some (.ins CS dx fs) ∧ fs.lookup m = none := by
  obtain ⟨⟨dx, l, h, e, _⟩, _⟩ := a
  exact ⟨dx, _, e, sf_no _ _ _ _ h1 h2 h3 h4⟩
theorem EndsAt.due {H : Hp} {p : Addr} {ea eb : Option Q2} {ia ib : Bool} (a : EndsAt H p ea eb ia ib) : DueV H (.ref p) (ea, ia) (eb, ib) := .inl ⟨a.so, p, rfl, a⟩
/-! ### what a stretch holds -/
def loIn : Option Q2 → Bool → Q2 → Bool
  | none, _, _ => true
  | some a, i, x => ltq a x || (i && eqq a x)
def hiIn : Option Q2 → Bool → Q2 → Bool
  | none, _, _ => true
  | some b, j, x => ltq x b || (j && eqq x b)
theorem ltq_trans {a b c : Q2} (hb : 0 < b.2) (ha : 0 < a.2) (hc : 0 < c.2) (h : ltq a b = true) (g : ltq b c = true) : ltq a c = true := by
  unfold ltq at *
  have h := of_decide_eq_true h
  have g := of_decide_eq_true g
  refine decide_eq_true ?_
  have h2 := Int.mul_lt_mul_of_pos_right h hc
  have g2 := Int.mul_lt_mul_of_pos_right g ha
  have e1 : b.1 * a.2 * c.2 = b.1 * c.2 * a.2 := by simp only [Int.mul_assoc, Int.mul_comm, Int.mul_left_comm]
  rw [e1] at h2
  have k := Int.lt_trans h2 g2
  have e2 : a.1 * b.2 * c.2 = a.1 * c.2 * b.2 := by simp only [Int.mul_assoc, Int.mul_comm, Int.mul_left_comm]
  have e3 : c.1 * b.2 * a.2 = c.1 * a.2 * b.2 := by simp only [Int.mul_assoc, Int.mul_comm, Int.mul_left_comm]
  rw [e2, e3] at k
  exact Int.lt_of_mul_lt_mul_right k (Int.le_of_lt hb)
/-! ### sums, once more, by the size of the new bottom -/
def sp_bin2 (C : Addr) (f g : Int → Int → Int → Int → Int) : Sp := fun vs H Q _ => ∃ (p q : Addr) (t u t' u' : Int), vs = [.ref p, .ref q] ∧ MAt C H p t u ∧ MAt C H q t' u' ∧ 0 < u ∧ 0 < u' ∧ Sz 100000 t ∧ Sz 100000 u ∧ Sz 100000 t' ∧ Sz 100000 u' ∧ Sz 9000 (u * u') ∧
  ∀ (r : Addr) (t2 u2 : Int) (H' : Hp), H r = none → Same H H' → MAt C H' r t2 u2 → Fr t2 u2 (f t u t' u') (g t u t' u') → Q (.ref r) H'
/-- a Measure that the stretch holds -/
structure Held (CM : Addr) (H : Hp) (r : Addr) (x : Q2) (lo hi : Option Q2) (li hj : Bool) : Prop where
  at_ : MAt CM H r x.1 x.2
  pos : 0 < x.2
  s1 : Sz 15000 x.1
  s2 : Sz 15000 x.2
  low : loIn lo li x = true
  high : hiIn hi hj x = true
/-- a Measure in both, or None -/
def ShV (CM : Addr) (H : Hp) (v : V) (m1 m2 n1 n2 : Option Q2) (i1 i2 j1 j2 : Bool) : Prop :=
  (someB (cutLo m1 i1 n1 j1).1 (cutHi m2 i2 n2 j2).1 (cutLo m1 i1 n1 j1).2 (cutHi m2 i2 n2 j2).2 = true ∧ ∃ r x, v = .ref r ∧ Held CM H r x m1 m2 i1 i2 ∧ Held CM H r x n1 n2 j1 j2) ∨
  (someB (cutLo m1 i1 n1 j1).1 (cutHi m2 i2 n2 j2).1 (cutLo m1 i1 n1 j1).2 (cutHi m2 i2 n2 j2).2 = false ∧ v = .non)
theorem Held.same {CM r : Addr} {H H' : Hp} {x : Q2} {lo hi : Option Q2} {li hj : Bool} (a : Held CM H r x lo hi li hj) (s : Same H H') : Held CM H' r x lo hi li hj := ⟨a.at_.same s, a.pos, a.s1, a.s2, a.low, a.high⟩
theorem ShV.same {CM : Addr} {H H' : Hp} {v : V} {m1 m2 n1 n2 : Option Q2} {i1 i2 j1 j2 : Bool} (a : ShV CM H v m1 m2 n1 n2 i1 i2 j1 j2) (s : Same H H') : ShV CM H' v m1 m2 n1 n2 i1 i2 j1 j2 := by
  rcases a with ⟨e, r, x, h1, h2, h3⟩ | h
  · exact .inl ⟨e, r, x, h1, h2.same s, h3.same s⟩
  · exact .inr h
theorem eqq_self (a : Q2) : eqq a a = true := decide_eq_true rfl
/-! ### lists of points, made in comprehensions -/
/-- all but lists stays -/
def Nl (H H' : Hp) : Prop := ∀ c o, H c = some o → notHand o = true → H' c = some o
theorem Nl.of {H H' : Hp} (s : Same H H') : Nl H H' := fun c o e _ => s c o e
theorem Nl.put {H : Hp} {l : Addr} {xs : List V} {u : HO} (h : H l = some (.lst xs)) : Nl H (upd H l u) := fun c o e no => up2 h e no
theorem EndV.nl {k : Nat} {H H' : Hp} {v : V} : ∀ {e : Option Q2}, EndV k H v e → Nl H H' → EndV k H' v e
  | none, h, _ => h
  | some _, ⟨p, h1, h2, h3⟩, s => ⟨p, h1, s _ _ h2 rfl, h3⟩
def PtV (k : Nat) (H : Hp) (v : V) : Prop := ∃ a : Q2, EndV k H v (some a)
theorem PtV.nl {k : Nat} {H H' : Hp} {v : V} (h : PtV k H v) (s : Nl H H') : PtV k H' v := by
  obtain ⟨a, h⟩ := h
  exact ⟨a, h.nl s⟩
end My
namespace My
open PySem PySem.Spec PyProof.Rows L2
/-! ### errors -/
section
variable {P : Program} {w : World} {K : PySem.W.Frag} {mg : Str → Option Value} {base : Heap} {k : Nat} {f : Addr} {fd : FuncData} {ps : List Str}
/-- a def that lets nothing out keeps its promise where more may be let out -/
theorem lift {CX : CXT} {sp : Sp} (F : FnOk P w K mg base CX0 k f fd ps sp) : FnOk P w K mg base CX k f fd ps sp :=
  ⟨F.len, fun A outer s H args us vs Q E hr he hb hv hs => codeAny_mono (F.run A outer s H args us vs Q E hr he hb hv hs) fun r s' hq => by
    cases r with
    | error e => exact False.elim hq
    | ok fl => cases fl <;> exact hq⟩
end
section
variable {X : Cx} {CX : CXT} {k : Nat} {f C : Addr} {fd : FuncData} {ps : List Str} {sp : Sp} {dvs : List V} {ds : List Value} {x : Str} {p pos : Pos} {e : Expr} {es : List Expr} {t : TA} {E : L2.St → XK}
end
/-! ### several clauses, each with the error by the same name; nothing leaves -/
/-! ### facts of error classes -/
/-! ### things of any kind -/
/-- a thing that is no Measure and no Stretch; h: not the hand -/
def Thing (h : Addr) (H : Hp) (v : V) : Prop := v = .non ∨ (∃ b, v = .bl b) ∨ (∃ i, v = .int i) ∨ (∃ z, v = .str z) ∨ (∃ a xs, v = .ref a ∧ a ≠ h ∧ H a = some (.lst xs)) ∨ (∃ a xs, v = .ref a ∧ H a = some (.tup xs)) ∨ (∃ a kvs, v = .ref a ∧ H a = some (.dK kvs))
theorem Thing.same {h : Addr} {H H' : Hp} {v : V} (t : Thing h H v) (s : Same H H') : Thing h H' v := by
  rcases t with t | t | t | t | ⟨a, xs, e, n, t⟩ | ⟨a, xs, e, t⟩ | ⟨a, xs, e, t⟩
  · exact .inl t
  · exact .inr (.inl t)
  · exact .inr (.inr (.inl t))
  · exact .inr (.inr (.inr (.inl t)))
  · exact .inr (.inr (.inr (.inr (.inl ⟨a, xs, e, n, s _ _ t⟩))))
  · exact .inr (.inr (.inr (.inr (.inr (.inl ⟨a, xs, e, s _ _ t⟩)))))
  · exact .inr (.inr (.inr (.inr (.inr (.inr ⟨a, xs, e, s _ _ t⟩)))))
theorem Thing.kp {h : Addr} {n : Nat} {H H' : Hp} {v : V} (t : Thing h H v) (hh : HandAt H h n) (s : Kp h H H') : Thing h H' v := by
  rcases t with t | t | t | t | ⟨a, xs, e, n, t⟩ | ⟨a, xs, e, t⟩ | ⟨a, xs, e, t⟩
  · exact .inl t
  · exact .inr (.inl t)
  · exact .inr (.inr (.inl t))
  · exact .inr (.inr (.inr (.inl t)))
  · exact .inr (.inr (.inr (.inr (.inl ⟨a, xs, e, n, s _ _ t n⟩))))
  · exact .inr (.inr (.inr (.inr (.inr (.inl ⟨a, xs, e, s.get hh t rfl⟩)))))
  · exact .inr (.inr (.inr (.inr (.inr (.inr ⟨a, xs, e, s.get hh t rfl⟩)))))
/-- its class, as isinstance asks it -/
theorem Thing.ty {K : PySem.W.Frag} {h : Addr} {H : Hp} {v : V} (t : Thing h H v) : ∃ n : String, TyX K H v (.type n) ∧ (n = "NoneType" ∨ n = "bool" ∨ n = "int" ∨ n = "str" ∨ n = "list" ∨ n = "tuple" ∨ n = "dict") := by
  rcases t with rfl | ⟨b, rfl⟩ | ⟨i, rfl⟩ | ⟨z, rfl⟩ | ⟨a, xs, rfl, n, t⟩ | ⟨a, xs, rfl, t⟩ | ⟨a, xs, rfl, t⟩
  · exact ⟨_, .base .non, .inl rfl⟩
  · exact ⟨_, .base (.bl b), .inr (.inl rfl)⟩
  · exact ⟨_, .base (.int i), .inr (.inr (.inl rfl))⟩
  · exact ⟨_, .base (.str z), .inr (.inr (.inr (.inl rfl)))⟩
  · exact ⟨_, .base (.lst t), .inr (.inr (.inr (.inr (.inl rfl))))⟩
  · exact ⟨_, .base (.tup t), .inr (.inr (.inr (.inr (.inr (.inl rfl)))))⟩
  · exact ⟨_, .base (.dK t), .inr (.inr (.inr (.inr (.inr (.inr rfl)))))⟩
end My
namespace My
open PySem PySem.Spec PyProof.Rows L2
/-! ### == and != by an own __eq__, beside things of any kind -/
section
open AutoSeq1 (wpAny_loadPart')
variable {prog : Program} {w : World} {A : Around} {E : Value → Shared → Prop} {s : Shared}
end
/-- a value of a built-in kind -/
inductive Bk (H : Hp) : V → String → Prop where
  | non : Bk H .non "NoneType"
  | bl (b : Bool) : Bk H (.bl b) "bool"
  | int (i : Int) : Bk H (.int i) "int"
  | str (z : Str) : Bk H (.str z) "str"
  | lst {a : Addr} {xs : List V} (e : H a = some (.lst xs)) : Bk H (.ref a) "list"
  | tup {a : Addr} {xs : List V} (e : H a = some (.tup xs)) : Bk H (.ref a) "tuple"
theorem Bk.ty {K : PySem.W.Frag} {H : Hp} {x : V} {T : String} (b : Bk H x T) : TyX K H x (.type T) := by
  cases b with
  | non => exact .base .non
  | bl b => exact .base (.bl b)
  | int i => exact .base (.int i)
  | str z => exact .base (.str z)
  | lst e => exact .base (.lst e)
  | tup e => exact .base (.tup e)
theorem Bk.same {H H' : Hp} {x : V} {T : String} (b : Bk H x T) (s : Same H H') : Bk H' x T := by
  cases b with
  | non => exact .non
  | bl b => exact .bl b
  | int i => exact .int i
  | str z => exact .str z
  | lst e => exact .lst (s _ _ e)
  | tup e => exact .tup (s _ _ e)
/-- the kinds that no own class stands under -/
def kinds : List String := ["NoneType", "bool", "int", "str", "list", "tuple"]
theorem Bk.mem {H : Hp} {x : V} {T : String} (b : Bk H x T) : T ∈ kinds := by
  cases b <;> simp [kinds]
/-- what == and != ask of a class with an own __eq__ and no own __ne__ -/
structure EqC (K : PySem.W.Frag) (C : Addr) : Prop where
  ne : PySem.W.findIn K (.ref C) "__ne__" = some (some (.builtin "object.__ne__"))
  ob : PySem.W.mroIn K C (.type "object") = some true
  sub : ∀ T, T ∈ kinds → PySem.W.subIn K (.ref C) (.type T) = some false
  nf : ∀ T, T ∈ kinds → PySem.W.notFirst K C (.type T) = true
  kit : ∀ T, T ∈ kinds → PySem.W.kitOne K (.type T) (.ref C) = some false
section
variable {X : Cx} {pins : List (Addr × Obj)} {σ : L2.St} {H : Hp} {s : Shared} {A : Around} {E : Value → Shared → Prop}
end
/-- how == answers: x == y tells b, and nothing changes -/
abbrev Eqb := V → V → Hp → Bool → Prop
def RcB (X : Cx) (n : Nat) (D : Eqb) : Prop := ∀ (A : Around) (pins : List (Addr × Obj)) (s : Shared) (σ : L2.St) (H : Hp) (x y : V) (u v : Value) (b : Bool), Sub X n A → Inv X pins σ H s → RelV x u → RelV y v → D x y H b →
  wpAny (model X.prog X.w) A (richCompare .Eq u v) (fun r s' => r = .bool b ∧ Inv X pins σ H s') X.xe s
def EqB (X : Cx) (n : Nat) (D : Eqb) : Prop := ∀ (A : Around) (pins : List (Addr × Obj)) (s : Shared) (σ : L2.St) (H : Hp) (x y : V) (u v : Value) (b : Bool), Sub X n A → Inv X pins σ H s → RelV x u → RelV y v → D x y H b →
  wpAny (model X.prog X.w) A (eqBool u v) (fun r s' => r = b ∧ Inv X pins σ H s') X.xe s
/-- the own object first -/
def DOwn (K : PySem.W.Frag) (C : Addr) (R : Eqb) : Eqb := fun x y H b => ∃ a dx fs tb, x = .ref a ∧ H a = some (.ins C dx fs) ∧ TyX K H y tb ∧ PySem.W.notFirst K C tb = true ∧ (x = y → b = true) ∧ R x y H b
/-- the own object behind a thing of a built-in kind -/
def DRef (C : Addr) (R : Eqb) : Eqb := fun x y H b => ∃ a dx fs T, y = .ref a ∧ H a = some (.ins C dx fs) ∧ Bk H x T ∧ (x = y → b = true) ∧ R y x H b
def DOr (D D' : Eqb) : Eqb := fun x y H b => D x y H b ∨ D' x y H b
section
variable {X : Cx} {n : Nat} {CX : CXT} {C f : Addr} {fd : FuncData} {ps : List Str} {R D D' : Eqb} {E : XK}
theorem RcB.mono {m : Nat} (h : RcB X n D) (l : n ≤ m) : RcB X m D := fun A pins s σ H x y u v b sb I rx ry d => h A pins s σ H x y u v b (sb.mono l) I rx ry d
theorem EqB.mono {m : Nat} (h : EqB X n D) (l : n ≤ m) : EqB X m D := fun A pins s σ H x y u v b sb I rx ry d => h A pins s σ H x y u v b (sb.mono l) I rx ry d
theorem RcB.or (h : RcB X n D) (h' : RcB X n D') : RcB X n (DOr D D') := fun A pins s σ H x y u v b sb I rx ry d => d.elim (h A pins s σ H x y u v b sb I rx ry) (h' A pins s σ H x y u v b sb I rx ry)
theorem EqB.or (h : EqB X n D) (h' : EqB X n D') : EqB X n (DOr D D') := fun A pins s σ H x y u v b sb I rx ry d => d.elim (h A pins s σ H x y u v b sb I rx ry) (h' A pins s σ H x y u v b sb I rx ry)
/-! ### in, by an own == -/
def InB (D : Eqb) (x : V) (H : Hp) : List V → Bool → Prop
  | [], b => b = false
  | y :: r, b => (D y x H true ∧ b = true) ∨ (D y x H false ∧ InB D x H r b)
open AutoSeq1 (wpAny_loadPart') in
open AutoSeq1 (wpAny_loadPart') in
/-- a text beside a thing of a built-in kind -/
def DTxt : Eqb := fun x y H b => ∃ (z : Str) (T : String), x = .str z ∧ Bk H y T ∧ b = decide (y = .str z)
end
/-! ### Measures alike, beside Measures and things of built-in kinds -/
def REq (K : PySem.W.Frag) (C : Addr) : Eqb := fun x y H b => ∃ p t u, x = .ref p ∧ MAt C H p t u ∧ ((∃ q t' u', y = .ref q ∧ MAt C H q t' u' ∧ b = (decide (t = t') && decide (u = u'))) ∨ ∃ tv, TyX K H y tv ∧ PySem.W.kitOne K tv (.ref C) = some false ∧ b = false)
inductive Like (C : Addr) (H : Hp) (p : Addr) : V → Bool → Prop where
  | ms {q : Addr} {t u t' u' : Int} (a : MAt C H p t u) (b : MAt C H q t' u') : Like C H p (.ref q) (decide (t = t') && decide (u = u'))
  | kd {y : V} {T : String} {t u : Int} (a : MAt C H p t u) (b : Bk H y T) : Like C H p y false
theorem Like.same {C p : Addr} {H H' : Hp} {y : V} {b : Bool} (h : Like C H p y b) (s : Same H H') : Like C H' p y b := by
  cases h with
  | ms a b => exact .ms (a.same s) (b.same s)
  | kd a k => exact .kd (a.same s) (k.same s)
theorem mf_inj {t u t' u' : Int} (h : mf t u = mf t' u') : t = t' ∧ u = u' := by
  unfold mf at h
  injection h with h1 h2
  injection h2 with h3 _
  exact ⟨V.int.inj (congrArg Prod.snd h1), V.int.inj (congrArg Prod.snd h3)⟩
theorem MAt.uniq {C p : Addr} {H : Hp} {t u t' u' : Int} (a : MAt C H p t u) (b : MAt C H p t' u') : t = t' ∧ u = u' := by
  obtain ⟨d, a⟩ := a
  obtain ⟨d', b⟩ := b
  rw [a] at b
  have e := HO.ins.inj (Option.some.inj b)
  exact mf_inj e.2.2
theorem Bk.notIns {C p dx : Addr} {H : Hp} {T : String} {fs : List (Str × V)} (b : Bk H (.ref p) T) (e : H p = some (.ins C dx fs)) : False := by
  cases b with
  | lst z => rw [z] at e; cases e
  | tup z => rw [z] at e; cases e
section
variable {K : PySem.W.Frag} {C p : Addr} {H : Hp} {y : V} {b : Bool}
theorem nf_self : PySem.W.notFirst K C (.ref C) = true := by simp [PySem.W.notFirst]
theorem Like.fwd (cl : Cls K C) (ii : IsC K C) (ec : EqC K C) (h : Like C H p y b) : DOwn K C (REq K C) (.ref p) y H b := by
  cases h with
  | @ms q t u t' u' a b =>
    obtain ⟨da, ha⟩ := _root_.id a
    obtain ⟨db, hb⟩ := _root_.id b
    refine ⟨p, da, _, _, rfl, ha, tyM hb cl ii, nf_self, fun e => ?_, p, t, u, rfl, a, .inl ⟨q, t', u', rfl, b, rfl⟩⟩
    cases e
    obtain ⟨rfl, rfl⟩ := a.uniq b
    simp
  | @kd _ T t u a k =>
    obtain ⟨da, ha⟩ := _root_.id a
    refine ⟨p, da, _, _, rfl, ha, k.ty, ec.nf T k.mem, fun e => ?_, p, t, u, rfl, a, .inr ⟨_, k.ty, ec.kit T k.mem, rfl⟩⟩
    subst e
    exact (k.notIns ha).elim
theorem Like.bwd (cl : Cls K C) (ii : IsC K C) (ec : EqC K C) (h : Like C H p y b) : DOr (DOwn K C (REq K C)) (DRef C (REq K C)) y (.ref p) H b := by
  cases h with
  | @ms q t u t' u' a b =>
    obtain ⟨da, ha⟩ := _root_.id a
    obtain ⟨db, hb⟩ := _root_.id b
    have e2 : (decide (t = t') && decide (u = u')) = (decide (t' = t) && decide (u' = u)) := by
      rw [decide_eq_decide.mpr (eq_comm (a := t)), decide_eq_decide.mpr (eq_comm (a := u))]
    rw [e2]
    refine .inl ⟨q, db, _, _, rfl, hb, tyM ha cl ii, nf_self, fun e => ?_, q, t', u', rfl, b, .inl ⟨p, t, u, rfl, a, rfl⟩⟩
    cases e
    obtain ⟨rfl, rfl⟩ := a.uniq b
    simp
  | @kd _ T t u a k =>
    obtain ⟨da, ha⟩ := _root_.id a
    refine .inr ⟨p, da, _, T, rfl, ha, k, fun e => ?_, p, t, u, rfl, a, .inr ⟨_, k.ty, ec.kit T k.mem, rfl⟩⟩
    subst e
    exact (k.notIns ha).elim
theorem Like.non (ec : EqC K C) (h : Like C H p y b) : DOr (DOwn K C (REq K C)) (DRef C (REq K C)) .non (.ref p) H false := by
  have go : ∀ {t u : Int}, MAt C H p t u → DOr (DOwn K C (REq K C)) (DRef C (REq K C)) .non (.ref p) H false := fun {t u} a => by
    obtain ⟨da, ha⟩ := _root_.id a
    exact .inr ⟨p, da, _, _, rfl, ha, .non, (fun e => nomatch e), p, t, u, rfl, a, .inr ⟨_, (Bk.non (H := H)).ty, ec.kit _ (Bk.non (H := H)).mem, rfl⟩⟩
  cases h with
  | ms a _ => exact go a
  | kd a _ => exact go a
/-- one in [None, y] -/
theorem Like.inl (cl : Cls K C) (ii : IsC K C) (ec : EqC K C) (h : Like C H p y b) : InB (DOr (DOwn K C (REq K C)) (DRef C (REq K C))) (.ref p) H [.non, y] b := by
  refine .inr ⟨h.non ec, ?_⟩
  cases b with
  | true => exact .inl ⟨h.bwd cl ii ec, rfl⟩
  | false => exact .inr ⟨h.bwd cl ii ec, rfl⟩
/-- y in (one, z) -/
theorem Like.inr {z : Str} (cl : Cls K C) (ii : IsC K C) (ec : EqC K C) (h : Like C H p y b) (hz : y ≠ .str z) : InB (DOr (DOr (DOwn K C (REq K C)) (DRef C (REq K C))) DTxt) y H [.ref p, .str z] b := by
  have key : ∀ {c : Bool}, Like C H p y c → DOr (DOr (DOwn K C (REq K C)) (DRef C (REq K C))) DTxt (.str z) y H false := fun {c} h => by
    cases h with
    | @ms q t u t' u' a b =>
      obtain ⟨dq, hq⟩ := _root_.id b
      exact .inl (.inr ⟨q, dq, _, _, rfl, hq, .str z, (fun e => nomatch e), q, t', u', rfl, b, .inr ⟨_, (Bk.str (H := H) z).ty, ec.kit _ (Bk.str (H := H) z).mem, rfl⟩⟩)
    | @kd _ T t u a k => exact .inr ⟨z, T, rfl, k, (decide_eq_false hz).symm⟩
  cases b with
  | true => exact .inl ⟨.inl (.inl (h.fwd cl ii ec)), rfl⟩
  | false => exact .inr ⟨.inl (.inl (h.fwd cl ii ec)), .inr ⟨key h, rfl⟩⟩
end
end My
namespace My
open PySem PySem.Spec PyProof.Rows L2
/-! ### texts: str and repr of own objects, pieces of f-strings, divmod -/
section
variable {X : Cx} {n : Nat} {CX : CXT} {C f : Addr} {fd : FuncData} {ps : List Str} {sp : Sp} {E : XK}
/-- an own def is called from within a built-in one -/
theorem fn_at (F : FnOk X.prog X.w X.K X.mg X.base CX n f fd ps sp) (hb : Binds X.K fd ps []) (hx : Passes CX X E) {A : Around} {pins : List (Addr × Obj)} {s : Shared} {σ : L2.St} {H : Hp} {vs : List V} {us : List Value} {Q : VK}
    (sb : Sub X n A) (I : Inv X pins σ H s) (r : Vals vs us) (h : sp vs H Q E) : wpAny (model X.prog X.w) A (call (.ref f) us) (fun u s' => ∃ v H', Inv X pins σ H' s' ∧ RelV v u ∧ Q v H') X.xe s := by
  have e := I.env0
  have e0 : Env0 X.prog X.w X.K X.mg X.base A X.stack s H := ⟨by rw [sb.fr]; exact e.frames, e.mod, e.bs, e.bsz, e.funs, e.frf, e.hok, e.bare⟩
  have hl := F.len _ _ _ _ h
  have hbs := hb s us I.kIn (by rw [List.append_nil, ← r.length]; exact hl)
  rw [List.append_nil] at hbs
  refine wpAny_call (codeAny_mono (F.run A X.stack s H ⟨us, []⟩ us vs _ E sb.room e0 hbs r h) fun r s' hq => ?_)
  cases r with
  | error e => exact hx pins σ H s e s' I hq
  | ok fl =>
    cases fl with
    | ret w =>
      obtain ⟨z, H', I', rz, q⟩ := I.after hq
      exact ⟨z, H', I', rz, q⟩
    | next => exact False.elim hq
    | brk => exact False.elim hq
    | cont => exact False.elim hq
/-- what a text of an own object asks: the def tells a text -/
def tOwn (C : Addr) (sp : Sp) (E : XK) : V → Hp → VK → Prop := fun x H Q => ∃ a dx fs, x = .ref a ∧ H a = some (.ins C dx fs) ∧ sp [.ref a] H (fun v H' => ∃ z : Str, v = .str z ∧ Q (.str z) H') E
theorem bnil {K : PySem.W.Frag} {fd : FuncData} {ps : List Str} {ds : List Value} (v : Vals [] ds) (b : Binds K fd ps ds) : Binds K fd ps [] := by
  cases v
  exact b
end
/-! ### the text of a number, of a Measure -/
def iT (i : Int) : Str := Str.ofString (toString i)
def wTxt (a u : Int) : Str := if a % u = 0 then iT (a / u) else if a / u = 0 then Str.empty ++ iT (a % u) ++ "/" ++ iT u else Str.empty ++ iT (a / u) ++ " " ++ iT (a % u) ++ "/" ++ iT u
def mTxt (t u : Int) : Str := if t < 0 then Str.empty ++ "-" ++ wTxt (-t) u else wTxt t u
end My
namespace My
open PySem PySem.Spec PyProof.Rows L2
/-! ### Stretches alike -/
def optEq : Option Q2 → Option Q2 → Bool
  | none, none => true
  | some a, some b => eqq a b
  | _, _ => false
theorem optEq_self (a : Option Q2) : optEq a a = true := by
  cases a with
  | none => rfl
  | some a => exact eqq_self a
theorem eqq_comm' (a b : Q2) : eqq a b = eqq b a := by
  unfold eqq
  exact decide_eq_decide.mpr eq_comm
theorem optEq_comm (a b : Option Q2) : optEq a b = optEq b a := by
  cases a with
  | none => cases b <;> rfl
  | some a =>
    cases b with
    | none => rfl
    | some b => exact eqq_comm' a b
def eqS (lo hi : Option Q2) (li hj : Bool) (lo' hi' : Option Q2) (li' hj' : Bool) : Bool := optEq lo lo' && (optEq hi hi' && (decide (V.bl li = V.bl li') && decide (V.bl hj = V.bl hj')))
theorem eqS_self (lo hi : Option Q2) (li hj : Bool) : eqS lo hi li hj lo hi li hj = true := by
  unfold eqS
  rw [optEq_self, optEq_self, decide_eq_true rfl, decide_eq_true rfl]
  rfl
theorem eqS_comm (lo hi : Option Q2) (li hj : Bool) (lo' hi' : Option Q2) (li' hj' : Bool) : eqS lo hi li hj lo' hi' li' hj' = eqS lo' hi' li' hj' lo hi li hj := by
  unfold eqS
  rw [optEq_comm lo, optEq_comm hi, decide_eq_decide.mpr (eq_comm (a := V.bl li)), decide_eq_decide.mpr (eq_comm (a := V.bl hj))]
section
variable {K : PySem.W.Frag} {CM CS p : Addr} {H : Hp}
def REqS (K : PySem.W.Frag) (CM CS : Addr) : Eqb := fun x y H b => ∃ p lo hi li hj, x = .ref p ∧ StAt CM CS H p lo hi li hj ∧ ((∃ q lo' hi' li' hj', y = .ref q ∧ StAt CM CS H q lo' hi' li' hj' ∧ b = eqS lo hi li hj lo' hi' li' hj') ∨
  ∃ tv, TyX K H y tv ∧ PySem.W.kitOne K tv (.ref CS) = some false ∧ b = false)
inductive LikeS (CM CS : Addr) (H : Hp) (p : Addr) : V → Bool → Prop where
  | st {q : Addr} {lo hi lo' hi' : Option Q2} {li hj li' hj' : Bool} (a : StAt CM CS H p lo hi li hj) (b : StAt CM CS H q lo' hi' li' hj') : LikeS CM CS H p (.ref q) (eqS lo hi li hj lo' hi' li' hj')
  | kd {y : V} {T : String} {lo hi : Option Q2} {li hj : Bool} (a : StAt CM CS H p lo hi li hj) (b : Bk H y T) : LikeS CM CS H p y false
  | ms {q : Addr} {t u : Int} {lo hi : Option Q2} {li hj : Bool} (a : StAt CM CS H p lo hi li hj) (b : MAt CM H q t u) : LikeS CM CS H p (.ref q) false
theorem LikeS.same {H' : Hp} {y : V} {b : Bool} (h : LikeS CM CS H p y b) (s : Same H H') : LikeS CM CS H' p y b := by
  cases h with
  | st a b => exact .st (a.same s) (b.same s)
  | kd a k => exact .kd (a.same s) (k.same s)
  | ms a m => exact .ms (a.same s) (m.same s)
theorem MsV.uniq {v : V} {e f : Option Q2} (a : MsV CM H v e) (b : MsV CM H v f) : e = f := by
  cases e with
  | none =>
    cases a
    cases f with
    | none => rfl
    | some y => obtain ⟨q, z, _⟩ := b; exact nomatch z
  | some x =>
    obtain ⟨p, rfl, hp⟩ := a
    cases f with
    | none => exact nomatch (show V.ref p = V.non from b)
    | some y =>
      obtain ⟨q, z, hq⟩ := b
      cases z
      obtain ⟨h1, h2⟩ := hp.uniq hq
      rw [show x = (x.1, x.2) from rfl, show y = (y.1, y.2) from rfl, h1, h2]
theorem sf_inj {l h l' h' : V} {i j i' j' : Bool} (e : sf l h i j = sf l' h' i' j') : l = l' ∧ h = h' ∧ i = i' ∧ j = j' := by
  have g : ∀ m : Str, (sf l h i j).lookup m = (sf l' h' i' j').lookup m := fun m => by rw [e]
  have g1 := g "low"
  have g2 := g "high"
  have g3 := g "low_in"
  have g4 := g "high_in"
  rw [sf_low, sf_low] at g1
  rw [sf_high, sf_high] at g2
  rw [sf_low_in, sf_low_in] at g3
  rw [sf_high_in, sf_high_in] at g4
  exact ⟨Option.some.inj g1, Option.some.inj g2, V.bl.inj (Option.some.inj g3), V.bl.inj (Option.some.inj g4)⟩
theorem StAt.uniq {lo hi lo' hi' : Option Q2} {li hj li' hj' : Bool} (a : StAt CM CS H p lo hi li hj) (b : StAt CM CS H p lo' hi' li' hj') : lo = lo' ∧ hi = hi' ∧ li = li' ∧ hj = hj' := by
  obtain ⟨⟨d, l, h, h1, h2, h3⟩, _⟩ := a
  obtain ⟨⟨d', l', h', k1, k2, k3⟩, _⟩ := b
  rw [h1] at k1
  have e := HO.ins.inj (Option.some.inj k1)
  obtain ⟨rfl, rfl, rfl, rfl⟩ := sf_inj e.2.2
  exact ⟨h2.uniq k2, h3.uniq k3, rfl, rfl⟩
theorem st_notM {q : Addr} {lo hi : Option Q2} {li hj : Bool} {t u : Int} (a : StAt CM CS H p lo hi li hj) (m : MAt CM H p t u) : False := by
  obtain ⟨⟨d, l, hh, h1, _⟩, _⟩ := a
  obtain ⟨dm, hm⟩ := m
  rw [h1] at hm
  have e := (HO.ins.inj (Option.some.inj hm)).2.2
  have e2 := congrArg (fun fs : List (Str × V) => fs.lookup ("top" : Str)) e
  have e3 : (sf l hh li hj).lookup ("top" : Str) = none := sf_no _ _ _ _ (by decide +kernel) (by decide +kernel) (by decide +kernel) (by decide +kernel)
  have e4 := mf_top t u
  rw [show (sf l hh li hj).lookup ("top" : Str) = (mf t u).lookup ("top" : Str) from e2, e4] at e3
  cases e3
/-- what is asked of the two classes -/
structure Two (K : PySem.W.Frag) (CM CS : Addr) : Prop where
  clM : Cls K CM
  iiM : IsC K CM
  ecM : EqC K CM
  clS : Cls K CS
  iiS : IsC K CS
  ecS : EqC K CS
  nMS : PySem.W.notFirst K CM (.ref CS) = true
  nSM : PySem.W.notFirst K CS (.ref CM) = true
  kMS : PySem.W.kitOne K (.ref CM) (.ref CS) = some false
  kSM : PySem.W.kitOne K (.ref CS) (.ref CM) = some false
def DAllS (K : PySem.W.Frag) (CM CS : Addr) : Eqb := DOr (DOr (DOwn K CS (REqS K CM CS)) (DRef CS (REqS K CM CS))) (DOwn K CM (REq K CM))
theorem LikeS.fwd {y : V} {b : Bool} (T : Two K CM CS) (h : LikeS CM CS H p y b) : DOwn K CS (REqS K CM CS) (.ref p) y H b := by
  cases h with
  | @st q lo hi lo' hi' li hj li' hj' a b =>
    obtain ⟨⟨d, l, hh, h1, _⟩, _⟩ := _root_.id a
    obtain ⟨⟨d', l', hh', k1, _⟩, _⟩ := _root_.id b
    refine ⟨p, d, _, _, rfl, h1, tyM k1 T.clS T.iiS, nf_self, fun e => ?_, p, lo, hi, li, hj, rfl, a, .inl ⟨q, lo', hi', li', hj', rfl, b, rfl⟩⟩
    cases e
    obtain ⟨rfl, rfl, rfl, rfl⟩ := a.uniq b
    exact eqS_self _ _ _ _
  | @kd _ Ty lo hi li hj a k =>
    obtain ⟨⟨d, l, hh, h1, _⟩, _⟩ := _root_.id a
    refine ⟨p, d, _, _, rfl, h1, k.ty, T.ecS.nf Ty k.mem, fun e => ?_, p, lo, hi, li, hj, rfl, a, .inr ⟨_, k.ty, T.ecS.kit Ty k.mem, rfl⟩⟩
    subst e
    exact (k.notIns h1).elim
  | @ms q t u lo hi li hj a m =>
    obtain ⟨⟨d, l, hh, h1, _⟩, _⟩ := _root_.id a
    obtain ⟨dm, hm⟩ := _root_.id m
    have ty := tyM hm T.clM T.iiM
    refine ⟨p, d, _, _, rfl, h1, ty, T.nSM, fun e => ?_, p, lo, hi, li, hj, rfl, a, .inr ⟨_, ty, T.kMS, rfl⟩⟩
    cases e
    exact (st_notM (q := p) a m).elim
theorem LikeS.bwd {y : V} {b : Bool} (T : Two K CM CS) (h : LikeS CM CS H p y b) : DAllS K CM CS y (.ref p) H b := by
  cases h with
  | @st q lo hi lo' hi' li hj li' hj' a b =>
    rw [eqS_comm]
    exact .inl (.inl (LikeS.fwd T (.st b a)))
  | @kd _ Ty lo hi li hj a k =>
    obtain ⟨⟨d, l, hh, h1, _⟩, _⟩ := _root_.id a
    refine .inl (.inr ⟨p, d, _, Ty, rfl, h1, k, fun e => ?_, p, lo, hi, li, hj, rfl, a, .inr ⟨_, k.ty, T.ecS.kit Ty k.mem, rfl⟩⟩)
    subst e
    exact (k.notIns h1).elim
  | @ms q t u lo hi li hj a m =>
    obtain ⟨⟨d, l, hh, h1, _⟩, _⟩ := _root_.id a
    obtain ⟨dm, hm⟩ := _root_.id m
    have ty := tyM h1 T.clS T.iiS
    refine .inr ⟨q, dm, _, _, rfl, hm, ty, T.nMS, fun e => ?_, q, t, u, rfl, m, .inr ⟨_, ty, T.kSM, rfl⟩⟩
    cases e
    exact (st_notM (q := p) a m).elim
theorem LikeS.inl {y : V} {b : Bool} (T : Two K CM CS) (h : LikeS CM CS H p y b) : InB (DAllS K CM CS) (.ref p) H [.non, y] b := by
  have go : ∀ {lo hi li hj}, StAt CM CS H p lo hi li hj → DAllS K CM CS .non (.ref p) H false := fun {lo hi li hj} a => LikeS.bwd T (.kd a .non)
  have nn : DAllS K CM CS .non (.ref p) H false := by
    cases h with
    | st a _ => exact go a
    | kd a _ => exact go a
    | ms a _ => exact go a
  refine .inr ⟨nn, ?_⟩
  cases b with
  | true => exact .inl ⟨h.bwd T, rfl⟩
  | false => exact .inr ⟨h.bwd T, rfl⟩
end
/-! ### texts of Stretches -/
def eT : Option Q2 → Str
  | none => ".."
  | some a => mTxt a.1 a.2
/-- the tuple of two ends and two truths -/
def EndsK (k : Nat) (H : Hp) (v : V) (ea eb : Option Q2) (ia ib : Bool) : Prop := ∃ p va vb, v = .ref p ∧ H p = some (.tup [va, vb, .bl ia, .bl ib]) ∧ EndV k H va ea ∧ EndV k H vb eb
theorem EndsK.nl {k : Nat} {H H' : Hp} {v : V} {ea eb : Option Q2} {ia ib : Bool} (a : EndsK k H v ea eb ia ib) (s : Nl H H') : EndsK k H' v ea eb ia ib := by
  obtain ⟨p, va, vb, h0, h1, h2, h3⟩ := a
  exact ⟨p, va, vb, h0, s _ _ h1 rfl, h2.nl s, h3.nl s⟩
theorem EndsK.same {k : Nat} {H H' : Hp} {v : V} {ea eb : Option Q2} {ia ib : Bool} (a : EndsK k H v ea eb ia ib) (s : Same H H') : EndsK k H' v ea eb ia ib := a.nl (Nl.of s)
theorem EndsAt.k {H : Hp} {p : Addr} {ea eb : Option Q2} {ia ib : Bool} (a : EndsAt H p ea eb ia ib) : EndsK 150 H (.ref p) ea eb ia ib := by
  obtain ⟨⟨va, vb, h1, h2, h3⟩, _⟩ := a
  exact ⟨p, va, vb, rfl, h1, h2.mono (by decide), h3.mono (by decide)⟩
end My
namespace My
open PySem PySem.Spec PyProof.Rows L2
/-! ### texts by their signs: partings at the last and the first sign -/
/-! ### x.rpartition(sep) -/
/-! ### a leading sign -/
/-! ### the words of a measure's text -/
/-! ### the text of a Measure by its signs -/
end My
namespace My
open PySem PySem.Spec PyProof.Rows L2
/-! ### list.count(True) of truths -/
/-! ### Measures as fractions -/
theorem fr_of {t u A B : Int} (hu : 0 < u) (co : Int.gcd t u = 1) (hB : 0 < B) (e : t * B = A * u) : Fr t u A B := by
  have co' : Int.gcd u t = 1 := by rw [Int.gcd_comm]; exact co
  have d2 : u ∣ B := dvd_co (b := t) ⟨A, by rw [e, Int.mul_comm]⟩ co'
  obtain ⟨k, hk⟩ := d2
  have k0 : 0 < k := by
    rcases Int.lt_or_le 0 k with z | z
    · exact z
    · have := Int.mul_nonneg_of_nonpos_of_nonpos (show -u ≤ 0 by omega) z
      have e2 : -u * k = -(u * k) := Int.neg_mul ..
      omega
  have e1 : A = t * k := by
    have : A * u = (t * k) * u := by
      rw [← e, hk]
      simp only [Int.mul_assoc, Int.mul_comm, Int.mul_left_comm]
    exact Int.eq_of_mul_eq_mul_right (by omega) this
  refine ⟨hu, e, co, ?_, ?_⟩
  · rw [e1, Int.natAbs_mul]
    exact Nat.le_mul_of_pos_right _ (by omega)
  · rw [hk, Int.natAbs_mul]
    exact Nat.le_mul_of_pos_right _ (by omega)
def qadd (x y : Q2) : Q2 := (x.1 * y.2 + y.1 * x.2, x.2 * y.2)
def qsub (x y : Q2) : Q2 := (x.1 * y.2 - y.1 * x.2, x.2 * y.2)
def qmul (x y : Q2) : Q2 := (x.1 * y.1, x.2 * y.2)
def qprt (x : Q2) (m : Int) : Q2 := (x.1 * sgn m, x.2 * (m * sgn m))
def qmk (a b : Int) : Q2 := (a * sgn b, b * sgn b)
theorem sgn_pos {m : Int} (h : m ≠ 0) : 0 < m * sgn m := by
  unfold sgn; split
  · omega
  · rw [Int.mul_neg_one]; omega
structure QAt (C : Addr) (H : Hp) (p : Addr) (k : Nat) (x : Q2) : Prop where
  ob : ∃ t u, MAt C H p t u ∧ Fr t u x.1 x.2
  pos : 0 < x.2
  s1 : Sz k x.1
  s2 : Sz k x.2
theorem QAt.same {C p : Addr} {H H' : Hp} {k : Nat} {x : Q2} (h : QAt C H p k x) (s : Same H H') : QAt C H' p k x := by
  obtain ⟨⟨t, u, m, f⟩, h1, h2, h3⟩ := h
  exact ⟨⟨t, u, m.same s, f⟩, h1, h2, h3⟩
theorem QAt.mono {C p : Addr} {H : Hp} {k j : Nat} {x : Q2} (h : QAt C H p k x) (l : k ≤ j) : QAt C H p j x := ⟨h.ob, h.pos, h.s1.mono l, h.s2.mono l⟩
theorem QAt.kp {C p hd : Addr} {H H' : Hp} {n k : Nat} {x : Q2} (h : QAt C H p k x) (hh : HandAt H hd n) (s : Kp hd H H') : QAt C H' p k x := by
  obtain ⟨⟨t, u, m, f⟩, h1, h2, h3⟩ := h
  exact ⟨⟨t, u, m.kp hh s, f⟩, h1, h2, h3⟩
theorem QAt.nl {C p : Addr} {H H' : Hp} {k : Nat} {x : Q2} (h : QAt C H p k x) (s : Nl H H') : QAt C H' p k x := by
  obtain ⟨⟨t, u, ⟨d, m⟩, f⟩, h1, h2, h3⟩ := h
  exact ⟨⟨t, u, ⟨d, s _ _ m rfl⟩, f⟩, h1, h2, h3⟩
section
variable {C p q : Addr} {H : Hp} {Q : VK} {E : XK} {k j : Nat} {x y : Q2}
theorem QAt.raw (h : QAt C H p k x) {m : Str} (h1 : ¬ m = "top") (h2 : ¬ m = "bottom") : ∃ dx fs, H p = some (.ins C dx fs) ∧ fs.lookup m = none := by
  obtain ⟨⟨t, u, ⟨d, m⟩, f⟩, _⟩ := h
  exact ⟨d, _, m, mf_no _ _ h1 h2⟩
theorem q_add (hx : QAt C H p k x) (hy : QAt C H q j y) (l : k + j ≤ 8900) (l0 : 0 < k) (l1 : 0 < j) (f : ∀ (r : Addr) (H' : Hp), Same H H' → QAt C H' r (k + j + 1) (qadd x y) → Q (.ref r) H') :
    sp_bin2 C (fun t u t' u' => t * u' + t' * u) (fun t u t' u' => u * u') [.ref p, .ref q] H Q E := by
  obtain ⟨⟨t, u, m1, f1⟩, px, a1, a2⟩ := hx
  obtain ⟨⟨t', u', m2, f2⟩, py, b1, b2⟩ := hy
  refine ⟨p, q, t, u, t', u', rfl, m1, m2, f1.pos, f2.pos, (a1.le f1.lt).mono (by omega), (a2.le f1.lu).mono (by omega), (b1.le f2.lt).mono (by omega), (b2.le f2.lu).mono (by omega), ((a2.le f1.lu).mul (b2.le f2.lu)).mono (by omega), fun r t2 u2 H' _ s m f3 => ?_⟩
  refine f r H' s ⟨⟨t2, u2, m, fr_of f3.pos f3.co (Int.mul_pos px py) ?_⟩, Int.mul_pos px py, (a1.mul b2).add ((b1.mul a2).mono (by omega)), (a2.mul b2).mono (by omega)⟩
  have e1 := f1.eq
  have e2 := f2.eq
  have e3 := f3.eq
  have z : (t2 * (x.2 * y.2)) * (u * u') = ((x.1 * y.2 + y.1 * x.2) * u2) * (u * u') := by
    have : (t2 * (x.2 * y.2)) * (u * u') = (t2 * (u * u')) * (x.2 * y.2) := by grind
    rw [this, e3]
    have w1 : (t * u' + t' * u) * u2 * (x.2 * y.2) = ((t * x.2) * u' * y.2 + (t' * y.2) * u * x.2) * u2 := by grind
    rw [w1, e1, e2]
    grind
  have pu := Int.mul_pos f1.pos f2.pos
  exact Int.eq_of_mul_eq_mul_right (by omega) z
theorem q_sub (hx : QAt C H p k x) (hy : QAt C H q j y) (l : k + j ≤ 8900) (l0 : 0 < k) (l1 : 0 < j) (f : ∀ (r : Addr) (H' : Hp), Same H H' → QAt C H' r (k + j + 1) (qsub x y) → Q (.ref r) H') :
    sp_bin2 C (fun t u t' u' => t * u' - t' * u) (fun t u t' u' => u * u') [.ref p, .ref q] H Q E := by
  obtain ⟨⟨t, u, m1, f1⟩, px, a1, a2⟩ := hx
  obtain ⟨⟨t', u', m2, f2⟩, py, b1, b2⟩ := hy
  refine ⟨p, q, t, u, t', u', rfl, m1, m2, f1.pos, f2.pos, (a1.le f1.lt).mono (by omega), (a2.le f1.lu).mono (by omega), (b1.le f2.lt).mono (by omega), (b2.le f2.lu).mono (by omega), ((a2.le f1.lu).mul (b2.le f2.lu)).mono (by omega), fun r t2 u2 H' _ s m f3 => ?_⟩
  refine f r H' s ⟨⟨t2, u2, m, fr_of f3.pos f3.co (Int.mul_pos px py) ?_⟩, Int.mul_pos px py, (a1.mul b2).sub ((b1.mul a2).mono (by omega)), (a2.mul b2).mono (by omega)⟩
  have e1 := f1.eq
  have e2 := f2.eq
  have e3 := f3.eq
  have z : (t2 * (x.2 * y.2)) * (u * u') = ((x.1 * y.2 - y.1 * x.2) * u2) * (u * u') := by
    have : (t2 * (x.2 * y.2)) * (u * u') = (t2 * (u * u')) * (x.2 * y.2) := by grind
    rw [this, e3]
    have w1 : (t * u' - t' * u) * u2 * (x.2 * y.2) = ((t * x.2) * u' * y.2 - (t' * y.2) * u * x.2) * u2 := by grind
    rw [w1, e1, e2]
    grind
  have pu := Int.mul_pos f1.pos f2.pos
  exact Int.eq_of_mul_eq_mul_right (by omega) z
theorem q_mul (hx : QAt C H p k x) (hy : QAt C H q j y) (l : k + j ≤ 8900) (l0 : 0 < k) (l1 : 0 < j) (f : ∀ (r : Addr) (H' : Hp), Same H H' → QAt C H' r (k + j + 1) (qmul x y) → Q (.ref r) H') :
    sp_bin2 C (fun t u t' u' => t * t') (fun t u t' u' => u * u') [.ref p, .ref q] H Q E := by
  obtain ⟨⟨t, u, m1, f1⟩, px, a1, a2⟩ := hx
  obtain ⟨⟨t', u', m2, f2⟩, py, b1, b2⟩ := hy
  refine ⟨p, q, t, u, t', u', rfl, m1, m2, f1.pos, f2.pos, (a1.le f1.lt).mono (by omega), (a2.le f1.lu).mono (by omega), (b1.le f2.lt).mono (by omega), (b2.le f2.lu).mono (by omega), ((a2.le f1.lu).mul (b2.le f2.lu)).mono (by omega), fun r t2 u2 H' _ s m f3 => ?_⟩
  refine f r H' s ⟨⟨t2, u2, m, fr_of f3.pos f3.co (Int.mul_pos px py) ?_⟩, Int.mul_pos px py, (a1.mul b1).mono (by omega), (a2.mul b2).mono (by omega)⟩
  have e1 := f1.eq
  have e2 := f2.eq
  have e3 := f3.eq
  have z : (t2 * (x.2 * y.2)) * (u * u') = ((x.1 * y.1) * u2) * (u * u') := by
    have : (t2 * (x.2 * y.2)) * (u * u') = (t2 * (u * u')) * (x.2 * y.2) := by grind
    rw [this, e3]
    have w1 : (t * t') * u2 * (x.2 * y.2) = (t * x.2) * (t' * y.2) * u2 := by grind
    rw [w1, e1, e2]
    grind
  have pu := Int.mul_pos f1.pos f2.pos
  exact Int.eq_of_mul_eq_mul_right (by omega) z
theorem q_mk {a b t u : Int} {H' : Hp} (m : MAt C H' p t u) (f : Fr t u a b) (hb : b ≠ 0) (sa : Sz k a) (sb : Sz k b) : QAt C H' p k (qmk a b) := by
  have pm := sgn_pos hb
  have sgnN : (sgn b).natAbs = 1 := by rcases sgn_cases b with e | e <;> rw [e] <;> rfl
  refine ⟨⟨t, u, m, fr_of f.pos f.co pm ?_⟩, pm, sa.le (by show (a * sgn b).natAbs ≤ _; rw [Int.natAbs_mul, sgnN, Nat.mul_one]; exact Nat.le_refl _), sb.le (by show (b * sgn b).natAbs ≤ _; rw [Int.natAbs_mul, sgnN, Nat.mul_one]; exact Nat.le_refl _)⟩
  show t * (b * sgn b) = a * sgn b * u
  have e := f.eq
  have : t * (b * sgn b) = (t * b) * sgn b := by grind
  rw [this, e]
  grind
theorem q_below {al : Bool} (hx : QAt C H p k x) (hy : QAt C H q j y) (l : k ≤ 9000) (l1 : j ≤ 9000) (f : Q (.bl (ltq x y || (al && eqq x y))) H) : sp_below C [.ref p, .ref q, .bl al] H Q E := by
  obtain ⟨⟨t, u, m1, f1⟩, px, a1, a2⟩ := hx
  obtain ⟨⟨t', u', m2, f2⟩, py, b1, b2⟩ := hy
  refine ⟨p, q, t, u, t', u', al, rfl, m1, m2, (a1.le f1.lt).mono l, (a2.le f1.lu).mono l, (b1.le f2.lt).mono l1, (b2.le f2.lu).mono l1, ?_⟩
  have r1 : Re (t, u) x := ⟨f1.pos, px, f1.eq⟩
  have r2 : Re (t', u') y := ⟨f2.pos, py, f2.eq⟩
  have e : lessA t u t' u' al = (ltq x y || (al && eqq x y)) := by
    rw [← ltq_congr r1 r2, ← eqq_congr r1 r2]
    rfl
  rw [e]
  exact f
end
/-! the same, behind the arguments -/
section
variable {C p q : Addr} {H : Hp} {Q : VK} {E : XK} {k j : Nat} {x y : Q2} {σ : L2.St}
theorem q_addT (hx : QAt C H p k x) (hy : QAt C H q j y) (l : k + j ≤ 8900) (l0 : 0 < k) (l1 : 0 < j) (f : ∀ (r : Addr) (H' : Hp), Same H H' → QAt C H' r (k + j + 1) (qadd x y) → Q (.ref r) H') :
    tNil σ H (fun xs H2 => sp_bin2 C (fun t u t' u' => t * u' + t' * u) (fun t u t' u' => u * u') (.ref p :: ((.ref q :: xs) ++ [])) H2 Q E) := q_add (E := E) hx hy l l0 l1 f
theorem q_subT (hx : QAt C H p k x) (hy : QAt C H q j y) (l : k + j ≤ 8900) (l0 : 0 < k) (l1 : 0 < j) (f : ∀ (r : Addr) (H' : Hp), Same H H' → QAt C H' r (k + j + 1) (qsub x y) → Q (.ref r) H') :
    tNil σ H (fun xs H2 => sp_bin2 C (fun t u t' u' => t * u' - t' * u) (fun t u t' u' => u * u') (.ref p :: ((.ref q :: xs) ++ [])) H2 Q E) := q_sub (E := E) hx hy l l0 l1 f
theorem q_mulT (hx : QAt C H p k x) (hy : QAt C H q j y) (l : k + j ≤ 8900) (l0 : 0 < k) (l1 : 0 < j) (f : ∀ (r : Addr) (H' : Hp), Same H H' → QAt C H' r (k + j + 1) (qmul x y) → Q (.ref r) H') :
    tNil σ H (fun xs H2 => sp_bin2 C (fun t u t' u' => t * t') (fun t u t' u' => u * u') (.ref p :: ((.ref q :: xs) ++ [])) H2 Q E) := q_mul (E := E) hx hy l l0 l1 f
theorem q_belowT (hx : QAt C H p k x) (hy : QAt C H q j y) (l : k ≤ 9000) (l1 : j ≤ 9000) (f : Q (.bl (ltq x y)) H) :
    tNil σ H (fun xs H2 => sp_below C (.ref p :: ((.ref q :: xs) ++ [.bl false])) H2 Q E) := q_below (E := E) (al := false) hx hy l l1 (by rw [Bool.false_and, Bool.or_false]; exact f)
theorem q_belowA (hx : QAt C H p k x) (hy : QAt C H q j y) (l : k ≤ 9000) (l1 : j ≤ 9000) (f : Q (.bl (ltq x y || eqq x y)) H) :
    tCons (tC (.bl true)) tNil σ H (fun xs H2 => sp_below C (.ref p :: ((.ref q :: xs) ++ [])) H2 Q E) := q_below (E := E) (al := true) hx hy l l1 (by rw [Bool.true_and]; exact f)
end
/-! ### sums keep the order; the midst lies between -/
def qhalf (x y : Q2) : Q2 := qprt (qadd x y) 2
/-! ### numbers of at most twelve figures -/
/-! ### constants by their signs -/
/-! ### a comprehension over a text -/
end My
namespace My
open PySem PySem.Spec PyProof.Rows L2
/-! ### comprehensions over anything that is walked -/
section
variable {J : It} {n : Nat} {G : Hp → Prop} {Y : Nat → Hp → V → Hp → Prop} {g : TG} {tt : TT} {te : TE} {vs : List Nat} {σ : L2.St} {H1 : Hp} {D : Addr} {Qd : Hp → Prop}
/-- the elements are known: z some y is told, z none is left out -/
theorem lcz (w : Walk J n G Y) (hGs : ∀ H H', G H → Same H H' → G H') (zs : List (Option V)) (hlen : zs.length = n) (hz : n < sizeLine) (hG : G H1) (hD : H1 D = none)
    (hs : ∀ (i : Nat) (x : V) (H H' : Hp) (z : Option V) (N : VK) (M : Hp → Prop), i < n → zs[i]? = some z → Same H1 H → Y i H x H' → (∀ y H4, z = some y → Same H H4 → N y H4) → (∀ H4, z = none → Same H H4 → M H4) →
      g x (wipe σ vs) H' fun σ2 H2 => wipe σ2 vs = wipe σ vs ∧ tt σ2 H2 fun b H3 => if b = true then te σ2 H3 N else M H3)
    (hd : ∀ H, Same H1 H → H D = some (.lst (zs.filterMap _root_.id)) → Qd H) :
    ∃ W : Nat → Nat → Hp → Prop, (∃ m, W 0 m (upd H1 D (.lst []))) ∧ ∀ i m H, W i m H →
      (J.stop i H ∧ Qd H) ∨ (J.go i H ∧ ∃ Nx : Hp → Prop, (∀ H', Nx H' → ∃ m', m' < m ∧ W (i + 1) m' H') ∧ ∀ x H', J.yld i H x H' → g x (wipe σ vs) H' fun σ2 H2 => wipe σ2 vs = wipe σ vs ∧ tt σ2 H2 fun b H3 =>
        if b = true then te σ2 H3 fun y H4 => ∃ acc, H4 D = some (.lst acc) ∧ acc.length < sizeLine ∧ Nx (upd H4 D (.lst (acc ++ [y]))) else Nx H3) := by
  refine lc_it w (fun i H => Same H1 H ∧ H D = some (.lst ((zs.take i).filterMap _root_.id))) ⟨same1 hD, upd_same⟩ (fun i H _ p => hGs _ _ hG p.1) (fun i x H H' hi p y => ?_) (fun H p => hd H p.1 ?_)
  · have hi2 : i < zs.length := by omega
    have tk : ∀ z, zs[i]? = some z → (zs.take (i + 1)).filterMap _root_.id = (zs.take i).filterMap _root_.id ++ z.toList := fun z e => by
      rw [List.take_add_one, e, List.filterMap_append]
      cases z <;> rfl
    have ez : zs[i]? = some zs[i] := List.getElem?_eq_getElem hi2
    refine hs i x H H' zs[i] _ _ hi ez p.1 y (fun v H4 e s4 => ⟨_, s4 _ _ p.2, ?_, ?_, ?_⟩) (fun H4 e s4 => ⟨p.1.trans s4, ?_⟩)
    · refine Nat.lt_of_le_of_lt (List.length_filterMap_le _ _) ?_
      rw [List.length_take]; omega
    · intro c o ec
      rw [upd_ne (ne_of_none ec hD)]
      exact s4 _ _ (p.1 _ _ ec)
    · rw [upd_same, tk _ ez, e]
      rfl
    · rw [tk _ ez, e, Option.toList_none, List.append_nil]
      exact s4 _ _ p.2
  · have e := p.2
    rw [← hlen, List.take_length] at e
    exact e
/-- the elements are told by what holds of them -/
theorem lcr (w : Walk J n G Y) (hGs : ∀ H H', G H → Same H H' → G H') (R : Nat → Hp → V → Prop) (hR : ∀ i H H' y, R i H y → Nl H H' → R i H' y) (hz : n < sizeLine) (hG : G H1) (hD : H1 D = none)
    (hs : ∀ (i : Nat) (x : V) (H H' : Hp) (N : VK) (M : Hp → Prop), i < n → Same H1 H → Y i H x H' → (∀ y H4, Same H H4 → R i H4 y → N y H4) →
      g x (wipe σ vs) H' fun σ2 H2 => wipe σ2 vs = wipe σ vs ∧ tt σ2 H2 fun b H3 => if b = true then te σ2 H3 N else M H3)
    (hd : ∀ H ys, Same H1 H → H D = some (.lst ys) → ys.length = n → (∀ i y, ys[i]? = some y → R i H y) → Qd H) :
    ∃ W : Nat → Nat → Hp → Prop, (∃ m, W 0 m (upd H1 D (.lst []))) ∧ ∀ i m H, W i m H →
      (J.stop i H ∧ Qd H) ∨ (J.go i H ∧ ∃ Nx : Hp → Prop, (∀ H', Nx H' → ∃ m', m' < m ∧ W (i + 1) m' H') ∧ ∀ x H', J.yld i H x H' → g x (wipe σ vs) H' fun σ2 H2 => wipe σ2 vs = wipe σ vs ∧ tt σ2 H2 fun b H3 =>
        if b = true then te σ2 H3 fun y H4 => ∃ acc, H4 D = some (.lst acc) ∧ acc.length < sizeLine ∧ Nx (upd H4 D (.lst (acc ++ [y]))) else Nx H3) := by
  refine lc_it w (fun i H => Same H1 H ∧ ∃ ys, H D = some (.lst ys) ∧ ys.length = i ∧ ∀ j y, ys[j]? = some y → R j H y) ⟨same1 hD, [], upd_same, rfl, fun j y hy => by simp at hy⟩ (fun i H _ p => hGs _ _ hG p.1) (fun i x H H' hi p y => ?_) (fun H p => ?_)
  · obtain ⟨s1, ys, h1, h2, h3⟩ := p
    refine hs i x H H' _ _ hi s1 y (fun v H4 s4 r4 => ⟨ys, s4 _ _ h1, by omega, ?_, ys ++ [v], upd_same, by rw [List.length_append, h2]; rfl, ?_⟩)
    · intro c o ec
      rw [upd_ne (ne_of_none ec hD)]
      exact s4 _ _ (s1 _ _ ec)
    · intro j z hj
      have n4 : Nl H4 (upd H4 D (.lst (ys ++ [v]))) := Nl.put (s4 _ _ h1)
      by_cases hlt : j < ys.length
      · rw [List.getElem?_append_left hlt] at hj
        exact hR _ _ _ _ (hR _ _ _ _ (h3 j z hj) (Nl.of s4)) n4
      · have hj2 : j = ys.length := by
          have := (List.getElem?_eq_some_iff.mp hj).1
          rw [List.length_append, List.length_singleton] at this
          omega
        subst hj2
        rw [List.getElem?_append_right (Nat.le_refl _), Nat.sub_self] at hj
        cases hj
        rw [h2]
        exact hR _ _ _ _ r4 n4
  · obtain ⟨s1, ys, h1, h2, h3⟩ := p
    exact hd H ys s1 h1 h2 h3
end
/-! ### several Measures -/
/-- the values ps are Measures of the fractions zs -/
structure Mks (C : Addr) (H : Hp) (k : Nat) (ps : List V) (zs : List Q2) : Prop where
  len : ps.length = zs.length
  all : ∀ (i : Nat) (v : V) (z : Q2), ps[i]? = some v → zs[i]? = some z → ∃ p, v = V.ref p ∧ QAt C H p k z
section
variable {C : Addr} {H H' : Hp} {k : Nat} {ps : List V} {zs : List Q2} {v : V}
theorem Mks.same (m : Mks C H k ps zs) (s : Same H H') : Mks C H' k ps zs := ⟨m.len, fun i v z h1 h2 => by
  obtain ⟨p, e, q⟩ := m.all i v z h1 h2
  exact ⟨p, e, q.same s⟩⟩
theorem Mks.kp {hd : Addr} {n : Nat} (m : Mks C H k ps zs) (hh : HandAt H hd n) (s : Kp hd H H') : Mks C H' k ps zs := ⟨m.len, fun i v z h1 h2 => by
  obtain ⟨p, e, q⟩ := m.all i v z h1 h2
  exact ⟨p, e, q.kp hh s⟩⟩
theorem Mks.at (m : Mks C H k ps zs) {i : Nat} {z : Q2} (h : zs[i]? = some z) : ∃ p, ps[i]? = some (.ref p) ∧ QAt C H p k z := by
  have hi : i < ps.length := by rw [m.len]; exact (List.getElem?_eq_some_iff.mp h).1
  obtain ⟨p, e, q⟩ := m.all i _ z (List.getElem?_eq_getElem hi) h
  exact ⟨p, by rw [List.getElem?_eq_getElem hi, e], q⟩
theorem Mks.of (m : Mks C H k ps zs) {i : Nat} {v : V} (h : ps[i]? = some v) : ∃ p z, v = .ref p ∧ zs[i]? = some z ∧ QAt C H p k z := by
  have hi : i < zs.length := by rw [← m.len]; exact (List.getElem?_eq_some_iff.mp h).1
  obtain ⟨p, e, q⟩ := m.all i v _ h (List.getElem?_eq_getElem hi)
  exact ⟨p, _, e, List.getElem?_eq_getElem hi, q⟩
/-- None, or a Measure -/
def QO (C : Addr) (H : Hp) (k : Nat) (v : V) : Option Q2 → Prop
  | none => v = .non
  | some z => ∃ p, v = .ref p ∧ QAt C H p k z
theorem QO.same : ∀ {e : Option Q2}, QO C H k v e → Same H H' → QO C H' k v e
  | none, h, _ => h
  | some _, ⟨p, h1, h2⟩, s => ⟨p, h1, h2.same s⟩
theorem QO.kp {hd : Addr} {n : Nat} : ∀ {e : Option Q2}, QO C H k v e → HandAt H hd n → Kp hd H H' → QO C H' k v e
  | none, h, _, _ => h
  | some _, ⟨p, h1, h2⟩, hh, s => ⟨p, h1, h2.kp hh s⟩
/-- the exact numbers of such a Measure -/
theorem QAt.low {p : Addr} {z : Q2} (q : QAt C H p k z) (l : k ≤ 4000) : ∃ a : Q2, MAt C H p a.1 a.2 ∧ Low a ∧ Re a z := by
  obtain ⟨⟨t, u, m, f⟩, h1, h2, h3⟩ := q
  exact ⟨(t, u), m, ⟨f.pos, f.co, (h2.le f.lt).mono l, (h3.le f.lu).mono l⟩, f.pos, h1, f.eq⟩
theorem QO.low (l : k ≤ 4000) : ∀ {e : Option Q2}, QO C H k v e → ∃ m, MsV C H v m ∧ LowO m ∧ ReO m e
  | none, h => ⟨none, h, trivial, trivial⟩
  | some _, ⟨p, h1, h2⟩ => by
    obtain ⟨a, ma, la, ra⟩ := h2.low l
    exact ⟨some a, ⟨p, h1, ma⟩, la, ra⟩
theorem QAt.of {p : Addr} {a z : Q2} (m : MAt C H p a.1 a.2) (l : Low a) (r : Re a z) (s1 : Sz k z.1) (s2 : Sz k z.2) : QAt C H p k z :=
  ⟨⟨a.1, a.2, m, fr_of l.pos l.co r.2.1 r.2.2⟩, r.2.1, s1, s2⟩
end
/-! ### a Ladder -/
def lf (T : V) (r : Str) (l h : V) : List (Str × V) := [("marks", T), ("rule", .str r), ("least", l), ("most", h)]
theorem lf_put (T : V) (r : Str) (l h : V) : putF "most" h (putF "least" l (putF "rule" (.str r) (putF "marks" T []))) = lf T r l h := by
  have e1 : putF ("rule" : Str) (.str r) (putF ("marks" : Str) T []) = ([("marks", T), ("rule", .str r)] : List (Str × V)) := by
    show (if ("marks" : Str) = "rule" then [(("marks" : Str), V.str r)] else (("marks" : Str), T) :: putF "rule" (.str r) []) = _
    rw [if_neg (by decide +kernel)] <;> rfl
  have e2 : putF ("least" : Str) l [("marks", T), ("rule", .str r)] = ([("marks", T), ("rule", .str r), ("least", l)] : List (Str × V)) := by
    show (if ("marks" : Str) = "least" then _ else (("marks" : Str), T) :: (if ("rule" : Str) = "least" then _ else (("rule" : Str), V.str r) :: putF "least" l [])) = _
    rw [if_neg (by decide +kernel), if_neg (by decide +kernel)] <;> rfl
  have e3 : putF ("most" : Str) h [("marks", T), ("rule", .str r), ("least", l)] = lf T r l h := by
    show (if ("marks" : Str) = "most" then _ else (("marks" : Str), T) :: (if ("rule" : Str) = "most" then _ else (("rule" : Str), V.str r) :: (if ("least" : Str) = "most" then _ else (("least" : Str), l) :: putF "most" h []))) = _
    rw [if_neg (by decide +kernel), if_neg (by decide +kernel), if_neg (by decide +kernel)] <;> rfl
  rw [e1, e2, e3]
section
variable (T : V) (r : Str) (l h : V)
theorem lf_marks : (lf T r l h).lookup ("marks" : Str) = some T := by
  rw [← lf_put, lookup_putF, if_neg (by decide +kernel), lookup_putF, if_neg (by decide +kernel), lookup_putF, if_neg (by decide +kernel), lookup_putF, if_pos rfl]
theorem lf_rule : (lf T r l h).lookup ("rule" : Str) = some (.str r) := by
  rw [← lf_put, lookup_putF, if_neg (by decide +kernel), lookup_putF, if_neg (by decide +kernel), lookup_putF, if_pos rfl]
theorem lf_least : (lf T r l h).lookup ("least" : Str) = some l := by
  rw [← lf_put, lookup_putF, if_neg (by decide +kernel), lookup_putF, if_pos rfl]
theorem lf_most : (lf T r l h).lookup ("most" : Str) = some h := by
  rw [← lf_put, lookup_putF, if_pos rfl]
theorem lf_no {m : Str} (h1 : ¬ m = "marks") (h2 : ¬ m = "rule") (h3 : ¬ m = "least") (h4 : ¬ m = "most") : (lf T r l h).lookup m = none := by
  rw [← lf_put, lookup_putF, if_neg h4, lookup_putF, if_neg h3, lookup_putF, if_neg h2, lookup_putF, if_neg h1] <;> rfl
end
/-- rows that rise -/
def RiseQ (zs : List Q2) : Prop := ∀ i a b, zs[i]? = some a → zs[i + 1]? = some b → ltq a b = true
/-- the first row that isn't above the one ahead -/
def SlipQ (zs : List Q2) : Option Nat → Prop
  | none => RiseQ zs
  | some n => 1 ≤ n ∧ n < zs.length ∧ (∀ a b, zs[n - 1]? = some a → zs[n]? = some b → ltq a b = false) ∧ ∀ i a b, i + 1 < n → zs[i]? = some a → zs[i + 1]? = some b → ltq a b = true
def optI : Option Nat → V
  | none => .non
  | some n => .int (n : Int)
def leq (a b : Q2) : Bool := ltq a b || eqq a b
/-- least isn't above most -/
def spanB : Option Q2 → Option Q2 → Bool
  | some a, some b => !ltq b a
  | _, _ => true
def IsRule (r : Str) : Prop := r = "up" ∨ r = "down" ∨ r = "near"
structure LadAt (K : PySem.W.Frag) (CM CL : Addr) (H : Hp) (p : Addr) (k : Nat) (zs : List Q2) (r : Str) (lo hi : Option Q2) : Prop where
  ob : ∃ dx T ps l h, H p = some (.ins CL dx (lf (.ref T) r l h)) ∧ SqT K H T ps ∧ Mks CM H k ps zs ∧ QO CM H k l lo ∧ QO CM H k h hi
  len0 : 0 < zs.length
  len1 : zs.length ≤ 24
  rise : RiseQ zs
  rule : IsRule r
  span : spanB lo hi = true
theorem LadAt.same {K : PySem.W.Frag} {CM CL p : Addr} {H H' : Hp} {k : Nat} {zs : List Q2} {r : Str} {lo hi : Option Q2} (a : LadAt K CM CL H p k zs r lo hi) (s : Same H H') : LadAt K CM CL H' p k zs r lo hi := by
  obtain ⟨⟨dx, T, ps, l, h, h1, h2, h3, h4, h5⟩, a1, a2, a3, a4, a5⟩ := a
  exact ⟨⟨dx, T, ps, l, h, s _ _ h1, s.sqt h2, h3.same s, h4.same s, h5.same s⟩, a1, a2, a3, a4, a5⟩
theorem LadAt.raw {K : PySem.W.Frag} {CM CL p : Addr} {H : Hp} {k : Nat} {zs : List Q2} {r : Str} {lo hi : Option Q2} (a : LadAt K CM CL H p k zs r lo hi) {m : Str} (h1 : ¬ m = "marks") (h2 : ¬ m = "rule") (h3 : ¬ m = "least") (h4 : ¬ m = "most") : ∃ dx fs, H p = some (.ins CL dx fs) ∧ fs.lookup m = none := by
  obtain ⟨⟨dx, T, ps, l, h, e1, _⟩, _⟩ := a
  exact ⟨dx, _, e1, lf_no _ _ _ _ h1 h2 h3 h4⟩
/-- the midsts of neighbours -/
def midq : List Q2 → List Q2
  | a :: b :: r => qhalf a b :: midq (b :: r)
  | _ => []
theorem atI_of {xs : List V} {z : Int} {n : Nat} {v : V} (e : z = (n : Int)) (h : xs[n]? = some v) : atI xs z = some v := by
  rw [e]; exact atI_nat h
theorem ge2 {n : Nat} {zs : List Q2} (h : n < zs.length) : ∃ a, zs[n]? = some a := ⟨_, List.getElem?_eq_getElem h⟩
/-- a constant of the module: a tuple of texts -/
def strsOf : List Value → Option (List Str)
  | [] => some []
  | .str x _ :: r => (strsOf r).map (x :: ·)
  | _ => none
theorem strsOf_ok : ∀ {l : List Value} {ss : List Str}, strsOf l = some ss → Vals (ss.map V.str) l
  | [], ss, h => by cases h; exact .nil
  | .str x t :: r, ss, h => by
    cases e : strsOf r with
    | none => simp [strsOf, e] at h
    | some l =>
      simp [strsOf, e] at h
      subst h
      exact .cons ⟨t, rfl⟩ (strsOf_ok e)
def tupB (x : Str) (ss : List Str) : PySem.W.Frag → Bool := fun K => match K.lookup (He.ga K x) with
  | some ⟨.type "tuple", _, .seq its _, _⟩ => decide (its.size ≤ sizeLine) && decide (strsOf its.toList = some ss)
  | _ => false
theorem tup_ok {x : Str} {ss : List Str} {K : PySem.W.Frag} (c : tupB x ss K = true) : ∀ H, SqT K H (He.ga K x) (ss.map V.str) := by
  intro H
  unfold tupB at c
  split at c
  · rename_i d its n sl e
    obtain ⟨c1, c2⟩ := He.ba c
    exact .inr ⟨_, its, n, e, rfl, rfl, of_decide_eq_true c1, strsOf_ok (of_decide_eq_true c2)⟩
  · cases c
theorem tyTup {K : PySem.W.Frag} {H : Hp} {T : Addr} {ps : List V} (h : SqT K H T ps) : TyX K H (.ref T) (.type "tuple") := by
  rcases h with (h | ⟨o, h⟩) | ⟨o, its, n, h, c, _⟩
  · exact .base (.tup h)
  · exact .fTuple h
  · exact .kTuple h c
/-! ### what the defs of ladders promise -/
def sp_slip (K : PySem.W.Frag) (CM : Addr) : Sp := fun vs H Q _ => ∃ (T : Addr) (k : Nat) (ps : List V) (zs : List Q2), vs = [.ref T] ∧ SqT K H T ps ∧ Mks CM H k ps zs ∧ k ≤ 9000 ∧ zs.length ≤ 1000 ∧ ∀ o, SlipQ zs o → Q (optI o) H
def sp_isendQ (CM : Addr) : Sp := fun vs H Q _ => ∃ (v : V) (k : Nat) (e : Option Q2), vs = [v] ∧ QO CM H k v e ∧ Q (.bl true) H
def sp_arem (K : PySem.W.Frag) (CM : Addr) : Sp := fun vs H Q _ => ∃ (T : Addr) (k : Nat) (ps : List V) (zs : List Q2), vs = [.ref T] ∧ SqT K H T ps ∧ Mks CM H k ps zs ∧ 0 < zs.length ∧ zs.length ≤ 24 ∧ ∀ H', Same H H' → Q (.bl true) H'
def sp_isrule : Sp := fun vs H Q _ => ∃ r : Str, vs = [.str r] ∧ IsRule r ∧ Q (.bl true) H
def sp_linit (K : PySem.W.Frag) (CM CL : Addr) : Sp := fun vs H Q _ => ∃ (p dx T : Addr) (k : Nat) (ps : List V) (zs : List Q2) (r : Str) (l h : V) (lo hi : Option Q2), vs = [.ref p, .ref T, .str r, l, h] ∧ H p = some (.ins CL dx []) ∧ SqT K H T ps ∧ Mks CM H k ps zs ∧ k ≤ 4000 ∧ 0 < zs.length ∧ zs.length ≤ 24 ∧ RiseQ zs ∧ IsRule r ∧
  QO CM H k l lo ∧ QO CM H k h hi ∧ spanB lo hi = true ∧ ∀ H', H' p = some (.ins CL dx (lf (.ref T) r l h)) → (∀ q o, H q = some o → q ≠ p → H' q = some o) → Q .non H'
/-- a Ladder is made -/
theorem lad_made {K : PySem.W.Frag} {CM CL T : Addr} {H : Hp} {Qa : Addr → Hp → Prop} {E : XK} {k : Nat} {ps : List V} {zs : List Q2} {r : Str} {l h : V} {lo hi : Option Q2} (hT : SqT K H T ps) (hm : Mks CM H k ps zs) (hk : k ≤ 4000) (l0 : 0 < zs.length) (l1 : zs.length ≤ 24) (ri : RiseQ zs) (ru : IsRule r)
    (q1 : QO CM H k l lo) (q2 : QO CM H k h hi) (sp : spanB lo hi = true) (f : ∀ (p : Addr) (H' : Hp), H p = none → Same H H' → LadAt K CM CL H' p k zs r lo hi → (∃ dx, H' p = some (.ins CL dx (lf (.ref T) r l h))) → Qa p H') :
    ∀ x dx, H x = none → H dx = none → dx ≠ x → sp_linit K CM CL [.ref x, .ref T, .str r, l, h] (upd (upd H dx (.own x)) x (.ins CL dx [])) (fun v H2 => v = .non ∧ Qa x H2) E := by
  intro x dx nx nd ne
  have s0 : Same H (upd (upd H dx (.own x)) x (.ins CL dx [])) := fun c o e => by
    rw [upd_ne (ne_of_none e nx)]
    exact up1 nd e
  refine ⟨x, dx, T, k, ps, zs, r, l, h, lo, hi, rfl, upd_same, s0.sqt hT, hm.same s0, hk, l0, l1, ri, ru, q1.same s0, q2.same s0, sp, fun H' hx kp => ⟨rfl, ?_⟩⟩
  have s1 : Same H H' := made_same nx nd kp
  exact f x H' nx s1 ⟨⟨dx, T, ps, l, h, hx, s1.sqt hT, hm.same s1, q1.same s1, q2.same s1⟩, l0, l1, ri, ru, sp⟩ ⟨dx, hx⟩
theorem iteDT {c A B : Prop} [Decidable c] (hc : c) (h : A) : if decide c = true then A else B := by
  rw [if_pos (decide_eq_true hc)]; exact h
theorem iteDF {c A B : Prop} [Decidable c] (hc : ¬ c) (h : B) : if decide c = true then A else B := by
  rw [if_neg (by simpa using hc)]; exact h
theorem iteNT {c A B : Prop} [Decidable c] (hc : ¬ c) (h : A) : if (!decide c) = true then A else B := by
  rw [if_pos (by simpa using hc)]; exact h
section
variable {C H p k} {m : Str} {R : Prop}
theorem meth_q {x : Q2} (q : QAt C H p k x) (h1 : ¬ m = "top") (h2 : ¬ m = "bottom") (h : R) : ∃ a dx fs, V.ref p = .ref a ∧ H a = some (.ins C dx fs) ∧ fs.lookup m = none ∧ R := by
  obtain ⟨dx, fs, e1, e2⟩ := q.raw h1 h2
  exact ⟨p, dx, fs, rfl, e1, e2, h⟩
theorem meth_l {K : PySem.W.Frag} {CM : Addr} {zs : List Q2} {r : Str} {lo hi : Option Q2} (q : LadAt K CM C H p k zs r lo hi) (h1 : ¬ m = "marks") (h2 : ¬ m = "rule") (h3 : ¬ m = "least") (h4 : ¬ m = "most") (h : R) : ∃ a dx fs, V.ref p = .ref a ∧ H a = some (.ins C dx fs) ∧ fs.lookup m = none ∧ R := by
  obtain ⟨dx, fs, e1, e2⟩ := q.raw h1 h2 h3 h4
  exact ⟨p, dx, fs, rfl, e1, e2, h⟩
theorem meth_s {CM : Addr} {lo hi : Option Q2} {li hj : Bool} (q : StAt CM C H p lo hi li hj) (h1 : ¬ m = "low") (h2 : ¬ m = "high") (h3 : ¬ m = "low_in") (h4 : ¬ m = "high_in") (h : R) : ∃ a dx fs, V.ref p = .ref a ∧ H a = some (.ins C dx fs) ∧ fs.lookup m = none ∧ R := by
  obtain ⟨dx, fs, e1, e2⟩ := q.raw h1 h2 h3 h4
  exact ⟨p, dx, fs, rfl, e1, e2, h⟩
end
end My
namespace K43
open PySem PySem.Spec PyProof.Rows L2 My
/-! ### the text by places -/
def topS (i : Nat) : Stmt := PySem.Challenge.pw_sizeladders_k43_fewest_sizes_walked.main.body.getD i (.Pass ⟨0, 0, 0, 0⟩)
abbrev s_is_whole : Stmt := (topS 8)
abbrev s_is_number : Stmt := (topS 9)
abbrev s_is_tuple_of : Stmt := (topS 10)
abbrev s_are_wholes : Stmt := (topS 11)
abbrev s_all_below : Stmt := (topS 12)
abbrev s_are_rising : Stmt := (topS 13)
abbrev s_is_word : Stmt := (topS 14)
abbrev s_common_part : Stmt := (topS 16)
abbrev s_Measure_init : Stmt := (inClass (topS 18) 0)
abbrev s_Measure_plus : Stmt := (inClass (topS 18) 4)
abbrev s_Measure_minus : Stmt := (inClass (topS 18) 5)
abbrev s_Measure_is_below : Stmt := (inClass (topS 18) 8)
abbrev s_is_measure_or_none : Stmt := (topS 19)
abbrev s_measure_or : Stmt := (topS 20)
abbrev s_fits : Stmt := (topS 22)
abbrev s_fitting_of : Stmt := (topS 23)
abbrev s_first_bare : Stmt := (topS 24)
abbrev s_fewest_of : Stmt := (topS 25)
abbrev s_stock_for : Stmt := (topS 26)
abbrev s_slip_of : Stmt := (topS 28)
abbrev s_are_marks : Stmt := (topS 32)
abbrev s_is_rule : Stmt := (topS 33)
abbrev s_is_span : Stmt := (topS 34)
abbrev s_Ladder_init : Stmt := (inClass (topS 38) 0)
abbrev s_Ladder_len : Stmt := (inClass (topS 38) 4)
abbrev s_shares : Stmt := (topS 40)
abbrev s_are_sizes : Stmt := (topS 41)
abbrev s_are_apart : Stmt := (topS 42)
abbrev s_shows_stock : Stmt := (topS 43)
abbrev s_l_hand : Stmt := (topS 45)
abbrev s_l_take : Stmt := (topS 46)
abbrev s_l_pick : Stmt := (topS 47)
abbrev s_l_plain : Stmt := (topS 48)
abbrev s_l_sum : Stmt := (topS 49)
abbrev s_l_less : Stmt := (topS 50)
abbrev s_l_measures : Stmt := (topS 51)
abbrev s_l_part : Stmt := (topS 52)
abbrev s_l_marks : Stmt := (topS 53)
abbrev s_l_any_ladder : Stmt := (topS 54)
abbrev s_l_width : Stmt := (topS 55)
abbrev s_l_foot : Stmt := (topS 56)
abbrev s_l_fits : Stmt := (topS 57)
abbrev s_l_same : Stmt := (topS 58)
abbrev s_l_runs : Stmt := (topS 59)
abbrev s_l_stock : Stmt := (topS 60)
abbrev s_l_are_rising : Stmt := (topS 61)
abbrev s_l_is_stock : Stmt := (topS 62)
abbrev s_l_feet : Stmt := (topS 63)
abbrev s_l_right : Stmt := (topS 64)
abbrev s_law : Stmt := (topS 65)
abbrev N_is_whole : List Str := ["thing"]
abbrev p_is_whole : List Str := ["thing"]
theorem sc_is_whole : FnScope N_is_whole p_is_whole (defScope s_is_whole) := ⟨rfl, rfl, rfl, by decide +kernel, rfl, by decide +kernel, by decide +kernel⟩
abbrev N_is_number : List Str := ["thing", "number"]
abbrev p_is_number : List Str := ["thing", "number"]
theorem sc_is_number : FnScope N_is_number p_is_number (defScope s_is_number) := ⟨rfl, rfl, rfl, by decide +kernel, rfl, by decide +kernel, by decide +kernel⟩
abbrev N_is_tuple_of : List Str := ["thing", "many"]
abbrev p_is_tuple_of : List Str := ["thing", "many"]
theorem sc_is_tuple_of : FnScope N_is_tuple_of p_is_tuple_of (defScope s_is_tuple_of) := ⟨rfl, rfl, rfl, by decide +kernel, rfl, by decide +kernel, by decide +kernel⟩
abbrev N_are_wholes : List Str := ["thing", "part"]
abbrev p_are_wholes : List Str := ["thing"]
theorem sc_are_wholes : FnScope N_are_wholes p_are_wholes (defScope s_are_wholes) := ⟨rfl, rfl, rfl, by decide +kernel, rfl, by decide +kernel, by decide +kernel⟩
abbrev N_all_below : List Str := ["numbers", "many", "number"]
abbrev p_all_below : List Str := ["numbers", "many"]
theorem sc_all_below : FnScope N_all_below p_all_below (defScope s_all_below) := ⟨rfl, rfl, rfl, by decide +kernel, rfl, by decide +kernel, by decide +kernel⟩
abbrev N_are_rising : List Str := ["thing", "many", "at"]
abbrev p_are_rising : List Str := ["thing", "many"]
theorem sc_are_rising : FnScope N_are_rising p_are_rising (defScope s_are_rising) := ⟨rfl, rfl, rfl, by decide +kernel, rfl, by decide +kernel, by decide +kernel⟩
abbrev N_is_word : List Str := ["thing", "word"]
abbrev p_is_word : List Str := ["thing", "word"]
theorem sc_is_word : FnScope N_is_word p_is_word (defScope s_is_word) := ⟨rfl, rfl, rfl, by decide +kernel, rfl, by decide +kernel, by decide +kernel⟩
abbrev N_common_part : List Str := ["one", "other", "great", "small"]
abbrev p_common_part : List Str := ["one", "other"]
theorem sc_common_part : FnScope N_common_part p_common_part (defScope s_common_part) := ⟨rfl, rfl, rfl, by decide +kernel, rfl, by decide +kernel, by decide +kernel⟩
abbrev N_Measure_init : List Str := ["self", "top", "bottom", "common"]
abbrev p_Measure_init : List Str := ["self", "top", "bottom"]
theorem sc_Measure_init : FnScope N_Measure_init p_Measure_init (defScope s_Measure_init) := ⟨rfl, rfl, rfl, by decide +kernel, rfl, by decide +kernel, by decide +kernel⟩
abbrev N_Measure_plus : List Str := ["self", "other"]
abbrev p_Measure_plus : List Str := ["self", "other"]
theorem sc_Measure_plus : FnScope N_Measure_plus p_Measure_plus (defScope s_Measure_plus) := ⟨rfl, rfl, rfl, by decide +kernel, rfl, by decide +kernel, by decide +kernel⟩
abbrev N_Measure_minus : List Str := ["self", "other"]
abbrev p_Measure_minus : List Str := ["self", "other"]
theorem sc_Measure_minus : FnScope N_Measure_minus p_Measure_minus (defScope s_Measure_minus) := ⟨rfl, rfl, rfl, by decide +kernel, rfl, by decide +kernel, by decide +kernel⟩
abbrev N_Measure_is_below : List Str := ["self", "other", "alike", "here", "there"]
abbrev p_Measure_is_below : List Str := ["self", "other", "alike"]
theorem sc_Measure_is_below : FnScope N_Measure_is_below p_Measure_is_below (defScope s_Measure_is_below) := ⟨rfl, rfl, rfl, by decide +kernel, rfl, by decide +kernel, by decide +kernel⟩
abbrev N_is_measure_or_none : List Str := ["thing"]
abbrev p_is_measure_or_none : List Str := ["thing"]
theorem sc_is_measure_or_none : FnScope N_is_measure_or_none p_is_measure_or_none (defScope s_is_measure_or_none) := ⟨rfl, rfl, rfl, by decide +kernel, rfl, by decide +kernel, by decide +kernel⟩
abbrev N_measure_or : List Str := ["thing", "number"]
abbrev p_measure_or : List Str := ["thing", "number"]
theorem sc_measure_or : FnScope N_measure_or p_measure_or (defScope s_measure_or) := ⟨rfl, rfl, rfl, by decide +kernel, rfl, by decide +kernel, by decide +kernel⟩
abbrev N_fits : List Str := ["ladder", "foot", "slack", "tight", "least", "most", "number", "mark"]
abbrev p_fits : List Str := ["ladder", "foot", "slack", "tight"]
theorem sc_fits : FnScope N_fits p_fits (defScope s_fits) := ⟨rfl, rfl, rfl, by decide +kernel, rfl, by decide +kernel, by decide +kernel⟩
abbrev N_fitting_of : List Str := ["ladder", "feet", "slack", "tight", "foot"]
abbrev p_fitting_of : List Str := ["ladder", "feet", "slack", "tight"]
theorem sc_fitting_of : FnScope N_fitting_of p_fitting_of (defScope s_fitting_of) := ⟨rfl, rfl, rfl, by decide +kernel, rfl, by decide +kernel, by decide +kernel⟩
abbrev N_first_bare : List Str := ["fitting", "number", "sizes"]
abbrev p_first_bare : List Str := ["fitting"]
theorem sc_first_bare : FnScope N_first_bare p_first_bare (defScope s_first_bare) := ⟨rfl, rfl, rfl, by decide +kernel, rfl, by decide +kernel, by decide +kernel⟩
abbrev N_fewest_of : List Str := ["fitting", "sizes", "apart", "last", "number", "run"]
abbrev p_fewest_of : List Str := ["fitting"]
theorem sc_fewest_of : FnScope N_fewest_of p_fewest_of (defScope s_fewest_of) := ⟨rfl, rfl, rfl, by decide +kernel, rfl, by decide +kernel, by decide +kernel⟩
abbrev N_stock_for : List Str := ["ladder", "feet", "slack", "tight", "fitting", "bare", "sizes", "apart"]
abbrev p_stock_for : List Str := ["ladder", "feet", "slack", "tight"]
theorem sc_stock_for : FnScope N_stock_for p_stock_for (defScope s_stock_for) := ⟨rfl, rfl, rfl, by decide +kernel, rfl, by decide +kernel, by decide +kernel⟩
abbrev N_slip_of : List Str := ["rows", "number"]
abbrev p_slip_of : List Str := ["rows"]
theorem sc_slip_of : FnScope N_slip_of p_slip_of (defScope s_slip_of) := ⟨rfl, rfl, rfl, by decide +kernel, rfl, by decide +kernel, by decide +kernel⟩
abbrev N_are_marks : List Str := ["thing", "mark"]
abbrev p_are_marks : List Str := ["thing"]
theorem sc_are_marks : FnScope N_are_marks p_are_marks (defScope s_are_marks) := ⟨rfl, rfl, rfl, by decide +kernel, rfl, by decide +kernel, by decide +kernel⟩
abbrev N_is_rule : List Str := ["thing"]
abbrev p_is_rule : List Str := ["thing"]
theorem sc_is_rule : FnScope N_is_rule p_is_rule (defScope s_is_rule) := ⟨rfl, rfl, rfl, by decide +kernel, rfl, by decide +kernel, by decide +kernel⟩
abbrev N_is_span : List Str := ["least", "most"]
abbrev p_is_span : List Str := ["least", "most"]
theorem sc_is_span : FnScope N_is_span p_is_span (defScope s_is_span) := ⟨rfl, rfl, rfl, by decide +kernel, rfl, by decide +kernel, by decide +kernel⟩
abbrev N_Ladder_init : List Str := ["self", "marks", "rule", "least", "most", "slip"]
abbrev p_Ladder_init : List Str := ["self", "marks", "rule", "least", "most"]
theorem sc_Ladder_init : FnScope N_Ladder_init p_Ladder_init (defScope s_Ladder_init) := ⟨rfl, rfl, rfl, by decide +kernel, rfl, by decide +kernel, by decide +kernel⟩
abbrev N_Ladder_len : List Str := ["self"]
abbrev p_Ladder_len : List Str := ["self"]
theorem sc_Ladder_len : FnScope N_Ladder_len p_Ladder_len (defScope s_Ladder_len) := ⟨rfl, rfl, rfl, by decide +kernel, rfl, by decide +kernel, by decide +kernel⟩
abbrev N_shares : List Str := ["one", "other", "size"]
abbrev p_shares : List Str := ["one", "other"]
theorem sc_shares : FnScope N_shares p_shares (defScope s_shares) := ⟨rfl, rfl, rfl, by decide +kernel, rfl, by decide +kernel, by decide +kernel⟩
abbrev N_are_sizes : List Str := ["thing", "ladder", "fitting", "run"]
abbrev p_are_sizes : List Str := ["thing", "ladder", "fitting"]
theorem sc_are_sizes : FnScope N_are_sizes p_are_sizes (defScope s_are_sizes) := ⟨rfl, rfl, rfl, by decide +kernel, rfl, by decide +kernel, by decide +kernel⟩
abbrev N_are_apart : List Str := ["thing", "fitting", "one", "other"]
abbrev p_are_apart : List Str := ["thing", "fitting"]
theorem sc_are_apart : FnScope N_are_apart p_are_apart (defScope s_are_apart) := ⟨rfl, rfl, rfl, by decide +kernel, rfl, by decide +kernel, by decide +kernel⟩
abbrev N_shows_stock : List Str := ["ladder", "feet", "slack", "tight", "thing", "fitting", "bare", "word", "sizes", "apart"]
abbrev p_shows_stock : List Str := ["ladder", "feet", "slack", "tight", "thing"]
theorem sc_shows_stock : FnScope N_shows_stock p_shows_stock (defScope s_shows_stock) := ⟨rfl, rfl, rfl, by decide +kernel, rfl, by decide +kernel, by decide +kernel⟩
abbrev N_l_hand : List Str := ["_law_script", "_law_k", "_law_cell", "_law_own"]
abbrev p_l_hand : List Str := ["_law_script", "_law_k"]
theorem sc_l_hand : FnScope N_l_hand p_l_hand (defScope s_l_hand) := ⟨rfl, rfl, rfl, by decide +kernel, rfl, by decide +kernel, by decide +kernel⟩
abbrev N_l_take : List Str := ["_law_hand_here", "_law_many", "_law_digit", "_law_mixed"]
abbrev p_l_take : List Str := ["_law_hand_here", "_law_many"]
theorem sc_l_take : FnScope N_l_take p_l_take (defScope s_l_take) := ⟨rfl, rfl, rfl, by decide +kernel, rfl, by decide +kernel, by decide +kernel⟩
abbrev N_l_pick : List Str := ["_law_hand_here", "_law_some"]
abbrev p_l_pick : List Str := ["_law_hand_here", "_law_some"]
theorem sc_l_pick : FnScope N_l_pick p_l_pick (defScope s_l_pick) := ⟨rfl, rfl, rfl, by decide +kernel, rfl, by decide +kernel, by decide +kernel⟩
abbrev N_l_plain : List Str := ["_law_top", "_law_bottom", "_law_one", "_law_other"]
abbrev p_l_plain : List Str := ["_law_top", "_law_bottom"]
theorem sc_l_plain : FnScope N_l_plain p_l_plain (defScope s_l_plain) := ⟨rfl, rfl, rfl, by decide +kernel, rfl, by decide +kernel, by decide +kernel⟩
abbrev N_l_sum : List Str := ["_law_a", "_law_b"]
abbrev p_l_sum : List Str := ["_law_a", "_law_b"]
theorem sc_l_sum : FnScope N_l_sum p_l_sum (defScope s_l_sum) := ⟨rfl, rfl, rfl, by decide +kernel, rfl, by decide +kernel, by decide +kernel⟩
abbrev N_l_less : List Str := ["_law_a", "_law_b"]
abbrev p_l_less : List Str := ["_law_a", "_law_b"]
theorem sc_l_less : FnScope N_l_less p_l_less (defScope s_l_less) := ⟨rfl, rfl, rfl, by decide +kernel, rfl, by decide +kernel, by decide +kernel⟩
abbrev N_l_measures : List Str := ["_law_some", "_law_top", "_law_bottom"]
abbrev p_l_measures : List Str := ["_law_some"]
theorem sc_l_measures : FnScope N_l_measures p_l_measures (defScope s_l_measures) := ⟨rfl, rfl, rfl, by decide +kernel, rfl, by decide +kernel, by decide +kernel⟩
abbrev N_l_part : List Str := ["_law_hand_here"]
abbrev p_l_part : List Str := ["_law_hand_here"]
theorem sc_l_part : FnScope N_l_part p_l_part (defScope s_l_part) := ⟨rfl, rfl, rfl, by decide +kernel, rfl, by decide +kernel, by decide +kernel⟩
abbrev N_l_marks : List Str := ["_law_hand_here", "_law_most", "_law_alike", "_law_many", "_law_step", "_law_found", "_law_k"]
abbrev p_l_marks : List Str := ["_law_hand_here", "_law_most"]
theorem sc_l_marks : FnScope N_l_marks p_l_marks (defScope s_l_marks) := ⟨rfl, rfl, rfl, by decide +kernel, rfl, by decide +kernel, by decide +kernel⟩
abbrev N_l_any_ladder : List Str := ["_law_hand_here", "_law_marks_here", "_law_word", "_law_low", "_law_high", "_law_ends", "_law_one"]
abbrev p_l_any_ladder : List Str := ["_law_hand_here", "_law_marks_here"]
theorem sc_l_any_ladder : FnScope N_l_any_ladder p_l_any_ladder (defScope s_l_any_ladder) := ⟨rfl, rfl, rfl, by decide +kernel, rfl, by decide +kernel, by decide +kernel⟩
abbrev N_l_width : List Str := ["_law_hand_here", "_law_marks_here", "_law_gap", "_law_bare", "_law_top", "_law_bottom"]
abbrev p_l_width : List Str := ["_law_hand_here", "_law_marks_here"]
theorem sc_l_width : FnScope N_l_width p_l_width (defScope s_l_width) := ⟨rfl, rfl, rfl, by decide +kernel, rfl, by decide +kernel, by decide +kernel⟩
abbrev N_l_foot : List Str := ["_law_hand_here", "_law_marks_here", "_law_loose", "_law_close", "_law_mark", "_law_side", "_law_some"]
abbrev p_l_foot : List Str := ["_law_hand_here", "_law_marks_here", "_law_loose", "_law_close"]
theorem sc_l_foot : FnScope N_l_foot p_l_foot (defScope s_l_foot) := ⟨rfl, rfl, rfl, by decide +kernel, rfl, by decide +kernel, by decide +kernel⟩
abbrev N_l_fits : List Str := ["_law_marks_here", "_law_here", "_law_loose", "_law_close", "_law_low", "_law_high", "_law_k", "_law_mark"]
abbrev p_l_fits : List Str := ["_law_marks_here", "_law_here", "_law_loose", "_law_close"]
theorem sc_l_fits : FnScope N_l_fits p_l_fits (defScope s_l_fits) := ⟨rfl, rfl, rfl, by decide +kernel, rfl, by decide +kernel, by decide +kernel⟩
abbrev N_l_same : List Str := ["_law_found", "_law_due", "_law_one", "_law_other"]
abbrev p_l_same : List Str := ["_law_found", "_law_due"]
theorem sc_l_same : FnScope N_l_same p_l_same (defScope s_l_same) := ⟨rfl, rfl, rfl, by decide +kernel, rfl, by decide +kernel, by decide +kernel⟩
abbrev N_l_runs : List Str := ["_law_marks_here", "_law_feet_here", "_law_loose", "_law_close", "_law_here"]
abbrev p_l_runs : List Str := ["_law_marks_here", "_law_feet_here", "_law_loose", "_law_close"]
theorem sc_l_runs : FnScope N_l_runs p_l_runs (defScope s_l_runs) := ⟨rfl, rfl, rfl, by decide +kernel, rfl, by decide +kernel, by decide +kernel⟩
abbrev N_l_stock : List Str := ["_law_runs_here", "_law_left", "_law_sizes", "_law_apart", "_law_size", "_law_number", "_law_k"]
abbrev p_l_stock : List Str := ["_law_runs_here"]
theorem sc_l_stock : FnScope N_l_stock p_l_stock (defScope s_l_stock) := ⟨rfl, rfl, rfl, by decide +kernel, rfl, by decide +kernel, by decide +kernel⟩
abbrev N_l_are_rising : List Str := ["_law_thing", "_law_bound", "_law_one", "_law_other"]
abbrev p_l_are_rising : List Str := ["_law_thing", "_law_bound"]
theorem sc_l_are_rising : FnScope N_l_are_rising p_l_are_rising (defScope s_l_are_rising) := ⟨rfl, rfl, rfl, by decide +kernel, rfl, by decide +kernel, by decide +kernel⟩
abbrev N_l_is_stock : List Str := ["_law_thing", "_law_runs_here", "_law_many", "_law_sizes", "_law_apart", "_law_one", "_law_other", "_law_run", "_law_size"]
abbrev p_l_is_stock : List Str := ["_law_thing", "_law_runs_here", "_law_many"]
theorem sc_l_is_stock : FnScope N_l_is_stock p_l_is_stock (defScope s_l_is_stock) := ⟨rfl, rfl, rfl, by decide +kernel, rfl, by decide +kernel, by decide +kernel⟩
abbrev N_l_feet : List Str := ["_law_hand_here", "_law_marks_here", "_law_loose", "_law_close", "_law_most", "_law_found", "_law_turn", "_law_again", "_law_here"]
abbrev p_l_feet : List Str := ["_law_hand_here", "_law_marks_here", "_law_loose", "_law_close", "_law_most"]
theorem sc_l_feet : FnScope N_l_feet p_l_feet (defScope s_l_feet) := ⟨rfl, rfl, rfl, by decide +kernel, rfl, by decide +kernel, by decide +kernel⟩
abbrev N_l_right : List Str := ["_law_chart", "_law_marks_here", "_law_feet_here", "_law_loose", "_law_close", "_law_told", "_law_runs_here", "_law_near"]
abbrev p_l_right : List Str := ["_law_chart", "_law_marks_here", "_law_feet_here", "_law_loose", "_law_close", "_law_told"]
theorem sc_l_right : FnScope N_l_right p_l_right (defScope s_l_right) := ⟨rfl, rfl, rfl, by decide +kernel, rfl, by decide +kernel, by decide +kernel⟩
abbrev N_law : List Str := ["_law_script", "_law_k", "_law_hand_here", "_law_marks_here", "_law_chart", "_law_loose", "_law_close", "_law_feet_here", "_law_at", "_law_by", "_law_near", "_law_told", "_law_one"]
abbrev p_law : List Str := ["_law_script"]
theorem sc_law : FnScope N_law p_law (defScope s_law) := ⟨rfl, rfl, rfl, by decide +kernel, rfl, by decide +kernel, by decide +kernel⟩
/-! ### what the top has written -/
structure Fds where
  is_whole : FuncData
  is_number : FuncData
  is_tuple_of : FuncData
  are_wholes : FuncData
  all_below : FuncData
  are_rising : FuncData
  is_word : FuncData
  common_part : FuncData
  Measure_init : FuncData
  Measure_plus : FuncData
  Measure_minus : FuncData
  Measure_is_below : FuncData
  is_measure_or_none : FuncData
  measure_or : FuncData
  fits : FuncData
  fitting_of : FuncData
  first_bare : FuncData
  fewest_of : FuncData
  stock_for : FuncData
  slip_of : FuncData
  are_marks : FuncData
  is_rule : FuncData
  is_span : FuncData
  Ladder_init : FuncData
  Ladder_len : FuncData
  shares : FuncData
  are_sizes : FuncData
  are_apart : FuncData
  shows_stock : FuncData
  l_hand : FuncData
  l_take : FuncData
  l_pick : FuncData
  l_plain : FuncData
  l_sum : FuncData
  l_less : FuncData
  l_measures : FuncData
  l_part : FuncData
  l_marks : FuncData
  l_any_ladder : FuncData
  l_width : FuncData
  l_foot : FuncData
  l_fits : FuncData
  l_same : FuncData
  l_runs : FuncData
  l_stock : FuncData
  l_are_rising : FuncData
  l_is_stock : FuncData
  l_feet : FuncData
  l_right : FuncData
  law : FuncData
structure Txt (K : PySem.W.Frag) (mg : Str → Option Value) (φ : Fds) : Prop where
  g_is_whole : mg "is_whole" = some (.ref (He.ga K "is_whole"))
  g_is_number : mg "is_number" = some (.ref (He.ga K "is_number"))
  g_is_tuple_of : mg "is_tuple_of" = some (.ref (He.ga K "is_tuple_of"))
  g_are_wholes : mg "are_wholes" = some (.ref (He.ga K "are_wholes"))
  g_all_below : mg "all_below" = some (.ref (He.ga K "all_below"))
  g_are_rising : mg "are_rising" = some (.ref (He.ga K "are_rising"))
  g_is_word : mg "is_word" = some (.ref (He.ga K "is_word"))
  g_common_part : mg "common_part" = some (.ref (He.ga K "common_part"))
  g_is_measure_or_none : mg "is_measure_or_none" = some (.ref (He.ga K "is_measure_or_none"))
  g_measure_or : mg "measure_or" = some (.ref (He.ga K "measure_or"))
  g_fits : mg "fits" = some (.ref (He.ga K "fits"))
  g_fitting_of : mg "fitting_of" = some (.ref (He.ga K "fitting_of"))
  g_first_bare : mg "first_bare" = some (.ref (He.ga K "first_bare"))
  g_fewest_of : mg "fewest_of" = some (.ref (He.ga K "fewest_of"))
  g_stock_for : mg "stock_for" = some (.ref (He.ga K "stock_for"))
  g_slip_of : mg "slip_of" = some (.ref (He.ga K "slip_of"))
  g_are_marks : mg "are_marks" = some (.ref (He.ga K "are_marks"))
  g_is_rule : mg "is_rule" = some (.ref (He.ga K "is_rule"))
  g_is_span : mg "is_span" = some (.ref (He.ga K "is_span"))
  g_shares : mg "shares" = some (.ref (He.ga K "shares"))
  g_are_sizes : mg "are_sizes" = some (.ref (He.ga K "are_sizes"))
  g_are_apart : mg "are_apart" = some (.ref (He.ga K "are_apart"))
  g_shows_stock : mg "shows_stock" = some (.ref (He.ga K "shows_stock"))
  g_l_hand : mg "_law_hand" = some (.ref (He.ga K "_law_hand"))
  g_l_take : mg "_law_take" = some (.ref (He.ga K "_law_take"))
  g_l_pick : mg "_law_pick" = some (.ref (He.ga K "_law_pick"))
  g_l_plain : mg "_law_plain" = some (.ref (He.ga K "_law_plain"))
  g_l_sum : mg "_law_sum" = some (.ref (He.ga K "_law_sum"))
  g_l_less : mg "_law_less" = some (.ref (He.ga K "_law_less"))
  g_l_measures : mg "_law_measures" = some (.ref (He.ga K "_law_measures"))
  g_l_part : mg "_law_part" = some (.ref (He.ga K "_law_part"))
  g_l_marks : mg "_law_marks" = some (.ref (He.ga K "_law_marks"))
  g_l_any_ladder : mg "_law_any_ladder" = some (.ref (He.ga K "_law_any_ladder"))
  g_l_width : mg "_law_width" = some (.ref (He.ga K "_law_width"))
  g_l_foot : mg "_law_foot" = some (.ref (He.ga K "_law_foot"))
  g_l_fits : mg "_law_fits" = some (.ref (He.ga K "_law_fits"))
  g_l_same : mg "_law_same" = some (.ref (He.ga K "_law_same"))
  g_l_runs : mg "_law_runs" = some (.ref (He.ga K "_law_runs"))
  g_l_stock : mg "_law_stock" = some (.ref (He.ga K "_law_stock"))
  g_l_are_rising : mg "_law_are_rising" = some (.ref (He.ga K "_law_are_rising"))
  g_l_is_stock : mg "_law_is_stock" = some (.ref (He.ga K "_law_is_stock"))
  g_l_feet : mg "_law_feet" = some (.ref (He.ga K "_law_feet"))
  g_l_right : mg "_law_right" = some (.ref (He.ga K "_law_right"))
  g_law : mg "law" = some (.ref (He.ga K "law"))
  g_Measure : mg "Measure" = some (.ref (He.ga K "Measure"))
  g_Ladder : mg "Ladder" = some (.ref (He.ga K "Ladder"))
  g_RULES : mg "RULES" = some (.ref (He.ga K "RULES"))
  v_MOST_MARKS : ∃ t, mg "MOST_MARKS" = some (.int 24 t)
  z_abs : mg "abs" = none
  z_all : mg "all" = none
  z_any : mg "any" = none
  z_bool : mg "bool" = none
  z_enumerate : mg "enumerate" = none
  z_int : mg "int" = none
  z_isinstance : mg "isinstance" = none
  z_len : mg "len" = none
  z_list : mg "list" = none
  z_max : mg "max" = none
  z_min : mg "min" = none
  z_range : mg "range" = none
  z_sorted : mg "sorted" = none
  z_str : mg "str" = none
  z_tuple : mg "tuple" = none
  z_zip : mg "zip" = none
  cl_Measure : Cls K (He.ga K "Measure")
  na_Measure_top : NoAttr K (He.ga K "Measure") "top"
  na_Measure_bottom : NoAttr K (He.ga K "Measure") "bottom"
  me_Measure_plus : Meth K (He.ga K "Measure") "plus" (He.ma K (He.ga K "Measure") "plus")
  me_Measure_minus : Meth K (He.ga K "Measure") "minus" (He.ma K (He.ga K "Measure") "minus")
  me_Measure_is_below : Meth K (He.ga K "Measure") "is_below" (He.ma K (He.ga K "Measure") "is_below")
  mk_Measure : Mk K (He.ga K "Measure") (He.ma K (He.ga K "Measure") "__init__")
  cl_Ladder : Cls K (He.ga K "Ladder")
  na_Ladder_marks : NoAttr K (He.ga K "Ladder") "marks"
  na_Ladder_rule : NoAttr K (He.ga K "Ladder") "rule"
  na_Ladder_least : NoAttr K (He.ga K "Ladder") "least"
  na_Ladder_most : NoAttr K (He.ga K "Ladder") "most"
  me_Ladder_len : Meth K (He.ga K "Ladder") "__len__" (He.ma K (He.ga K "Ladder") "__len__")
  mk_Ladder : Mk K (He.ga K "Ladder") (He.ma K (He.ga K "Ladder") "__init__")
  ii_Measure : IsC K (He.ga K "Measure")
  tp_RULES : ∀ H, SqT K H (He.ga K "RULES") ((["up", "down", "near"] : List Str).map V.str)
  k_Measure_Measure : PySem.W.kitOne K (.ref (He.ga K "Measure")) (.ref (He.ga K "Measure")) = some true
  f_is_whole : FunD K "is_whole" "is_whole" (defArgs s_is_whole) (defBody s_is_whole) (defScope s_is_whole) [] [] (He.fAd K ("is_whole", none)) φ.is_whole
  f_is_number : FunD K "is_number" "is_number" (defArgs s_is_number) (defBody s_is_number) (defScope s_is_number) [] [] (He.fAd K ("is_number", none)) φ.is_number
  f_is_tuple_of : FunD K "is_tuple_of" "is_tuple_of" (defArgs s_is_tuple_of) (defBody s_is_tuple_of) (defScope s_is_tuple_of) [] [] (He.fAd K ("is_tuple_of", none)) φ.is_tuple_of
  f_are_wholes : FunD K "are_wholes" "are_wholes" (defArgs s_are_wholes) (defBody s_are_wholes) (defScope s_are_wholes) [] [] (He.fAd K ("are_wholes", none)) φ.are_wholes
  f_all_below : FunD K "all_below" "all_below" (defArgs s_all_below) (defBody s_all_below) (defScope s_all_below) [] [] (He.fAd K ("all_below", none)) φ.all_below
  f_are_rising : FunD K "are_rising" "are_rising" (defArgs s_are_rising) (defBody s_are_rising) (defScope s_are_rising) [] [] (He.fAd K ("are_rising", none)) φ.are_rising
  f_is_word : FunD K "is_word" "is_word" (defArgs s_is_word) (defBody s_is_word) (defScope s_is_word) [] [] (He.fAd K ("is_word", none)) φ.is_word
  f_common_part : FunD K "common_part" "common_part" (defArgs s_common_part) (defBody s_common_part) (defScope s_common_part) [] [] (He.fAd K ("common_part", none)) φ.common_part
  f_Measure_init : FunD K "__init__" "Measure.__init__" (defArgs s_Measure_init) (defBody s_Measure_init) (defScope s_Measure_init) [V.int 1] [] (He.fAd K ("Measure", some "__init__")) φ.Measure_init
  f_Measure_plus : FunD K "plus" "Measure.plus" (defArgs s_Measure_plus) (defBody s_Measure_plus) (defScope s_Measure_plus) [] [] (He.fAd K ("Measure", some "plus")) φ.Measure_plus
  f_Measure_minus : FunD K "minus" "Measure.minus" (defArgs s_Measure_minus) (defBody s_Measure_minus) (defScope s_Measure_minus) [] [] (He.fAd K ("Measure", some "minus")) φ.Measure_minus
  f_Measure_is_below : FunD K "is_below" "Measure.is_below" (defArgs s_Measure_is_below) (defBody s_Measure_is_below) (defScope s_Measure_is_below) [V.bl false] [] (He.fAd K ("Measure", some "is_below")) φ.Measure_is_below
  f_is_measure_or_none : FunD K "is_measure_or_none" "is_measure_or_none" (defArgs s_is_measure_or_none) (defBody s_is_measure_or_none) (defScope s_is_measure_or_none) [] [] (He.fAd K ("is_measure_or_none", none)) φ.is_measure_or_none
  f_measure_or : FunD K "measure_or" "measure_or" (defArgs s_measure_or) (defBody s_measure_or) (defScope s_measure_or) [] [] (He.fAd K ("measure_or", none)) φ.measure_or
  f_fits : FunD K "fits" "fits" (defArgs s_fits) (defBody s_fits) (defScope s_fits) [V.non] [] (He.fAd K ("fits", none)) φ.fits
  f_fitting_of : FunD K "fitting_of" "fitting_of" (defArgs s_fitting_of) (defBody s_fitting_of) (defScope s_fitting_of) [] [] (He.fAd K ("fitting_of", none)) φ.fitting_of
  f_first_bare : FunD K "first_bare" "first_bare" (defArgs s_first_bare) (defBody s_first_bare) (defScope s_first_bare) [] [] (He.fAd K ("first_bare", none)) φ.first_bare
  f_fewest_of : FunD K "fewest_of" "fewest_of" (defArgs s_fewest_of) (defBody s_fewest_of) (defScope s_fewest_of) [] [] (He.fAd K ("fewest_of", none)) φ.fewest_of
  f_stock_for : FunD K "stock_for" "stock_for" (defArgs s_stock_for) (defBody s_stock_for) (defScope s_stock_for) [V.non] [] (He.fAd K ("stock_for", none)) φ.stock_for
  f_slip_of : FunD K "slip_of" "slip_of" (defArgs s_slip_of) (defBody s_slip_of) (defScope s_slip_of) [] [] (He.fAd K ("slip_of", none)) φ.slip_of
  f_are_marks : FunD K "are_marks" "are_marks" (defArgs s_are_marks) (defBody s_are_marks) (defScope s_are_marks) [] [] (He.fAd K ("are_marks", none)) φ.are_marks
  f_is_rule : FunD K "is_rule" "is_rule" (defArgs s_is_rule) (defBody s_is_rule) (defScope s_is_rule) [] [] (He.fAd K ("is_rule", none)) φ.is_rule
  f_is_span : FunD K "is_span" "is_span" (defArgs s_is_span) (defBody s_is_span) (defScope s_is_span) [] [] (He.fAd K ("is_span", none)) φ.is_span
  f_Ladder_init : FunD K "__init__" "Ladder.__init__" (defArgs s_Ladder_init) (defBody s_Ladder_init) (defScope s_Ladder_init) [V.str "up", V.non, V.non] [] (He.fAd K ("Ladder", some "__init__")) φ.Ladder_init
  f_Ladder_len : FunD K "__len__" "Ladder.__len__" (defArgs s_Ladder_len) (defBody s_Ladder_len) (defScope s_Ladder_len) [] [] (He.fAd K ("Ladder", some "__len__")) φ.Ladder_len
  f_shares : FunD K "shares" "shares" (defArgs s_shares) (defBody s_shares) (defScope s_shares) [] [] (He.fAd K ("shares", none)) φ.shares
  f_are_sizes : FunD K "are_sizes" "are_sizes" (defArgs s_are_sizes) (defBody s_are_sizes) (defScope s_are_sizes) [] [] (He.fAd K ("are_sizes", none)) φ.are_sizes
  f_are_apart : FunD K "are_apart" "are_apart" (defArgs s_are_apart) (defBody s_are_apart) (defScope s_are_apart) [] [] (He.fAd K ("are_apart", none)) φ.are_apart
  f_shows_stock : FunD K "shows_stock" "shows_stock" (defArgs s_shows_stock) (defBody s_shows_stock) (defScope s_shows_stock) [] [] (He.fAd K ("shows_stock", none)) φ.shows_stock
  f_l_hand : FunD K "_law_hand" "_law_hand" (defArgs s_l_hand) (defBody s_l_hand) (defScope s_l_hand) [] [] (He.fAd K ("_law_hand", none)) φ.l_hand
  f_l_take : FunD K "_law_take" "_law_take" (defArgs s_l_take) (defBody s_l_take) (defScope s_l_take) [] [] (He.fAd K ("_law_take", none)) φ.l_take
  f_l_pick : FunD K "_law_pick" "_law_pick" (defArgs s_l_pick) (defBody s_l_pick) (defScope s_l_pick) [] [] (He.fAd K ("_law_pick", none)) φ.l_pick
  f_l_plain : FunD K "_law_plain" "_law_plain" (defArgs s_l_plain) (defBody s_l_plain) (defScope s_l_plain) [] [] (He.fAd K ("_law_plain", none)) φ.l_plain
  f_l_sum : FunD K "_law_sum" "_law_sum" (defArgs s_l_sum) (defBody s_l_sum) (defScope s_l_sum) [] [] (He.fAd K ("_law_sum", none)) φ.l_sum
  f_l_less : FunD K "_law_less" "_law_less" (defArgs s_l_less) (defBody s_l_less) (defScope s_l_less) [] [] (He.fAd K ("_law_less", none)) φ.l_less
  f_l_measures : FunD K "_law_measures" "_law_measures" (defArgs s_l_measures) (defBody s_l_measures) (defScope s_l_measures) [] [] (He.fAd K ("_law_measures", none)) φ.l_measures
  f_l_part : FunD K "_law_part" "_law_part" (defArgs s_l_part) (defBody s_l_part) (defScope s_l_part) [] [] (He.fAd K ("_law_part", none)) φ.l_part
  f_l_marks : FunD K "_law_marks" "_law_marks" (defArgs s_l_marks) (defBody s_l_marks) (defScope s_l_marks) [] [] (He.fAd K ("_law_marks", none)) φ.l_marks
  f_l_any_ladder : FunD K "_law_any_ladder" "_law_any_ladder" (defArgs s_l_any_ladder) (defBody s_l_any_ladder) (defScope s_l_any_ladder) [] [] (He.fAd K ("_law_any_ladder", none)) φ.l_any_ladder
  f_l_width : FunD K "_law_width" "_law_width" (defArgs s_l_width) (defBody s_l_width) (defScope s_l_width) [] [] (He.fAd K ("_law_width", none)) φ.l_width
  f_l_foot : FunD K "_law_foot" "_law_foot" (defArgs s_l_foot) (defBody s_l_foot) (defScope s_l_foot) [] [] (He.fAd K ("_law_foot", none)) φ.l_foot
  f_l_fits : FunD K "_law_fits" "_law_fits" (defArgs s_l_fits) (defBody s_l_fits) (defScope s_l_fits) [] [] (He.fAd K ("_law_fits", none)) φ.l_fits
  f_l_same : FunD K "_law_same" "_law_same" (defArgs s_l_same) (defBody s_l_same) (defScope s_l_same) [] [] (He.fAd K ("_law_same", none)) φ.l_same
  f_l_runs : FunD K "_law_runs" "_law_runs" (defArgs s_l_runs) (defBody s_l_runs) (defScope s_l_runs) [] [] (He.fAd K ("_law_runs", none)) φ.l_runs
  f_l_stock : FunD K "_law_stock" "_law_stock" (defArgs s_l_stock) (defBody s_l_stock) (defScope s_l_stock) [] [] (He.fAd K ("_law_stock", none)) φ.l_stock
  f_l_are_rising : FunD K "_law_are_rising" "_law_are_rising" (defArgs s_l_are_rising) (defBody s_l_are_rising) (defScope s_l_are_rising) [] [] (He.fAd K ("_law_are_rising", none)) φ.l_are_rising
  f_l_is_stock : FunD K "_law_is_stock" "_law_is_stock" (defArgs s_l_is_stock) (defBody s_l_is_stock) (defScope s_l_is_stock) [] [] (He.fAd K ("_law_is_stock", none)) φ.l_is_stock
  f_l_feet : FunD K "_law_feet" "_law_feet" (defArgs s_l_feet) (defBody s_l_feet) (defScope s_l_feet) [] [] (He.fAd K ("_law_feet", none)) φ.l_feet
  f_l_right : FunD K "_law_right" "_law_right" (defArgs s_l_right) (defBody s_l_right) (defScope s_l_right) [] [] (He.fAd K ("_law_right", none)) φ.l_right
  f_law : FunD K "law" "law" (defArgs s_law) (defBody s_law) (defScope s_law) [] [] (He.fAd K ("law", none)) φ.law
/-! ### the head -/
def h_is_whole : He.DefD := ⟨("is_whole", none), "is_whole", "is_whole", defArgs s_is_whole, defBody s_is_whole, defScope s_is_whole, [], []⟩
def h_is_number : He.DefD := ⟨("is_number", none), "is_number", "is_number", defArgs s_is_number, defBody s_is_number, defScope s_is_number, [], []⟩
def h_is_tuple_of : He.DefD := ⟨("is_tuple_of", none), "is_tuple_of", "is_tuple_of", defArgs s_is_tuple_of, defBody s_is_tuple_of, defScope s_is_tuple_of, [], []⟩
def h_are_wholes : He.DefD := ⟨("are_wholes", none), "are_wholes", "are_wholes", defArgs s_are_wholes, defBody s_are_wholes, defScope s_are_wholes, [], []⟩
def h_all_below : He.DefD := ⟨("all_below", none), "all_below", "all_below", defArgs s_all_below, defBody s_all_below, defScope s_all_below, [], []⟩
def h_are_rising : He.DefD := ⟨("are_rising", none), "are_rising", "are_rising", defArgs s_are_rising, defBody s_are_rising, defScope s_are_rising, [], []⟩
def h_is_word : He.DefD := ⟨("is_word", none), "is_word", "is_word", defArgs s_is_word, defBody s_is_word, defScope s_is_word, [], []⟩
def h_common_part : He.DefD := ⟨("common_part", none), "common_part", "common_part", defArgs s_common_part, defBody s_common_part, defScope s_common_part, [], []⟩
def h_Measure_init : He.DefD := ⟨("Measure", some "__init__"), "__init__", "Measure.__init__", defArgs s_Measure_init, defBody s_Measure_init, defScope s_Measure_init, [.int 1], []⟩
def h_Measure_plus : He.DefD := ⟨("Measure", some "plus"), "plus", "Measure.plus", defArgs s_Measure_plus, defBody s_Measure_plus, defScope s_Measure_plus, [], []⟩
def h_Measure_minus : He.DefD := ⟨("Measure", some "minus"), "minus", "Measure.minus", defArgs s_Measure_minus, defBody s_Measure_minus, defScope s_Measure_minus, [], []⟩
def h_Measure_is_below : He.DefD := ⟨("Measure", some "is_below"), "is_below", "Measure.is_below", defArgs s_Measure_is_below, defBody s_Measure_is_below, defScope s_Measure_is_below, [.bl false], []⟩
def h_is_measure_or_none : He.DefD := ⟨("is_measure_or_none", none), "is_measure_or_none", "is_measure_or_none", defArgs s_is_measure_or_none, defBody s_is_measure_or_none, defScope s_is_measure_or_none, [], []⟩
def h_measure_or : He.DefD := ⟨("measure_or", none), "measure_or", "measure_or", defArgs s_measure_or, defBody s_measure_or, defScope s_measure_or, [], []⟩
def h_fits : He.DefD := ⟨("fits", none), "fits", "fits", defArgs s_fits, defBody s_fits, defScope s_fits, [.non], []⟩
def h_fitting_of : He.DefD := ⟨("fitting_of", none), "fitting_of", "fitting_of", defArgs s_fitting_of, defBody s_fitting_of, defScope s_fitting_of, [], []⟩
def h_first_bare : He.DefD := ⟨("first_bare", none), "first_bare", "first_bare", defArgs s_first_bare, defBody s_first_bare, defScope s_first_bare, [], []⟩
def h_fewest_of : He.DefD := ⟨("fewest_of", none), "fewest_of", "fewest_of", defArgs s_fewest_of, defBody s_fewest_of, defScope s_fewest_of, [], []⟩
def h_stock_for : He.DefD := ⟨("stock_for", none), "stock_for", "stock_for", defArgs s_stock_for, defBody s_stock_for, defScope s_stock_for, [.non], []⟩
def h_slip_of : He.DefD := ⟨("slip_of", none), "slip_of", "slip_of", defArgs s_slip_of, defBody s_slip_of, defScope s_slip_of, [], []⟩
def h_are_marks : He.DefD := ⟨("are_marks", none), "are_marks", "are_marks", defArgs s_are_marks, defBody s_are_marks, defScope s_are_marks, [], []⟩
def h_is_rule : He.DefD := ⟨("is_rule", none), "is_rule", "is_rule", defArgs s_is_rule, defBody s_is_rule, defScope s_is_rule, [], []⟩
def h_is_span : He.DefD := ⟨("is_span", none), "is_span", "is_span", defArgs s_is_span, defBody s_is_span, defScope s_is_span, [], []⟩
def h_Ladder_init : He.DefD := ⟨("Ladder", some "__init__"), "__init__", "Ladder.__init__", defArgs s_Ladder_init, defBody s_Ladder_init, defScope s_Ladder_init, [.str "up", .non, .non], []⟩
def h_Ladder_len : He.DefD := ⟨("Ladder", some "__len__"), "__len__", "Ladder.__len__", defArgs s_Ladder_len, defBody s_Ladder_len, defScope s_Ladder_len, [], []⟩
def h_shares : He.DefD := ⟨("shares", none), "shares", "shares", defArgs s_shares, defBody s_shares, defScope s_shares, [], []⟩
def h_are_sizes : He.DefD := ⟨("are_sizes", none), "are_sizes", "are_sizes", defArgs s_are_sizes, defBody s_are_sizes, defScope s_are_sizes, [], []⟩
def h_are_apart : He.DefD := ⟨("are_apart", none), "are_apart", "are_apart", defArgs s_are_apart, defBody s_are_apart, defScope s_are_apart, [], []⟩
def h_shows_stock : He.DefD := ⟨("shows_stock", none), "shows_stock", "shows_stock", defArgs s_shows_stock, defBody s_shows_stock, defScope s_shows_stock, [], []⟩
def h_l_hand : He.DefD := ⟨("_law_hand", none), "_law_hand", "_law_hand", defArgs s_l_hand, defBody s_l_hand, defScope s_l_hand, [], []⟩
def h_l_take : He.DefD := ⟨("_law_take", none), "_law_take", "_law_take", defArgs s_l_take, defBody s_l_take, defScope s_l_take, [], []⟩
def h_l_pick : He.DefD := ⟨("_law_pick", none), "_law_pick", "_law_pick", defArgs s_l_pick, defBody s_l_pick, defScope s_l_pick, [], []⟩
def h_l_plain : He.DefD := ⟨("_law_plain", none), "_law_plain", "_law_plain", defArgs s_l_plain, defBody s_l_plain, defScope s_l_plain, [], []⟩
def h_l_sum : He.DefD := ⟨("_law_sum", none), "_law_sum", "_law_sum", defArgs s_l_sum, defBody s_l_sum, defScope s_l_sum, [], []⟩
def h_l_less : He.DefD := ⟨("_law_less", none), "_law_less", "_law_less", defArgs s_l_less, defBody s_l_less, defScope s_l_less, [], []⟩
def h_l_measures : He.DefD := ⟨("_law_measures", none), "_law_measures", "_law_measures", defArgs s_l_measures, defBody s_l_measures, defScope s_l_measures, [], []⟩
def h_l_part : He.DefD := ⟨("_law_part", none), "_law_part", "_law_part", defArgs s_l_part, defBody s_l_part, defScope s_l_part, [], []⟩
def h_l_marks : He.DefD := ⟨("_law_marks", none), "_law_marks", "_law_marks", defArgs s_l_marks, defBody s_l_marks, defScope s_l_marks, [], []⟩
def h_l_any_ladder : He.DefD := ⟨("_law_any_ladder", none), "_law_any_ladder", "_law_any_ladder", defArgs s_l_any_ladder, defBody s_l_any_ladder, defScope s_l_any_ladder, [], []⟩
def h_l_width : He.DefD := ⟨("_law_width", none), "_law_width", "_law_width", defArgs s_l_width, defBody s_l_width, defScope s_l_width, [], []⟩
def h_l_foot : He.DefD := ⟨("_law_foot", none), "_law_foot", "_law_foot", defArgs s_l_foot, defBody s_l_foot, defScope s_l_foot, [], []⟩
def h_l_fits : He.DefD := ⟨("_law_fits", none), "_law_fits", "_law_fits", defArgs s_l_fits, defBody s_l_fits, defScope s_l_fits, [], []⟩
def h_l_same : He.DefD := ⟨("_law_same", none), "_law_same", "_law_same", defArgs s_l_same, defBody s_l_same, defScope s_l_same, [], []⟩
def h_l_runs : He.DefD := ⟨("_law_runs", none), "_law_runs", "_law_runs", defArgs s_l_runs, defBody s_l_runs, defScope s_l_runs, [], []⟩
def h_l_stock : He.DefD := ⟨("_law_stock", none), "_law_stock", "_law_stock", defArgs s_l_stock, defBody s_l_stock, defScope s_l_stock, [], []⟩
def h_l_are_rising : He.DefD := ⟨("_law_are_rising", none), "_law_are_rising", "_law_are_rising", defArgs s_l_are_rising, defBody s_l_are_rising, defScope s_l_are_rising, [], []⟩
def h_l_is_stock : He.DefD := ⟨("_law_is_stock", none), "_law_is_stock", "_law_is_stock", defArgs s_l_is_stock, defBody s_l_is_stock, defScope s_l_is_stock, [], []⟩
def h_l_feet : He.DefD := ⟨("_law_feet", none), "_law_feet", "_law_feet", defArgs s_l_feet, defBody s_l_feet, defScope s_l_feet, [], []⟩
def h_l_right : He.DefD := ⟨("_law_right", none), "_law_right", "_law_right", defArgs s_l_right, defBody s_l_right, defScope s_l_right, [], []⟩
def h_law : He.DefD := ⟨("law", none), "law", "law", defArgs s_law, defBody s_law, defScope s_law, [], []⟩
def fn : List He.DefD := [h_is_whole, h_is_number, h_is_tuple_of, h_are_wholes, h_all_below, h_are_rising, h_is_word, h_common_part, h_Measure_init, h_Measure_plus, h_Measure_minus, h_Measure_is_below, h_is_measure_or_none, h_measure_or, h_fits, h_fitting_of, h_first_bare, h_fewest_of, h_stock_for, h_slip_of, h_are_marks, h_is_rule, h_is_span, h_Ladder_init, h_Ladder_len, h_shares, h_are_sizes, h_are_apart, h_shows_stock, h_l_hand, h_l_take, h_l_pick, h_l_plain, h_l_sum, h_l_less, h_l_measures, h_l_part, h_l_marks, h_l_any_ladder, h_l_width, h_l_foot, h_l_fits, h_l_same, h_l_runs, h_l_stock, h_l_are_rising, h_l_is_stock, h_l_feet, h_l_right, h_law]
def fa : List He.Fa := [.glo "is_whole", .glo "is_number", .glo "is_tuple_of", .glo "are_wholes", .glo "all_below", .glo "are_rising", .glo "is_word", .glo "common_part", .glo "is_measure_or_none", .glo "measure_or", .glo "fits", .glo "fitting_of", .glo "first_bare", .glo "fewest_of", .glo "stock_for", .glo "slip_of", .glo "are_marks", .glo "is_rule", .glo "is_span", .glo "shares", .glo "are_sizes", .glo "are_apart", .glo "shows_stock", .glo "_law_hand", .glo "_law_take", .glo "_law_pick", .glo "_law_plain", .glo "_law_sum", .glo "_law_less", .glo "_law_measures", .glo "_law_part", .glo "_law_marks", .glo "_law_any_ladder", .glo "_law_width", .glo "_law_foot", .glo "_law_fits", .glo "_law_same", .glo "_law_runs", .glo "_law_stock", .glo "_law_are_rising", .glo "_law_is_stock", .glo "_law_feet", .glo "_law_right", .glo "law", .glo "Measure", .glo "Ladder", .glo "RULES", .int "MOST_MARKS" 24, .free "abs", .free "all", .free "any", .free "bool", .free "enumerate", .free "int", .free "isinstance", .free "len", .free "list", .free "max", .free "min", .free "range", .free "sorted", .free "str", .free "tuple", .free "zip", .cls "Measure", .noat "Measure" "top", .noat "Measure" "bottom", .meth "Measure" "plus", .meth "Measure" "minus", .meth "Measure" "is_below", .mkr "Measure", .cls "Ladder", .noat "Ladder" "marks", .noat "Ladder" "rule", .noat "Ladder" "least", .noat "Ladder" "most", .meth "Ladder" "__len__", .mkr "Ladder"]
abbrev R : PySem.W.OpenRow := PySem.W.OpenLaw.row PySem.Challenge.rw_sizeladders_k43_fewest_sizes_walked
def ex : List (PySem.W.Frag → Bool) := [isCB "Measure", tupB "RULES" ["up", "down", "near"], kitF (.inl "Measure") (.inl "Measure") true]
abbrev hk : PySem.W.Hook := hookM 5 fa fn ex
def ob (s : PySem.W.SharedT) : He.AlD × Bool := obsM 5 fa fn ex (HandSHeadRun.getT s)
theorem ob_eq (s : PySem.W.SharedT) : ob s = hk.obs s.abs := obsM_eq (HandSHeadRun.getT_eq s)
theorem run (w : World) : HandSHeadRun.RunEq R (PySem.W.view R.prog [65]) hk ob 20000 [("_wall" : PySem.Str), ("LadderError" : PySem.Str), ("NoMeasure" : PySem.Str), ("NoLadder" : PySem.Str), ("Slip" : PySem.Str), ("NoBottom" : PySem.Str), ("is_whole" : PySem.Str), ("is_number" : PySem.Str), ("is_tuple_of" : PySem.Str), ("are_wholes" : PySem.Str), ("all_below" : PySem.Str), ("are_rising" : PySem.Str), ("is_word" : PySem.Str), ("common_part" : PySem.Str), ("written" : PySem.Str), ("Measure" : PySem.Str), ("is_measure_or_none" : PySem.Str), ("measure_or" : PySem.Str), ("fits" : PySem.Str), ("fitting_of" : PySem.Str), ("first_bare" : PySem.Str), ("fewest_of" : PySem.Str), ("stock_for" : PySem.Str), ("slip_of" : PySem.Str), ("MOST_MARKS" : PySem.Str), ("RULES" : PySem.Str), ("are_marks" : PySem.Str), ("is_rule" : PySem.Str), ("is_span" : PySem.Str), ("midsts_of" : PySem.Str), ("size_by_rule" : PySem.Str), ("bound_text" : PySem.Str), ("Ladder" : PySem.Str), ("shares" : PySem.Str), ("are_sizes" : PySem.Str), ("are_apart" : PySem.Str), ("shows_stock" : PySem.Str), ("_law_hand" : PySem.Str), ("_law_take" : PySem.Str), ("_law_pick" : PySem.Str), ("_law_plain" : PySem.Str), ("_law_sum" : PySem.Str), ("_law_less" : PySem.Str), ("_law_measures" : PySem.Str), ("_law_part" : PySem.Str), ("_law_marks" : PySem.Str), ("_law_any_ladder" : PySem.Str), ("_law_width" : PySem.Str), ("_law_foot" : PySem.Str), ("_law_fits" : PySem.Str), ("_law_same" : PySem.Str), ("_law_runs" : PySem.Str), ("_law_stock" : PySem.Str), ("_law_are_rising" : PySem.Str), ("_law_is_stock" : PySem.Str), ("_law_feet" : PySem.Str), ("_law_right" : PySem.Str)] w := by
  intro os
  kernel_rfl

theorem facts {K : PySem.W.Frag} {h : Heap} {mg : Str → Option Value} (X : K.In h) (G : h.Ns mainGlobals mg) (c : He.SaysD fa fn K) (cx : (ex.all fun f => f K) = true) : ∃ φ : Fds, Txt K mg φ := by
  obtain ⟨d0, F0⟩ := c.def_ 0 (d := h_is_whole) rfl
  obtain ⟨d1, F1⟩ := c.def_ 1 (d := h_is_number) rfl
  obtain ⟨d2, F2⟩ := c.def_ 2 (d := h_is_tuple_of) rfl
  obtain ⟨d3, F3⟩ := c.def_ 3 (d := h_are_wholes) rfl
  obtain ⟨d4, F4⟩ := c.def_ 4 (d := h_all_below) rfl
  obtain ⟨d5, F5⟩ := c.def_ 5 (d := h_are_rising) rfl
  obtain ⟨d6, F6⟩ := c.def_ 6 (d := h_is_word) rfl
  obtain ⟨d7, F7⟩ := c.def_ 7 (d := h_common_part) rfl
  obtain ⟨d8, F8⟩ := c.def_ 8 (d := h_Measure_init) rfl
  obtain ⟨d9, F9⟩ := c.def_ 9 (d := h_Measure_plus) rfl
  obtain ⟨d10, F10⟩ := c.def_ 10 (d := h_Measure_minus) rfl
  obtain ⟨d11, F11⟩ := c.def_ 11 (d := h_Measure_is_below) rfl
  obtain ⟨d12, F12⟩ := c.def_ 12 (d := h_is_measure_or_none) rfl
  obtain ⟨d13, F13⟩ := c.def_ 13 (d := h_measure_or) rfl
  obtain ⟨d14, F14⟩ := c.def_ 14 (d := h_fits) rfl
  obtain ⟨d15, F15⟩ := c.def_ 15 (d := h_fitting_of) rfl
  obtain ⟨d16, F16⟩ := c.def_ 16 (d := h_first_bare) rfl
  obtain ⟨d17, F17⟩ := c.def_ 17 (d := h_fewest_of) rfl
  obtain ⟨d18, F18⟩ := c.def_ 18 (d := h_stock_for) rfl
  obtain ⟨d19, F19⟩ := c.def_ 19 (d := h_slip_of) rfl
  obtain ⟨d20, F20⟩ := c.def_ 20 (d := h_are_marks) rfl
  obtain ⟨d21, F21⟩ := c.def_ 21 (d := h_is_rule) rfl
  obtain ⟨d22, F22⟩ := c.def_ 22 (d := h_is_span) rfl
  obtain ⟨d23, F23⟩ := c.def_ 23 (d := h_Ladder_init) rfl
  obtain ⟨d24, F24⟩ := c.def_ 24 (d := h_Ladder_len) rfl
  obtain ⟨d25, F25⟩ := c.def_ 25 (d := h_shares) rfl
  obtain ⟨d26, F26⟩ := c.def_ 26 (d := h_are_sizes) rfl
  obtain ⟨d27, F27⟩ := c.def_ 27 (d := h_are_apart) rfl
  obtain ⟨d28, F28⟩ := c.def_ 28 (d := h_shows_stock) rfl
  obtain ⟨d29, F29⟩ := c.def_ 29 (d := h_l_hand) rfl
  obtain ⟨d30, F30⟩ := c.def_ 30 (d := h_l_take) rfl
  obtain ⟨d31, F31⟩ := c.def_ 31 (d := h_l_pick) rfl
  obtain ⟨d32, F32⟩ := c.def_ 32 (d := h_l_plain) rfl
  obtain ⟨d33, F33⟩ := c.def_ 33 (d := h_l_sum) rfl
  obtain ⟨d34, F34⟩ := c.def_ 34 (d := h_l_less) rfl
  obtain ⟨d35, F35⟩ := c.def_ 35 (d := h_l_measures) rfl
  obtain ⟨d36, F36⟩ := c.def_ 36 (d := h_l_part) rfl
  obtain ⟨d37, F37⟩ := c.def_ 37 (d := h_l_marks) rfl
  obtain ⟨d38, F38⟩ := c.def_ 38 (d := h_l_any_ladder) rfl
  obtain ⟨d39, F39⟩ := c.def_ 39 (d := h_l_width) rfl
  obtain ⟨d40, F40⟩ := c.def_ 40 (d := h_l_foot) rfl
  obtain ⟨d41, F41⟩ := c.def_ 41 (d := h_l_fits) rfl
  obtain ⟨d42, F42⟩ := c.def_ 42 (d := h_l_same) rfl
  obtain ⟨d43, F43⟩ := c.def_ 43 (d := h_l_runs) rfl
  obtain ⟨d44, F44⟩ := c.def_ 44 (d := h_l_stock) rfl
  obtain ⟨d45, F45⟩ := c.def_ 45 (d := h_l_are_rising) rfl
  obtain ⟨d46, F46⟩ := c.def_ 46 (d := h_l_is_stock) rfl
  obtain ⟨d47, F47⟩ := c.def_ 47 (d := h_l_feet) rfl
  obtain ⟨d48, F48⟩ := c.def_ 48 (d := h_l_right) rfl
  obtain ⟨d49, F49⟩ := c.def_ 49 (d := h_law) rfl
  refine ⟨⟨d0, d1, d2, d3, d4, d5, d6, d7, d8, d9, d10, d11, d12, d13, d14, d15, d16, d17, d18, d19, d20, d21, d22, d23, d24, d25, d26, d27, d28, d29, d30, d31, d32, d33, d34, d35, d36, d37, d38, d39, d40, d41, d42, d43, d44, d45, d46, d47, d48, d49⟩, ?_⟩
  exact {
    g_is_whole := He.glo_ok X G (c.fact 0 (f := .glo "is_whole") rfl),
    g_is_number := He.glo_ok X G (c.fact 1 (f := .glo "is_number") rfl),
    g_is_tuple_of := He.glo_ok X G (c.fact 2 (f := .glo "is_tuple_of") rfl),
    g_are_wholes := He.glo_ok X G (c.fact 3 (f := .glo "are_wholes") rfl),
    g_all_below := He.glo_ok X G (c.fact 4 (f := .glo "all_below") rfl),
    g_are_rising := He.glo_ok X G (c.fact 5 (f := .glo "are_rising") rfl),
    g_is_word := He.glo_ok X G (c.fact 6 (f := .glo "is_word") rfl),
    g_common_part := He.glo_ok X G (c.fact 7 (f := .glo "common_part") rfl),
    g_is_measure_or_none := He.glo_ok X G (c.fact 8 (f := .glo "is_measure_or_none") rfl),
    g_measure_or := He.glo_ok X G (c.fact 9 (f := .glo "measure_or") rfl),
    g_fits := He.glo_ok X G (c.fact 10 (f := .glo "fits") rfl),
    g_fitting_of := He.glo_ok X G (c.fact 11 (f := .glo "fitting_of") rfl),
    g_first_bare := He.glo_ok X G (c.fact 12 (f := .glo "first_bare") rfl),
    g_fewest_of := He.glo_ok X G (c.fact 13 (f := .glo "fewest_of") rfl),
    g_stock_for := He.glo_ok X G (c.fact 14 (f := .glo "stock_for") rfl),
    g_slip_of := He.glo_ok X G (c.fact 15 (f := .glo "slip_of") rfl),
    g_are_marks := He.glo_ok X G (c.fact 16 (f := .glo "are_marks") rfl),
    g_is_rule := He.glo_ok X G (c.fact 17 (f := .glo "is_rule") rfl),
    g_is_span := He.glo_ok X G (c.fact 18 (f := .glo "is_span") rfl),
    g_shares := He.glo_ok X G (c.fact 19 (f := .glo "shares") rfl),
    g_are_sizes := He.glo_ok X G (c.fact 20 (f := .glo "are_sizes") rfl),
    g_are_apart := He.glo_ok X G (c.fact 21 (f := .glo "are_apart") rfl),
    g_shows_stock := He.glo_ok X G (c.fact 22 (f := .glo "shows_stock") rfl),
    g_l_hand := He.glo_ok X G (c.fact 23 (f := .glo "_law_hand") rfl),
    g_l_take := He.glo_ok X G (c.fact 24 (f := .glo "_law_take") rfl),
    g_l_pick := He.glo_ok X G (c.fact 25 (f := .glo "_law_pick") rfl),
    g_l_plain := He.glo_ok X G (c.fact 26 (f := .glo "_law_plain") rfl),
    g_l_sum := He.glo_ok X G (c.fact 27 (f := .glo "_law_sum") rfl),
    g_l_less := He.glo_ok X G (c.fact 28 (f := .glo "_law_less") rfl),
    g_l_measures := He.glo_ok X G (c.fact 29 (f := .glo "_law_measures") rfl),
    g_l_part := He.glo_ok X G (c.fact 30 (f := .glo "_law_part") rfl),
    g_l_marks := He.glo_ok X G (c.fact 31 (f := .glo "_law_marks") rfl),
    g_l_any_ladder := He.glo_ok X G (c.fact 32 (f := .glo "_law_any_ladder") rfl),
    g_l_width := He.glo_ok X G (c.fact 33 (f := .glo "_law_width") rfl),
    g_l_foot := He.glo_ok X G (c.fact 34 (f := .glo "_law_foot") rfl),
    g_l_fits := He.glo_ok X G (c.fact 35 (f := .glo "_law_fits") rfl),
    g_l_same := He.glo_ok X G (c.fact 36 (f := .glo "_law_same") rfl),
    g_l_runs := He.glo_ok X G (c.fact 37 (f := .glo "_law_runs") rfl),
    g_l_stock := He.glo_ok X G (c.fact 38 (f := .glo "_law_stock") rfl),
    g_l_are_rising := He.glo_ok X G (c.fact 39 (f := .glo "_law_are_rising") rfl),
    g_l_is_stock := He.glo_ok X G (c.fact 40 (f := .glo "_law_is_stock") rfl),
    g_l_feet := He.glo_ok X G (c.fact 41 (f := .glo "_law_feet") rfl),
    g_l_right := He.glo_ok X G (c.fact 42 (f := .glo "_law_right") rfl),
    g_law := He.glo_ok X G (c.fact 43 (f := .glo "law") rfl),
    g_Measure := He.glo_ok X G (c.fact 44 (f := .glo "Measure") rfl),
    g_Ladder := He.glo_ok X G (c.fact 45 (f := .glo "Ladder") rfl),
    g_RULES := He.glo_ok X G (c.fact 46 (f := .glo "RULES") rfl),
    v_MOST_MARKS := He.int_ok X G (c.fact 47 (f := .int "MOST_MARKS" 24) rfl),
    z_abs := He.free_ok X G (c.fact 48 (f := .free "abs") rfl),
    z_all := He.free_ok X G (c.fact 49 (f := .free "all") rfl),
    z_any := He.free_ok X G (c.fact 50 (f := .free "any") rfl),
    z_bool := He.free_ok X G (c.fact 51 (f := .free "bool") rfl),
    z_enumerate := He.free_ok X G (c.fact 52 (f := .free "enumerate") rfl),
    z_int := He.free_ok X G (c.fact 53 (f := .free "int") rfl),
    z_isinstance := He.free_ok X G (c.fact 54 (f := .free "isinstance") rfl),
    z_len := He.free_ok X G (c.fact 55 (f := .free "len") rfl),
    z_list := He.free_ok X G (c.fact 56 (f := .free "list") rfl),
    z_max := He.free_ok X G (c.fact 57 (f := .free "max") rfl),
    z_min := He.free_ok X G (c.fact 58 (f := .free "min") rfl),
    z_range := He.free_ok X G (c.fact 59 (f := .free "range") rfl),
    z_sorted := He.free_ok X G (c.fact 60 (f := .free "sorted") rfl),
    z_str := He.free_ok X G (c.fact 61 (f := .free "str") rfl),
    z_tuple := He.free_ok X G (c.fact 62 (f := .free "tuple") rfl),
    z_zip := He.free_ok X G (c.fact 63 (f := .free "zip") rfl),
    cl_Measure := He.cls_ok (c.fact 64 (f := .cls "Measure") rfl),
    na_Measure_top := He.noat_ok (c.fact 65 (f := .noat "Measure" "top") rfl),
    na_Measure_bottom := He.noat_ok (c.fact 66 (f := .noat "Measure" "bottom") rfl),
    me_Measure_plus := He.meth_ok (c.fact 67 (f := .meth "Measure" "plus") rfl),
    me_Measure_minus := He.meth_ok (c.fact 68 (f := .meth "Measure" "minus") rfl),
    me_Measure_is_below := He.meth_ok (c.fact 69 (f := .meth "Measure" "is_below") rfl),
    mk_Measure := He.mkr_ok (c.fact 70 (f := .mkr "Measure") rfl),
    cl_Ladder := He.cls_ok (c.fact 71 (f := .cls "Ladder") rfl),
    na_Ladder_marks := He.noat_ok (c.fact 72 (f := .noat "Ladder" "marks") rfl),
    na_Ladder_rule := He.noat_ok (c.fact 73 (f := .noat "Ladder" "rule") rfl),
    na_Ladder_least := He.noat_ok (c.fact 74 (f := .noat "Ladder" "least") rfl),
    na_Ladder_most := He.noat_ok (c.fact 75 (f := .noat "Ladder" "most") rfl),
    me_Ladder_len := He.meth_ok (c.fact 76 (f := .meth "Ladder" "__len__") rfl),
    mk_Ladder := He.mkr_ok (c.fact 77 (f := .mkr "Ladder") rfl),
    ii_Measure := isC_ok (ex_at cx 0 (f := isCB "Measure") rfl),
    tp_RULES := tup_ok (ex_at cx 1 (f := tupB "RULES" ["up", "down", "near"]) rfl),
    k_Measure_Measure := kitF_ok (ex_at cx 2 (f := kitF (.inl "Measure") (.inl "Measure") true) rfl),
    f_is_whole := F0,
    f_is_number := F1,
    f_is_tuple_of := F2,
    f_are_wholes := F3,
    f_all_below := F4,
    f_are_rising := F5,
    f_is_word := F6,
    f_common_part := F7,
    f_Measure_init := F8,
    f_Measure_plus := F9,
    f_Measure_minus := F10,
    f_Measure_is_below := F11,
    f_is_measure_or_none := F12,
    f_measure_or := F13,
    f_fits := F14,
    f_fitting_of := F15,
    f_first_bare := F16,
    f_fewest_of := F17,
    f_stock_for := F18,
    f_slip_of := F19,
    f_are_marks := F20,
    f_is_rule := F21,
    f_is_span := F22,
    f_Ladder_init := F23,
    f_Ladder_len := F24,
    f_shares := F25,
    f_are_sizes := F26,
    f_are_apart := F27,
    f_shows_stock := F28,
    f_l_hand := F29,
    f_l_take := F30,
    f_l_pick := F31,
    f_l_plain := F32,
    f_l_sum := F33,
    f_l_less := F34,
    f_l_measures := F35,
    f_l_part := F36,
    f_l_marks := F37,
    f_l_any_ladder := F38,
    f_l_width := F39,
    f_l_foot := F40,
    f_l_fits := F41,
    f_l_same := F42,
    f_l_runs := F43,
    f_l_stock := F44,
    f_l_are_rising := F45,
    f_l_is_stock := F46,
    f_l_feet := F47,
    f_l_right := F48,
    f_law := F49 }
def sp_law (K : PySem.W.Frag) : Sp := fun vs H Q _ => ∃ (a : Addr) (ns : List Int), vs = [.ref a] ∧ SqL K H a (ns.map V.int) ∧ ns.length ≤ 63 ∧ ∀ H', Q (.bl true) H'

end K43
open PySem PySem.W PySem.Calls PyProof.Rows in
set_option maxRecDepth 100000 in
set_option maxHeartbeats 0 in
theorem K43.pre (hl : ∀ {P : Program} {w : World} {K : PySem.W.Frag} {mg : Str → Option Value} {base : Heap} {φ : K43.Fds} (T : K43.Txt K mg φ), L2.FnOk P w K mg base L2.CX0 9 (He.fAd K ("law", none)) φ.law K43.p_law (K43.sp_law K)) : PySem.Challenge.rw_sizeladders_k43_fewest_sizes_walked.Holds := by
  w_on; o_law
  refine HandSHeadRun.head_any (r := OpenLaw.row PySem.Challenge.rw_sizeladders_k43_fewest_sizes_walked) (q := view (OpenLaw.row PySem.Challenge.rw_sizeladders_k43_fewest_sizes_walked).prog [65]) (H := K43.hk) (ob := K43.ob) (M := 20000) (loose := [("_wall" : PySem.Str), ("LadderError" : PySem.Str), ("NoMeasure" : PySem.Str), ("NoLadder" : PySem.Str), ("Slip" : PySem.Str), ("NoBottom" : PySem.Str), ("is_whole" : PySem.Str), ("is_number" : PySem.Str), ("is_tuple_of" : PySem.Str), ("are_wholes" : PySem.Str), ("all_below" : PySem.Str), ("are_rising" : PySem.Str), ("is_word" : PySem.Str), ("common_part" : PySem.Str), ("written" : PySem.Str), ("Measure" : PySem.Str), ("is_measure_or_none" : PySem.Str), ("measure_or" : PySem.Str), ("fits" : PySem.Str), ("fitting_of" : PySem.Str), ("first_bare" : PySem.Str), ("fewest_of" : PySem.Str), ("stock_for" : PySem.Str), ("slip_of" : PySem.Str), ("MOST_MARKS" : PySem.Str), ("RULES" : PySem.Str), ("are_marks" : PySem.Str), ("is_rule" : PySem.Str), ("is_span" : PySem.Str), ("midsts_of" : PySem.Str), ("size_by_rule" : PySem.Str), ("bound_text" : PySem.Str), ("Ladder" : PySem.Str), ("shares" : PySem.Str), ("are_sizes" : PySem.Str), ("are_apart" : PySem.Str), ("shows_stock" : PySem.Str), ("_law_hand" : PySem.Str), ("_law_take" : PySem.Str), ("_law_pick" : PySem.Str), ("_law_plain" : PySem.Str), ("_law_sum" : PySem.Str), ("_law_less" : PySem.Str), ("_law_measures" : PySem.Str), ("_law_part" : PySem.Str), ("_law_marks" : PySem.Str), ("_law_any_ladder" : PySem.Str), ("_law_width" : PySem.Str), ("_law_foot" : PySem.Str), ("_law_fits" : PySem.Str), ("_law_same" : PySem.Str), ("_law_runs" : PySem.Str), ("_law_stock" : PySem.Str), ("_law_are_rising" : PySem.Str), ("_law_is_stock" : PySem.Str), ("_law_feet" : PySem.Str), ("_law_right" : PySem.Str)]) (d := HandSHeadRun.topDef (OpenLaw.row PySem.Challenge.rw_sizeladders_k43_fewest_sizes_walked).prog 65) (kwd := []) K43.ob_eq
    (by kernel_rfl) (fun s => by kernel_rfl) K43.run (by kernel_rfl) (by kernel_rfl) (by kernel_rfl) (by rfl) (by first | assumption | decide +kernel) (by decide +kernel) ⟨rfl, rfl, rfl, rfl, rfl, by decide +kernel⟩ ?hw ?hc
  case hw => w_witness2
  case hc =>
    refine L2.walk_ofE (l := PySem.Challenge.rw_sizeladders_k43_fewest_sizes_walked) (n := 63) (k := 9) (x := "_law_script") (CX := L2.CX0) rfl (by decide) (by kernel_rfl) ⟨rfl, by decide, by decide⟩ ?F (fun _ _ _ _ z => z)
    intro w mg fa h Y G hmg0
    obtain ⟨K, KX, c, cx⟩ := Y
    have hmg : mg ("law" : PySem.Str) = some (.ref fa) := by
      have e : (HandSHeadRun.topDef (OpenLaw.row PySem.Challenge.rw_sizeladders_k43_fewest_sizes_walked).prog 65).name = ("law" : PySem.Str) := by kernel_rfl
      rw [← e]
      exact hmg0
    obtain ⟨φ, T⟩ := K43.facts KX G c cx
    have e := hmg.symm.trans T.g_law
    cases e
    have b := L2.FunD.bindsA (ps := K43.p_law) T.f_law fun _ _ _ _ _ _ us hl => match us, hl with | [_], _ => rfl
    exact ⟨K, φ.law, K43.sp_law K, KX, fun s v => b s [v] rfl, fun H a ns hl _ hS => ⟨a, ns, rfl, hS, hl, fun _ => rfl⟩, fun base _ _ => hl T⟩

namespace My
open PySem PySem.Spec PyProof.Rows L2
/-! ### enumerate of a tuple -/
theorem meets_en1 {v : Value} {o : Obj} {Hh : Heap → Prop} (B : Begins v o Hh) : Meets (Builtin.«enumerate.__new__» ⟨[.type "enumerate", v], []⟩) (fun _ R s => Hh s.heap ∧
      R (.ok (.ret (.ref (s.heap.push o).objs.size))) { s with heap := (s.heap.push o).push { cls := .type "enumerate", data := .fields #[.none, .bool false, .ref s.heap.objs.size, rawInt 0, .none, .none] } }) :=
  .of_wp fun prog w A R s hh => by
    obtain ⟨hp, g, d, tk, os⟩ := s
    obtain ⟨hb, hr⟩ := hh
    have sub := sub_enumerate
    have qi : ∀ {A' : Around} {E : Value → Shared → Prop} {Q : Value → Shared → Prop}, Q (.ref hp.objs.size) ⟨hp.push o, g, d, tk, os⟩ → wpAny (model prog w) A' (pyIter v) Q E ⟨hp, g, d, tk, os⟩ := fun q => B.iter prog w _ _ ⟨hp, g, d, tk, os⟩ _ hb q
    wp_walk using qi
    refine wpAny_stack_any fun st => wpAny_pure ?_
    split
    · rename_i c _ _ _ _ _
      cases (c == Value.type "enumerate")
      · wp_walk using qi
        exact ⟨_, rfl, hr⟩
      · wp_walk using qi
        exact ⟨_, rfl, hr⟩
    · wp_walk using qi
      exact ⟨_, rfl, hr⟩
theorem call_en1 {prog : Program} {w : World} {A : Around} {E : Value → Shared → Prop} {s : Shared} {v : Value} {o : Obj} {Hh : Heap → Prop} {Q : Value → Shared → Prop} (B : Begins v o Hh) (hb : Hh s.heap)
    (f : ∀ h', IsEnum h' (s.heap.objs.size + 1) s.heap.objs.size 0 .none → h'.get? s.heap.objs.size = some o → (∀ b u, s.heap.get? b = some u → h'.get? b = some u) → Q (.ref (s.heap.objs.size + 1)) { s with heap := h' }) :
    wpAny (model prog w) A (call (.type "enumerate") [v]) Q E s := by
  refine callType_new PySem.F.called_enumerate (by decide) (PySem.F.typeCall_enumerate_1 _) (PySem.F.newCall_enumerate_1 _) (fun ob => PySem.F.args_object_init_2 ob _) PySem.F.entry_enumerate_new (meets_en1 B) ⟨hb, ?_⟩
  have hz : (s.heap.push o).objs.size = s.heap.objs.size + 1 := Heap.size_push ..
  have en := Heap.get?_push_size (s.heap.push o) (o := { cls := .type "enumerate", data := .fields #[.none, .bool false, .ref s.heap.objs.size, rawInt 0, .none, .none] }) rfl
  show _ ∧ _
  rw [hz] at en ⊢
  exact ⟨⟨_, en, rfl⟩, f _ en (Heap.get?_push_of_some _ (Heap.get?_push_size _ B.free)) fun b u x => Heap.get?_push_of_some _ (Heap.get?_push_of_some _ x)⟩
/-- the tuple at a, its items in new pairs -/
def ItT (K : PySem.W.Frag) (a : Addr) : It :=
  ⟨fun i H => ∃ (xs : List V) (x : V), SqT K H a xs ∧ xs[i]? = some x, fun i H v H' => ∃ T x, v = .ref T ∧ H T = none ∧ H' = upd H T (.tup [.int (i : Nat), x]) ∧ ∀ xs, SqT K H a xs → xs[i]? = some x, fun i H => ∃ xs : List V, SqT K H a xs ∧ xs.length = i⟩
theorem ti_ne {h : Heap} {it a : Addr} {i : Nat} {its : Array Value} (x : h.IsTupleIter it a i) (y : h.IsTuple a its) : a ≠ it := by
  intro e
  subst e
  obtain ⟨o, e1, c1, _⟩ := x
  obtain ⟨o', e2, c2, _⟩ := y
  rw [e1] at e2
  cases e2
  rw [c1] at c2
  injection c2 with e
  exact absurd e (by decide)
theorem turn_enumT {P : Program} {w : World} {K : PySem.W.Frag} {elts : List Expr} {kk : Nat} {tpos : Pos} (a e it : Addr) :
    Turn P w K (.Tuple elts kk tpos) (ItT K a) [e, it] e (fun i h => (∃ old, IsEnum h e it ((i : Nat) : Int) old) ∧ h.IsTupleIter it a i ∧ e ≠ it ∧ e ≠ a) where
  mem := by simp
  obj := fun i h st b hb => by
    obtain ⟨⟨old, he⟩, ⟨o, ho, hc, hd⟩, _⟩ := st
    rcases (show b = e ∨ b = it by simpa using hb) with z | z
    · rw [z]; exact ⟨_, he, fun v q => nomatch q⟩
    · rw [z]; exact ⟨o, ho, fun v q => by rw [hd] at q; cases q⟩
  keep := fun i h h' st k => let ⟨⟨old, he⟩, hi, hne⟩ := st; ⟨⟨old, k e (by simp) _ he⟩, hi.at fun o q => k it (by simp) o q, hne⟩
  item := by
    intro X hP hw hK hc i pins s σ H E I hf st hg
    subst hP hw hK
    obtain ⟨⟨old, he⟩, hit, hne, hna⟩ := st
    obtain ⟨xs, x, hq, hx⟩ := hg
    obtain ⟨its, rv, p, hz⟩ := I.tuple hq
    have pT : s.heap.IsTuple a its.toArray := p
    obtain ⟨u, hu, ru⟩ := rv.get hx
    have hel : e < s.heap.objs.size := Heap.lt_size he
    have hil : it < s.heap.objs.size := by obtain ⟨_, q, _⟩ := hit; exact Heap.lt_size q
    have hi2 : i < its.toArray.size := by
      have := (List.getElem?_eq_some_iff.mp hu).1
      simpa using this
    have DD := Draws.tuple (prog := X.prog) (w := X.w) (A := X.A.in1) (I.ok.hd hc) it a (ti_ne hit pT) its.toArray
    refine wpAny_pyNext_enum_itemC DD he ⟨hit, pT⟩ hi2 hne (by simp [hne, hna]) fun y h' tk hy ho hst hT hsz hk => ?_
    have ey : y = u := by
      have : its[i]? = some y := by simpa using hy
      rw [hu] at this
      exact (Option.some.inj this).symm
    subst ey
    refine ⟨_, rfl, wpAny_letOwnedTupleGo_enum (s := { s with heap := h', toks := tk + 1 }) ho fun h'' he' sb => ?_⟩
    have hT2 : h''.get? s.heap.objs.size = some { cls := .type "tuple", data := .seq #[.int i tk, y] } := (sb.2 _ (Nat.ne_of_gt hel)).trans hT
    have new : ObjOk X.prog X.w (upd H s.heap.objs.size (.tup [.int (i : Nat), x])) h'' s.heap.objs.size (.tup [.int (i : Nat), x]) :=
      ⟨by show 2 ≤ sizeLine; decide, [.int i tk, y], .cons ⟨_, rfl⟩ (.cons ru .nil), ⟨_, hT2, rfl, _, rfl⟩⟩
    have I1 : Inv X pins σ (upd H s.heap.objs.size (.tup [.int (i : Nat), x])) { s with heap := h'', toks := tk + 1 } :=
      I.turnedNew (ch := [e, it]) (fun b ob hb q => (sb.2 b (fun z => hb (by simp [z]))).trans (hk b ob (fun z => hb (by simp [z])) (fun z => hb (by simp [z])) q)) hf (Nat.le_refl _) new
    refine ⟨.ref s.heap.objs.size, _, I1, rfl, ⟨_, x, rfl, I.hok.fresh (Nat.le_refl _), rfl, fun ys hy => by rw [I.tuple_inj hy hq]; exact hx⟩, ⟨⟨y, ?_⟩, hst.1.at fun o q => (sb.2 it (Ne.symm hne)).trans q, hne, hna⟩, fun b hb => ?_⟩
    · have e1 : ((i + 1 : Nat) : Int) = (i : Int) + 1 := by omega
      rw [e1]; exact he'
    · have hb' : b < s.heap.objs.size := by
        rcases (show b = e ∨ b = it by simpa using hb) with z | z
        · rw [z]; exact hel
        · rw [z]; exact hil
      rw [upd_ne (Nat.ne_of_lt hb')]
      exact (hf b hb).1
  done := by
    intro X hP hw hK hc i pins s σ H E I hf st hg
    subst hP hw hK
    obtain ⟨⟨old, he⟩, hit, hne, hna⟩ := st
    obtain ⟨xs, hq, hx⟩ := hg
    obtain ⟨its, rv, p, hz⟩ := I.tuple hq
    have pT : s.heap.IsTuple a its.toArray := p
    obtain ⟨f0, f1, f2, f3, f4, f5⟩ := hf it (by simp)
    have hl := rv.length
    have hi : i = its.toArray.size := by rw [List.size_toArray]; omega
    have DD := Draws.tuple (prog := X.prog) (w := X.w) (A := X.A.in1) (I.ok.hd hc) it a (ti_ne hit pT) its.toArray
    exact wpAny_pyNext_enum_endD DD he ⟨by rw [← hi]; exact hit, pT⟩ fun h' eb => ⟨rfl, I.turned (t' := s.toks) (fun b o hb q => eb b o hb q) f0 f1 f3 f4 f5⟩
  self := fun A i s Q E st h => let ⟨⟨_, he⟩, _⟩ := st; wpAny_pyIter_enum he h
def iEnumT (K : PySem.W.Frag) (ta : TA) : TI := fun σ H R => ta σ H fun vs H1 => ∃ a xs, vs = [.ref a] ∧ SqT K H1 a xs ∧ R (ItT K a) H1
theorem pi_enumT {X : Cx} {e : Expr} {ta : TA} {p pos tpos : Pos} {elts : List Expr} {kk : Nat} (hg : Gl X "enumerate") (hm : X.mg "enumerate" = none) (ha : PA X [e] ta) (hs : starEach [e] X.env = [(false, eval e X.env)] := by rfl) :
    PI X (.Tuple elts kk tpos) (.Call (.Name "enumerate" p) [e] [] pos) (iEnumT X.K ta) := by
  refine ⟨fun pins s σ H R I h => ?_⟩
  refine Call_ (ld_blt I hg hm boot_enumerate (PyProof.Rows.callWith_type1 (thn (ha.run pos pins s σ H _ I h) fun us s1 ⟨vs, H1, I1, r1, q1⟩ => ?_) hs rfl))
  obtain ⟨a, xs, ex, hq, q⟩ := q1
  subst ex
  cases r1 with
  | cons r rr =>
    cases rr
    cases r
    obtain ⟨its, rv, p', hz⟩ := I1.tuple hq
    have pT : s1.heap.IsTuple a its.toArray := p'
    have la : a < s1.heap.objs.size := by obtain ⟨_, q, _⟩ := pT; exact Heap.lt_size q
    refine call_en1 (begins_tuple a its.toArray) pT fun h' he hit hk => wpAny_pyIter_enum he ?_
    have I2 : Inv X pins σ H1 { s1 with heap := h' } := I1.kept (t' := s1.toks) hk
    refine ⟨s1.heap.objs.size + 1, [s1.heap.objs.size + 1, s1.heap.objs.size], _, _, H1, rfl, I2, turn_enumT a (s1.heap.objs.size + 1) s1.heap.objs.size, ⟨⟨.none, he⟩, ⟨_, hit, rfl, rfl⟩, Nat.succ_ne_self _, Nat.ne_of_gt (Nat.lt_succ_of_lt la)⟩, fun b hb => ?_, q⟩
    have hle : s1.heap.objs.size ≤ b := by
      rcases (show b = s1.heap.objs.size + 1 ∨ b = s1.heap.objs.size by simpa using hb) with z | z
      · rw [z]; exact Nat.le_add_right _ _
      · rw [z]; exact Nat.le_refl _
    exact I1.fpOk hle (I1.hok.fresh hle)
theorem walk_enumT {K : PySem.W.Frag} {a : Addr} {xs : List V} : Walk (ItT K a) xs.length (fun H => SqT K H a xs) (YPair (fun i => some (.int (i : Nat))) (fun i => xs[i]?)) := by
  refine ⟨fun i _ hi q => ⟨xs, xs[i], q, by simp [hi]⟩, fun _ q => ⟨xs, q, rfl⟩, fun i H v H' _ q y => ?_⟩
  obtain ⟨T, x, h1, h2, h3, h4⟩ := y
  exact ⟨T, .int (i : Nat), x, h1, h2, h3, rfl, h4 xs q⟩
section
variable {X : Cx}
/-! ### len of an own object -/
theorem call_lenO {CX : CXT} {n : Nat} {C f : Addr} {fd : FuncData} {ps : List Str} {sp : Sp} {E : XK} (F : FnOk X.prog X.w X.K X.mg X.base CX n f fd ps sp) (hm : Meth X.K C "__len__" f) (hb : Binds X.K fd ps []) (hx : Passes CX X E) (hr : Room (n + 1) X.A) :
    CallR X (.builtin "len") (fun xs H Q => ∃ x a dx fs, xs = [x] ∧ x = .ref a ∧ H a = some (.ins C dx fs) ∧ sp [.ref a] H (fun v H' => ∃ k : Nat, v = .int (k : Int) ∧ k < 1000 ∧ Q (.int (k : Int)) H') E) := by
  intro pins s σ H xs us Q I r h
  obtain ⟨x, a, dx, fs, rfl, rfl, ha, h⟩ := h
  obtain ⟨u, rfl, r1⟩ := vals1 r
  cases (show u = Value.ref a from r1)
  obtain ⟨mA, J, _⟩ := ins_get I.hok ha
  obtain ⟨od, J, _⟩ := J.look
  obtain ⟨m, hF⟩ := I.fr
  have sb : Sub X (n + 1) X.A := ⟨hr, rfl⟩
  refine PySem.W.len_K hF I.ok.mod.kin J hm.at_ hm.fn ?_
  refine thn (fn_at F hb hx sb.in1 I (vs := [.ref a]) (.cons rfl .nil) h) fun u s' q => ?_
  obtain ⟨v, H', I', rv, k, rfl, hk, q⟩ := q
  obtain ⟨t, rfl⟩ := rv
  exact ⟨⟨by omega, by omega⟩, .int (k : Int), H', I'.tok _, ⟨_, rfl⟩, q⟩
end
/-! ### max and min with a default -/
theorem ints_depth : ∀ ns : List Int, PyData.depthAll (ns.map PyData.int) ≤ 1
  | [] => by simp [PyData.depthAll]
  | n :: ns => by
    have := ints_depth ns
    simp [PyData.depthAll, PyData.depth] at this ⊢
    omega
section
variable {X : Cx} {K : PySem.W.Frag}
/-! ### xs[::k] -/
def rTupL (K : PySem.W.Frag) : List V → Hp → VK → Prop := fun xs H Q => ∃ (p : Addr) (ys : List V), xs = [.ref p] ∧ SqL K H p ys ∧ ∀ l, H l = none → Q (.ref l) (upd H l (.tup ys))
theorem tupleL (hK : X.K = K := by rfl) : CallR X (.type "tuple") (rTupL K) := by
  subst hK
  intro pins s σ H xs us Q I r h
  obtain ⟨p, ys, e, h1, h2⟩ := h
  exact call_tuple_of pins s σ H xs us Q I r ⟨p, ys, e, .inl ⟨h1, h2⟩⟩
theorem walk_zipT {a b : Addr} {xs ys : List V} {n : Nat} (hn : n = min xs.length ys.length) : Walk (RZ.ItzT K a b) n (fun H => SqT K H a xs ∧ SqT K H b ys) (YPair (fun i => xs[i]?) (fun i => ys[i]?)) := by
  subst hn
  refine ⟨fun i _ hi q => ?_, fun _ q => ⟨xs, ys, q.1, q.2, by omega⟩, fun i H v H' _ q y => ?_⟩
  · have h1 : i < xs.length := by omega
    have h2 : i < ys.length := by omega
    exact ⟨xs, ys, xs[i], ys[i], q.1, q.2, by simp [h1], by simp [h2]⟩
  · obtain ⟨T, x, z, h1, h2, h3, h4, h5⟩ := y
    exact ⟨T, x, z, h1, h2, h3, h4 xs q.1, h5 ys q.2⟩
end
theorem logS {m : Int} (h : m.natAbs < 2 ^ 60) : m.natAbs.log2 < 9000 := Nat.lt_of_lt_of_le (PySem.Flt.log2_lt_of (by decide) h) (by decide)
theorem szl {n : Nat} (h : n ≤ 1000) : n ≤ sizeLine := Nat.le_trans h (by decide)
theorem szb {n : Nat} (h : Nat.ble n 1000 = true) : n ≤ sizeLine := szl (Nat.le_of_ble_eq_true h)
theorem szs {n : Nat} (h : n < 1000) : n < sizeLine := Nat.lt_of_lt_of_le h (by decide)
theorem atI_end {xs : List V} {n : Nat} {v : V} (hn : n + 1 = xs.length) (h : xs[n]? = some v) : atI xs (-1) = some v := by
  have e : ixN xs.length (-1) = some n := by
    unfold ixN
    rw [if_neg (by decide), if_pos (by omega)]
    exact congrArg some (by omega)
  unfold atI
  rw [e]
  exact h
theorem qmk_pos {a b : Int} (h : 0 < b) : qmk a b = (a, b) := by
  have e : sgn b = 1 := by unfold sgn; rw [if_pos h]
  unfold qmk
  rw [e, Int.mul_one, Int.mul_one]
/-- a Measure is made -/
theorem q_made {C : Addr} {H : Hp} {Qa : Addr → Hp → Prop} {E : XK} {k : Nat} {a b : Int} (hb : 0 < b) (sa : Sz k a) (sb : Sz k b) (k0 : 0 < k) (k1 : k ≤ 8900) (f : ∀ (p : Addr) (H' : Hp), Same H H' → QAt C H' p k (a, b) → Qa p H') :
    ∀ x dx, H x = none → H dx = none → dx ≠ x → sp_minit C [.ref x, .int a, .int b] (upd (upd H dx (.own x)) x (.ins C dx [])) (fun v H2 => v = .non ∧ Qa x H2) E := by
  intro x dx nx nd ne
  refine ⟨x, dx, a, b, rfl, upd_same, by omega, Sz.log sb k0 (by omega), fun t u H' fr hx kp => ⟨rfl, ?_⟩⟩
  have q := q_mk (k := k) ⟨dx, hx⟩ fr (by omega) sa sb
  rw [qmk_pos hb] at q
  exact f x H' (made_same nx nd kp) q
/-! ### draws -/
/-- one of a list -/
def sp_of (K : PySem.W.Frag) : Sp := fun vs H Q _ => ∃ (h l : Addr) (n : Nat) (xs : List V), vs = [.ref h, .ref l] ∧ HandAt H h n ∧ n < 100000 ∧ SqL K H l xs ∧ l ≠ h ∧ 0 < xs.length ∧ xs.length ≤ 1000 ∧
  ∀ (i : Nat) (x : V) (H' : Hp), xs[i]? = some x → HandAt H' h (n + 1) → Kp h H H' → Q x H'
end My
namespace My
open PySem PySem.Spec PyProof.Rows L2
theorem HandAt.put {H : Hp} {h l : Addr} {u : HO} {n : Nat} (a : HandAt H h n) (ne : l ≠ h) : HandAt (upd H l u) h n := by
  obtain ⟨x, y, z, h1, h2⟩ := a
  exact ⟨x, y, z, by rw [upd_ne ne.symm]; exact h1, h2⟩
theorem Kp.fresh {h l : Addr} {H H1 : Hp} (k : Kp h H H1) (hn : H1 l = none) (ne : l ≠ h) : H l = none := by
  cases e : H l with
  | none => rfl
  | some o => rw [k l o e ne] at hn; cases hn
theorem Kp.putN {h l : Addr} {H H1 : Hp} {u : HO} (k : Kp h H H1) (hn : H l = none) : Kp h H (upd H1 l u) := fun c o e n => by
  rw [upd_ne (ne_of_none e hn)]; exact k c o e n
theorem geI {n : Nat} {zs : List Int} (h : n < zs.length) : ∃ a, zs[n]? = some a := ⟨_, List.getElem?_eq_getElem h⟩
theorem mapI {ms : List Int} {n : Nat} {a : Int} (h : ms[n]? = some a) : (ms.map V.int)[n]? = some (.int a) := by rw [List.getElem?_map, h]; rfl
def optZ : Option Int → V
  | none => .non
  | some z => .int z
/-- a ladder in whole parts, as the laws draw it -/
structure LawL (H : Hp) (p : Addr) (part : Int) (ms : List Int) (r : Str) (lo hi : Option Int) : Prop where
  ob : ∃ T, H p = some (.tup [.int part, .ref T, .str r, optZ lo, optZ hi]) ∧ H T = some (.tup (ms.map V.int))
  p0 : 0 < part
  p1 : part ≤ 10007
  len0 : 0 < ms.length
  len1 : ms.length ≤ 24
  rise : ∀ (i : Nat) (a b : Int), ms[i]? = some a → ms[i + 1]? = some b → a < b
  four : ∀ m ∈ ms, m % 4 = 0
  bnd : ∀ m ∈ ms, -4000000 ≤ m ∧ m ≤ 4000000
  blo : ∀ z, lo = some z → -4000040 ≤ z ∧ z ≤ 4000040
  bhi : ∀ z, hi = some z → -4000040 ≤ z ∧ z ≤ 4000040
  rule : IsRule r
  span : ∀ a b, lo = some a → hi = some b → a ≤ b
section
variable {H H' : Hp} {p : Addr} {part : Int} {ms : List Int} {r : Str} {lo hi : Option Int}
theorem LawL.same (a : LawL H p part ms r lo hi) (s : Same H H') : LawL H' p part ms r lo hi := by
  obtain ⟨⟨T, h1, h2⟩, a1⟩ := a
  exact ⟨⟨T, s _ _ h1, s _ _ h2⟩, by assumption, by assumption, by assumption, by assumption, by assumption, by assumption, by assumption, by assumption, by assumption, by assumption, by assumption⟩
/-- the parts as fractions -/
def zq (d : Int) (ms : List Int) : List Q2 := ms.map fun m => (m, d)
def oq (d : Int) (o : Option Int) : Option Q2 := o.map fun m => (m, d)
end
theorem map_snoc (ms : List Int) (x : Int) : ms.map V.int ++ [V.int x] = (ms ++ [x]).map V.int := by simp
theorem cutV_tail (xs : List V) : cutV xs (some 1) none = xs.drop 1 := by
  unfold cutV
  have e : HT.sIx xs.length 0 (some ((1 : Nat) : Int)) = min 1 xs.length := HT.sIx_nat xs.length 0 1
  have e1 : HT.sIx xs.length 0 (some (1 : Int)) = min 1 xs.length := e
  rw [e1, HT.sIx_none]
  cases xs with
  | nil => rfl
  | cons x xs =>
    rw [show min 1 (x :: xs).length = 1 by simp]
    rw [List.take_of_length_le (by rw [List.length_drop]; omega)]
/-- whole numbers within a bound -/
def IntsB (B : Int) (xs : List V) : Prop := ∀ x ∈ xs, ∃ z : Int, x = .int z ∧ -B ≤ z ∧ z ≤ B
theorem IntsB.app {B : Int} {xs ys : List V} (a : IntsB B xs) (b : IntsB B ys) : IntsB B (xs ++ ys) := fun x h => by
  rcases List.mem_append.mp h with h | h
  · exact a x h
  · exact b x h
theorem IntsB.mono {B B' : Int} {xs : List V} (a : IntsB B xs) (l : B ≤ B') : IntsB B' xs := fun x h => by
  obtain ⟨z, e, h1, h2⟩ := a x h
  exact ⟨z, e, by omega, by omega⟩
theorem IntsB.ints {B : Int} : ∀ {xs : List V}, IntsB B xs → ∃ ys : List Int, xs = ys.map V.int ∧ ∀ y ∈ ys, -B ≤ y ∧ y ≤ B
  | [], _ => ⟨[], rfl, fun y h => by simp at h⟩
  | x :: xs, a => by
    obtain ⟨z, rfl, h1⟩ := a x (by simp)
    obtain ⟨ys, e, h2⟩ := IntsB.ints (xs := xs) fun w hw => a w (by simp [hw])
    refine ⟨z :: ys, by rw [e]; rfl, fun y hy => ?_⟩
    rcases List.mem_cons.mp hy with e | e
    · rw [e]; exact h1
    · exact h2 y e
theorem IntsB.of {B : Int} {ms : List Int} (h : ∀ m ∈ ms, -B ≤ m ∧ m ≤ B) : IntsB B (ms.map V.int) := fun x hx => by
  obtain ⟨m, hm, rfl⟩ := List.mem_map.mp hx
  exact ⟨m, rfl, h m hm⟩
/-! ### sizes by whole numbers -/
abbrev RiseI (ms : List Int) : Prop := ∀ (i : Nat) (a b : Int), ms[i]? = some a → ms[i + 1]? = some b → a < b
theorem RiseI.tail {x : Int} {ms : List Int} (h : RiseI (x :: ms)) : RiseI ms := fun i a b h1 h2 => h (i + 1) a b (by simpa using h1) (by simpa using h2)
theorem RiseI.head : ∀ {ms : List Int} {x : Int}, RiseI (x :: ms) → ∀ m ∈ ms, x < m
  | [], _, _, m, hm => by simp at hm
  | y :: ms, x, h, m, hm => by
    have h0 : x < y := h 0 x y rfl rfl
    rcases List.mem_cons.mp hm with e | e
    · rw [e]; exact h0
    · have := RiseI.head h.tail m e
      omega
theorem RiseI.lt {ms : List Int} (h : RiseI ms) : ∀ {j : Nat} {i : Nat} {a b : Int}, i < j → ms[i]? = some a → ms[j]? = some b → a < b
  | 0, _, _, _, hi, _, _ => by omega
  | j + 1, i, a, b, hi, ha, hb => by
    obtain ⟨c, hc⟩ := geI (zs := ms) (n := j) (by have := (List.getElem?_eq_some_iff.mp hb).1; omega)
    have h1 := h j c b hc hb
    by_cases e : i = j
    · subst e
      rw [ha] at hc
      cases hc
      exact h1
    · have := RiseI.lt h (show i < j by omega) ha hc
      omega
section
variable {ms : List Int} {d z : Int} {lo hi : Option Q2}
end
theorem rep_fm (n : Nat) : (List.replicate n (some (V.bl true))).filterMap _root_.id = (List.replicate n true).map V.bl := by
  induction n with
  | zero => rfl
  | succ n ih => rw [List.replicate_succ, List.replicate_succ]; simpa using ih
theorem rep_all (n : Nat) : (List.replicate n true).all _root_.id = true := by
  induction n with
  | zero => rfl
  | succ n ih => rw [List.replicate_succ]; simpa using ih
/-- the numbers from 0 on of which c holds -/
def idx (n : Nat) (c : Nat → Bool) : List Int := ((List.range n).filter c).map fun k : Nat => (k : Int)
theorem idx_mem {n : Nat} {c : Nat → Bool} {m : Int} : m ∈ idx n c ↔ ∃ k : Nat, k < n ∧ c k = true ∧ m = k := by
  unfold idx
  simp only [List.mem_map, List.mem_filter, List.mem_range]
  exact ⟨fun ⟨k, ⟨h1, h2⟩, h3⟩ => ⟨k, h1, h2, h3.symm⟩, fun ⟨k, h1, h2, h3⟩ => ⟨k, ⟨h1, h2⟩, h3.symm⟩⟩
def oIdx (n : Nat) (c : Nat → Bool) : List (Option V) := (List.range n).map fun k => if c k then some (.int (k : Int)) else none
theorem oIdx_len (n : Nat) (c : Nat → Bool) : (oIdx n c).length = n := by unfold oIdx; simp
theorem oIdx_get {n i : Nat} {c : Nat → Bool} {z : Option V} (h : (oIdx n c)[i]? = some z) : z = if c i then some (.int (i : Int)) else none := by
  unfold oIdx at h
  rw [List.getElem?_map] at h
  by_cases hi : i < n
  · rw [List.getElem?_range hi] at h
    exact (Option.some.inj h).symm
  · rw [List.getElem?_eq_none (by simpa using hi)] at h
    cases h
theorem oIdx_fm (n : Nat) (c : Nat → Bool) : (oIdx n c).filterMap _root_.id = (idx n c).map V.int := by
  unfold oIdx idx
  rw [List.filterMap_map, List.map_map]
  generalize List.range n = l
  induction l with
  | nil => rfl
  | cons x l ih =>
    rw [List.filterMap_cons, List.filter_cons]
    cases e : c x
    · simpa [e] using ih
    · simpa [e] using ih
/-! ### what the laws' own defs promise -/
end My
namespace My
open PySem PySem.Spec PyProof.Rows L2
/-! ### the stretches of a ladder's sizes -/
section
variable {X : Cx} {K : PySem.W.Frag}
end
def endQ (zs : List Q2) (i : Int) : Option Q2 := if 0 ≤ i ∧ i < zs.length then zs[i.toNat]? else none
/-- both ends of a size by the rule alone, and whether they are in -/
def rulE (zs : List Q2) (r : Str) (n : Nat) : (Option Q2 × Bool) × (Option Q2 × Bool) :=
  if r = "up" then ((endQ zs ((n : Int) - 1), false), (zs[n]?, true)) else if r = "down" then ((zs[n]?, true), (endQ zs ((n : Int) + 1), false)) else ((endQ (midq zs) ((n : Int) - 1), true), (endQ (midq zs) n, false))
/-- a Stretch whose ends are these fractions -/
def StQ (CM CS : Addr) (H : Hp) (p : Addr) (x y : Option Q2 × Bool) : Prop := ∃ lo hi, StAt CM CS H p lo hi (x.2 && x.1.isSome) (y.2 && y.1.isSome) ∧ ReO lo x.1 ∧ ReO hi y.1
theorem StQ.same {CM CS p : Addr} {H H' : Hp} {x y : Option Q2 × Bool} (a : StQ CM CS H p x y) (s : Same H H') : StQ CM CS H' p x y := by
  obtain ⟨lo, hi, h1, h2, h3⟩ := a
  exact ⟨lo, hi, h1.same s, h2, h3⟩
def CutQ (CM CS : Addr) (H : Hp) (v : V) (x y : Option Q2 × Bool) : Prop := ∃ x' y', CutV CM CS H v x' y' ∧ Alike x' x ∧ Alike y' y
theorem CutQ.same {CM CS : Addr} {H H' : Hp} {v : V} {x y : Option Q2 × Bool} (a : CutQ CM CS H v x y) (s : Same H H') : CutQ CM CS H' v x y := by
  obtain ⟨x', y', h1, h2, h3⟩ := a
  exact ⟨x', y', h1.same s, h2, h3⟩
/-- both ends of a size's stretch -/
def sizE (zs : List Q2) (r : Str) (lo hi : Option Q2) (n : Nat) : (Option Q2 × Bool) × (Option Q2 × Bool) :=
  (cutLo (rulE zs r n).1.1 (rulE zs r n).1.2 lo true, cutHi (rulE zs r n).2.1 (rulE zs r n).2.2 hi true)
def sp_llen (K : PySem.W.Frag) (CM CL : Addr) : Sp := fun vs H Q _ => ∃ (p : Addr) (k : Nat) (zs : List Q2) (r : Str) (lo hi : Option Q2), vs = [.ref p] ∧ LadAt K CM CL H p k zs r lo hi ∧ Q (.int (zs.length : Nat)) H
/-! between neighbours there is something -/
/-- the fractions' bottoms are above nought -/
def PosL (zs : List Q2) : Prop := ∀ z ∈ zs, 0 < z.2
theorem Mks.posL {C : Addr} {H : Hp} {k : Nat} {ps : List V} {zs : List Q2} (m : Mks C H k ps zs) : PosL zs := fun z hz => by
  obtain ⟨i, hi⟩ := List.mem_iff_getElem?.mp hz
  obtain ⟨p, _, q⟩ := m.at hi
  exact q.pos
end My
namespace My
open PySem PySem.Spec PyProof.Rows L2
/-! ### defs that are called where no text of a list or tuple is under way -/
section
variable {P : Program} {w : World} {K : PySem.W.Frag} {mg : Str → Option Value} {base : Heap} {x qual : Str} {params : Arguments} {body : List Stmt} {scope : Scope} {dvs : List V} {kws : List (Str × V)} {f : Addr} {fd : FuncData}
end
section
variable {X : Cx} {CX : CXT} {k : Nat} {f : Addr} {fd : FuncData} {ps : List Str} {sp : Sp} {dvs : List V} {ds : List Value} {E : XK} {x : Str} {p pos : Pos} {e : Expr} {es : List Expr} {t : TA}
end
/-! ### the law is called where none is under way -/
end My
namespace My
open PySem PySem.Spec PyProof.Rows L2
/-! ### tuples: sums and slices, whatever their lengths -/
section
variable {X : Cx} {K : PySem.W.Frag}
end
theorem cutV_drop (xs : List V) {i : Int} {n : Nat} (e : i = (n : Int)) : cutV xs (some i) none = xs.drop n := by
  subst e
  unfold cutV
  rw [HT.sIx_none, HT.sIx_nat]
  by_cases h : n ≤ xs.length
  · rw [Nat.min_eq_left h, List.take_of_length_le (by rw [List.length_drop]; omega)]
  · rw [Nat.min_eq_right (by omega), Nat.sub_self, List.take_zero, List.drop_eq_nil_of_le (by omega)]
/-! ### rows, as the laws draw them -/
structure RowsL (H : Hp) (p : Addr) (part : Int) (ts : List Int) : Prop where
  ob : ∃ T, H p = some (.tup [.int part, .ref T]) ∧ H T = some (.tup (ts.map V.int))
  p0 : 0 < part
  p1 : part ≤ 10007
  len0 : 0 < ts.length
  len1 : ts.length ≤ 24
  bnd : ∀ t ∈ ts, -2000000 ≤ t ∧ t ≤ 2000000
theorem RowsL.same {H H' : Hp} {p : Addr} {part : Int} {ts : List Int} (a : RowsL H p part ts) (s : Same H H') : RowsL H' p part ts := by
  obtain ⟨⟨T, h1, h2⟩, a1, a2, a3, a4, a5⟩ := a
  exact ⟨⟨T, s _ _ h1, s _ _ h2⟩, a1, a2, a3, a4, a5⟩
/-! ### tuples of whole numbers as data -/
def intsD (zs : List Int) : PyData := .tuple (zs.map PyData.int)
theorem dpI {K : PySem.W.Frag} {H : Hp} : ∀ zs : List Int, DpAll K H (zs.map V.int) (zs.map PyData.int)
  | [] => .nil
  | z :: zs => .cons (.int z) (dpI zs)
theorem dpT {K : PySem.W.Frag} {H : Hp} {p : Addr} {zs : List Int} (h : H p = some (.tup (zs.map V.int))) : Dp K H (.ref p) (intsD zs) := .tup (SqT.of h) (dpI zs)
theorem idx_len {n : Nat} {c : Nat → Bool} : (idx n c).length ≤ n := by
  unfold idx
  rw [List.length_map]
  exact Nat.le_trans (List.length_filter_le _ _) (Nat.le_of_eq List.length_range)
end My
namespace My
open PySem PySem.Spec PyProof.Rows L2
/-! ### a list or a tuple, walked -/
section
variable {X : Cx} {tg : Expr}
def iSeq (K : PySem.W.Frag) (tl : TE) : TI := fun σ H R => tl σ H fun x H1 => ∃ a, x = .ref a ∧ (((∃ xs, SqL K H1 a xs) ∧ R (Itl K a) H1) ∨ ((∃ xs, SqT K H1 a xs) ∧ R (Itt K a) H1))
theorem pi_seq {l : Expr} {tl : TE} (hl : PE X l tl) : PI X tg l (iSeq X.K tl) := by
  refine ⟨fun pins s σ H R I h => ?_⟩
  refine thn (hl.run pins s σ H _ I h) fun v s1 ⟨x, H1, I1, r1, q1⟩ => ?_
  obtain ⟨a, e, q1⟩ := q1
  subst e
  cases r1
  have fresh : ∀ b ∈ [s1.heap.objs.size], FpOk X pins H1 b := fun b hb => by
    have e : b = s1.heap.objs.size := by simpa using hb
    subst e
    exact I1.fpOk (Nat.le_refl _) (I1.hok.fresh (Nat.le_refl _))
  rcases q1 with ⟨⟨xs, hq⟩, q⟩ | ⟨⟨xs, hq⟩, q⟩
  · obtain ⟨its, rv, p, hz⟩ := I1.list hq
    refine wpAny_pyIter_list p.isList ?_
    exact ⟨s1.heap.objs.size, [s1.heap.objs.size], _, _, H1, rfl, I1.kept (t' := s1.toks) fun b o e => Heap.get?_push_of_some _ e, turn_list a _, ⟨_, Heap.get?_push_size _ rfl, rfl, rfl⟩, fresh, q⟩
  · obtain ⟨its, rv, p, hz⟩ := I1.tuple hq
    refine wpAny_pyIter_tuple (show s1.heap.IsTuple a its.toArray from p) ?_
    exact ⟨s1.heap.objs.size, [s1.heap.objs.size], _, _, H1, rfl, I1.kept (t' := s1.toks) fun b o e => Heap.get?_push_of_some _ e, turn_tuple a _, ⟨_, Heap.get?_push_size _ rfl, rfl, rfl⟩, fresh, q⟩
end
/-- a def that calls itself, ahead of its own promise -/
theorem fn_never {P : Program} {w : World} {K : PySem.W.Frag} {mg : Str → Option Value} {base : Heap} {CX : CXT} {k : Nat} {f : Addr} {fd : FuncData} {ps : List Str} : FnOk P w K mg base CX k f fd ps (fun _ _ _ _ => False) :=
  ⟨fun _ _ _ _ h => h.elim, fun _ _ _ _ _ _ _ _ _ _ _ _ _ h => h.elim⟩
/-! ### fractions as pairs of whole numbers -/
def TQ (H : Hp) (v : V) (k : Nat) (z : Q2) : Prop := ∃ p, v = .ref p ∧ H p = some (.tup [.int z.1, .int z.2]) ∧ 0 < z.2 ∧ Sz k z.1 ∧ Sz k z.2
section
variable {H H' : Hp} {v : V} {k j : Nat} {z : Q2}
theorem TQ.same (a : TQ H v k z) (s : Same H H') : TQ H' v k z := by
  obtain ⟨p, h1, h2, h3⟩ := a
  exact ⟨p, h1, s _ _ h2, h3⟩
theorem TQ.nl (a : TQ H v k z) (s : Nl H H') : TQ H' v k z := by
  obtain ⟨p, h1, h2, h3⟩ := a
  exact ⟨p, h1, s _ _ h2 rfl, h3⟩
theorem TQ.kp {h : Addr} {n : Nat} (a : TQ H v k z) (hh : HandAt H h n) (s : Kp h H H') : TQ H' v k z := by
  obtain ⟨p, h1, h2, h3⟩ := a
  exact ⟨p, h1, s.get hh h2 rfl, h3⟩
theorem TQ.mono (a : TQ H v k z) (l : k ≤ j) : TQ H v j z := by
  obtain ⟨p, h1, h2, h3, h4, h5⟩ := a
  exact ⟨p, h1, h2, h3, h4.mono l, h5.mono l⟩
theorem TQ.pos (a : TQ H v k z) : 0 < z.2 := by
  obtain ⟨p, h1, h2, h3, h4, h5⟩ := a
  exact h3
theorem TQ.mk {p : Addr} {a b : Int} (h : H p = some (.tup [.int a, .int b])) (hb : 0 < b) (s1 : Sz k a) (s2 : Sz k b) : TQ H (.ref p) k (a, b) := ⟨p, rfl, h, hb, s1, s2⟩
end
structure Tqs (H : Hp) (k : Nat) (vs : List V) (zs : List Q2) : Prop where
  len : vs.length = zs.length
  all : ∀ (i : Nat) (v : V) (z : Q2), vs[i]? = some v → zs[i]? = some z → TQ H v k z
section
variable {H H' : Hp} {k j : Nat} {vs : List V} {zs : List Q2}
theorem Tqs.same (m : Tqs H k vs zs) (s : Same H H') : Tqs H' k vs zs := ⟨m.len, fun i v z h1 h2 => (m.all i v z h1 h2).same s⟩
theorem Tqs.nl (m : Tqs H k vs zs) (s : Nl H H') : Tqs H' k vs zs := ⟨m.len, fun i v z h1 h2 => (m.all i v z h1 h2).nl s⟩
theorem Tqs.kp {h : Addr} {n : Nat} (m : Tqs H k vs zs) (hh : HandAt H h n) (s : Kp h H H') : Tqs H' k vs zs := ⟨m.len, fun i v z h1 h2 => (m.all i v z h1 h2).kp hh s⟩
theorem Tqs.mono (m : Tqs H k vs zs) (l : k ≤ j) : Tqs H j vs zs := ⟨m.len, fun i v z h1 h2 => (m.all i v z h1 h2).mono l⟩
theorem Tqs.at (m : Tqs H k vs zs) {i : Nat} {z : Q2} (h : zs[i]? = some z) : ∃ v, vs[i]? = some v ∧ TQ H v k z := by
  have hi : i < vs.length := by rw [m.len]; exact (List.getElem?_eq_some_iff.mp h).1
  exact ⟨_, List.getElem?_eq_getElem hi, m.all i _ z (List.getElem?_eq_getElem hi) h⟩
theorem Tqs.of (m : Tqs H k vs zs) {i : Nat} {v : V} (h : vs[i]? = some v) : ∃ z, zs[i]? = some z ∧ TQ H v k z := by
  have hi : i < zs.length := by rw [← m.len]; exact (List.getElem?_eq_some_iff.mp h).1
  exact ⟨_, List.getElem?_eq_getElem hi, m.all i v _ h (List.getElem?_eq_getElem hi)⟩
theorem Tqs.snoc (m : Tqs H k vs zs) {v : V} {z : Q2} (t : TQ H v k z) : Tqs H k (vs ++ [v]) (zs ++ [z]) := by
  refine ⟨by rw [List.length_append, List.length_append, m.len]; rfl, fun i w y h1 h2 => ?_⟩
  by_cases hi : i < vs.length
  · rw [List.getElem?_append_left hi] at h1
    rw [List.getElem?_append_left (by rw [← m.len]; exact hi)] at h2
    exact m.all i w y h1 h2
  · have l1 := (List.getElem?_eq_some_iff.mp h1).1
    rw [List.length_append, List.length_singleton] at l1
    have e : i = vs.length := by omega
    rw [e, List.getElem?_append_right (Nat.le_refl _), Nat.sub_self] at h1
    rw [e, m.len, List.getElem?_append_right (Nat.le_refl _), Nat.sub_self] at h2
    cases h1; cases h2
    exact t
theorem Tqs.one {v : V} {z : Q2} (t : TQ H v k z) : Tqs H k [v] [z] := (⟨rfl, fun i w y h1 => by simp at h1⟩ : Tqs H k [] []).snoc t
theorem Tqs.cons (m : Tqs H k vs zs) {v : V} {z : Q2} (t : TQ H v k z) : Tqs H k (v :: vs) (z :: zs) := by
  refine ⟨by rw [List.length_cons, List.length_cons, m.len], fun i w y h1 h2 => ?_⟩
  cases i with
  | zero => cases h1; cases h2; exact t
  | succ i => exact m.all i w y (by simpa using h1) (by simpa using h2)
theorem Tqs.nil : Tqs H k [] [] := ⟨rfl, fun i w y h1 => by simp at h1⟩
theorem Mks.mono {C : Addr} {ps : List V} (m : Mks C H k ps zs) (l : k ≤ j) : Mks C H j ps zs := ⟨m.len, fun i v z h1 h2 => by
  obtain ⟨p, e, q⟩ := m.all i v z h1 h2
  exact ⟨p, e, q.mono l⟩⟩
theorem QO.mono {C : Addr} {v : V} (l : k ≤ j) : ∀ {e : Option Q2}, QO C H k v e → QO C H j v e
  | none, h => h
  | some _, ⟨p, h1, h2⟩ => ⟨p, h1, h2.mono l⟩
end
theorem rise_snocQ {zs : List Q2} {x : Q2} (h : RiseQ zs) (hx : ∀ n a, zs[n]? = some a → n + 1 = zs.length → ltq a x = true) : RiseQ (zs ++ [x]) := by
  intro i a b ha hb
  have l1 := (List.getElem?_eq_some_iff.mp hb).1
  rw [List.length_append, List.length_singleton] at l1
  rw [List.getElem?_append_left (by omega)] at ha
  by_cases hi : i + 1 < zs.length
  · rw [List.getElem?_append_left hi] at hb
    exact h i a b ha hb
  · have e : i + 1 = zs.length := by omega
    rw [e, List.getElem?_append_right (Nat.le_refl _), Nat.sub_self] at hb
    have eb : x = b := by simpa using hb
    rw [← eb]
    exact hx i a ha e
theorem ltq_more {x y : Q2} (hx : 0 < x.2) (hy : 0 < y.2) (h : 0 < y.1) : ltq x (qadd x y) = true := by
  unfold ltq qadd
  refine decide_eq_true ?_
  show x.1 * (x.2 * y.2) < (x.1 * y.2 + y.1 * x.2) * x.2
  have e : (x.1 * y.2 + y.1 * x.2) * x.2 = x.1 * (x.2 * y.2) + y.1 * (x.2 * x.2) := by grind
  have := Int.mul_pos h (Int.mul_pos hx hx)
  omega
theorem ltq_moreR {x y z : Q2} (hx : 0 < x.2) (hy : 0 < y.2) (h : 0 < y.1) (r : Re z (qadd x y)) : ltq x z = true := by
  rw [ltq_congr (Re.refl hx) r]
  exact ltq_more hx hy h
theorem Re.pos1 {z w : Q2} (r : Re z w) (h : 0 < w.1) : 0 < z.1 := by
  obtain ⟨h1, h2, e⟩ := r
  have p : 0 < w.1 * z.2 := Int.mul_pos h h1
  rw [← e] at p
  exact Int.pos_of_mul_pos_left p h2 |> fun q => q
theorem leq_not {a b : Q2} : leq a b = !ltq b a := by
  unfold leq ltq eqq
  rw [← Bool.decide_or, ← decide_not]
  exact decide_eq_decide.mpr ⟨fun h => by omega, fun h => by omega⟩
theorem leq_congr {a b c d : Q2} (h : Re a c) (g : Re b d) : leq a b = leq c d := by rw [leq_not, leq_not, ltq_congr g h]
theorem span_leq (a b : Q2) : spanB (some a) (some b) = (ltq a b || eqq a b) := by
  show (!ltq b a) = leq a b
  rw [leq_not]
/-! ### what the defs of pairs promise -/
def sp_plain : Sp := fun vs H Q _ => ∃ (a b : Int) (k : Nat), vs = [.int a, .int b] ∧ 0 < b ∧ Sz k a ∧ Sz k b ∧ 0 < k ∧ k ≤ 8000 ∧ ∀ (v : V) (z : Q2) (H' : Hp), Same H H' → TQ H' v k z → Re z (a, b) → Q v H'
def sp_sum : Sp := fun vs H Q _ => ∃ (v w : V) (k j : Nat) (x y : Q2), vs = [v, w] ∧ TQ H v k x ∧ TQ H w j y ∧ 0 < k ∧ 0 < j ∧ k + j < 8000 ∧ ∀ (v' : V) (z : Q2) (H' : Hp), Same H H' → TQ H' v' (k + j + 1) z → Re z (qadd x y) → Q v' H'
def sp_less : Sp := fun vs H Q _ => ∃ (v w : V) (k j : Nat) (x y : Q2), vs = [v, w] ∧ TQ H v k x ∧ TQ H w j y ∧ 0 < k ∧ 0 < j ∧ k + j < 9000 ∧ Q (.bl (ltq x y)) H
def sp_meass (K : PySem.W.Frag) (CM : Addr) : Sp := fun vs H Q _ => ∃ (p : Addr) (k : Nat) (us : List V) (zs : List Q2), vs = [.ref p] ∧ (SqL K H p us ∨ SqT K H p us) ∧ Tqs H k us zs ∧ 0 < k ∧ k ≤ 4000 ∧ zs.length ≤ 24 ∧
  ∀ (T : Addr) (ps : List V) (H' : Hp), Same H H' → H' T = some (.tup ps) → Mks CM H' k ps zs → Q (.ref T) H'
def sp_lpart : Sp := fun vs H Q _ => ∃ (h : Addr) (n : Nat), vs = [.ref h] ∧ HandAt H h n ∧ n < 90000 ∧ ∀ (v : V) (z : Q2) (H' : Hp), HandAt H' h (n + 2) → Kp h H H' → TQ H' v 20 z → 0 < z.1 → Q v H'
def sp_marks : Sp := fun vs H Q _ => ∃ (h : Addr) (n m : Nat), vs = [.ref h, .int m] ∧ HandAt H h n ∧ n < 10000 ∧ 0 < m ∧ m ≤ 24 ∧
  ∀ (l : Addr) (us : List V) (zs : List Q2) (H' : Hp), HandAt H' h (n + 60) → Kp h H H' → l ≠ h → H' l = some (.lst us) → Tqs H' (12 + 21 * m) us zs → 0 < zs.length → zs.length ≤ m → RiseQ zs → Q (.ref l) H'
def sp_anyl (K : PySem.W.Frag) (CM CL : Addr) : Sp := fun vs H Q _ => ∃ (h l : Addr) (n k : Nat) (us : List V) (zs : List Q2), vs = [.ref h, .ref l] ∧ HandAt H h n ∧ n < 10000 ∧ l ≠ h ∧ H l = some (.lst us) ∧ Tqs H k us zs ∧ 0 < k ∧ k ≤ 1000 ∧ 0 < zs.length ∧ zs.length ≤ 24 ∧ RiseQ zs ∧
  ∀ (p : Addr) (r : Str) (lo hi : Option Q2) (H' : Hp), HandAt H' h (n + 3) → Kp h H H' → LadAt K CM CL H' p (k + 4) zs r lo hi → Q (.ref p) H'
/-- None, or a Measure, or another one where it is None -/
def sp_mor (CM : Addr) : Sp := fun vs H Q _ => ∃ (v : V) (k : Nat) (e : Option Q2), vs = [v, .int 0] ∧ QO CM H k v e ∧ 0 < k ∧ k ≤ 8000 ∧ ∀ (p : Addr) (H' : Hp), Same H H' → QAt CM H' p k (e.getD (0, 1)) → Q (.ref p) H'
def sp_span (CM : Addr) : Sp := fun vs H Q _ => ∃ (l h : V) (k : Nat) (lo hi : Option Q2), vs = [l, h] ∧ QO CM H k l lo ∧ QO CM H k h hi ∧ k ≤ 9000 ∧ Q (.bl (spanB lo hi)) H
/-- the numbers of the marks that fit -/
def fitQ (zs : List Q2) (x s t : Q2) : Nat → Bool := fun i => match zs[i]? with
  | some a => leq (qsub x t) a && leq a (qadd x s)
  | none => false
def sp_fits (K : PySem.W.Frag) (CM CL : Addr) : Sp := fun vs H Q _ => ∃ (p q s : Addr) (t : V) (k j : Nat) (zs : List Q2) (r : Str) (lo hi : Option Q2) (x y : Q2) (e : Option Q2), vs = [.ref p, .ref q, .ref s, t] ∧ LadAt K CM CL H p k zs r lo hi ∧ QAt CM H q j x ∧ QAt CM H s j y ∧ QO CM H j t e ∧ 0 < k ∧ 0 < j ∧ k ≤ 4000 ∧ j ≤ 4000 ∧
  ∀ (T : Addr) (H' : Hp), Same H H' → H' T = some (.tup ((idx zs.length (fitQ zs x y (e.getD (0, 1)))).map V.int)) → Q (.ref T) H'
theorem rise_ltq {zs : List Q2} (h : RiseQ zs) (hp : ∀ z ∈ zs, 0 < z.2) : ∀ {j i : Nat} {a b : Q2}, i < j → zs[i]? = some a → zs[j]? = some b → ltq a b = true
  | 0, _, _, _, hi, _, _ => by omega
  | j + 1, i, a, b, hi, ha, hb => by
    obtain ⟨c, hc⟩ := ge2 (zs := zs) (n := j) (by have := (List.getElem?_eq_some_iff.mp hb).1; omega)
    have h1 := h j c b hc hb
    by_cases e : i = j
    · subst e
      rw [ha] at hc
      cases hc
      exact h1
    · exact ltq_trans (hp c (List.mem_of_getElem? hc)) (hp a (List.mem_of_getElem? ha)) (hp b (List.mem_of_getElem? hb)) (rise_ltq h hp (show i < j by omega) ha hc) h1
theorem ltq_asymm {a b : Q2} (h : ltq a b = true) : ltq b a = false := by
  have := of_decide_eq_true h
  exact decide_eq_false (by omega)
theorem ltq_irrefl (a : Q2) : ltq a a = false := decide_eq_false (by omega)
theorem Tqs.posL {H : Hp} {k : Nat} {vs : List V} {zs : List Q2} (m : Tqs H k vs zs) : ∀ z ∈ zs, 0 < z.2 := fun z hz => by
  obtain ⟨i, hi⟩ := List.mem_iff_getElem?.mp hz
  obtain ⟨v, _, t⟩ := m.at hi
  exact t.pos
theorem rise_ends {zs : List Q2} (h : RiseQ zs) (hp : ∀ z ∈ zs, 0 < z.2) {a b : Q2} {n : Nat} (h0 : zs[0]? = some a) (h1 : zs[n]? = some b) : ltq b a = false := by
  cases n with
  | zero =>
    rw [h0] at h1
    cases h1
    exact ltq_irrefl a
  | succ n => exact ltq_asymm (rise_ltq h hp (Nat.succ_pos n) h0 h1)
theorem ltq_notlt {a b c : Q2} (ha : 0 < a.2) (hb : 0 < b.2) (hc : 0 < c.2) (h1 : ltq a c = false) (h2 : ltq a b = true) : ltq b c = false := by
  cases e : ltq b c with
  | false => rfl
  | true =>
    rw [ltq_trans hb ha hc h2 e] at h1
    cases h1
/-- None, or a pair -/
def TOq (H : Hp) (k : Nat) (v : V) : Option Q2 → Prop
  | none => v = .non
  | some z => TQ H v k z
theorem TOq.same {H H' : Hp} {k : Nat} {v : V} : ∀ {e : Option Q2}, TOq H k v e → Same H H' → TOq H' k v e
  | none, h, _ => h
  | some _, h, s => TQ.same h s
theorem TOq.kp {H H' : Hp} {k n : Nat} {h : Addr} {v : V} : ∀ {e : Option Q2}, TOq H k v e → HandAt H h n → Kp h H H' → TOq H' k v e
  | none, h, _, _ => h
  | some _, h, hh, s => TQ.kp h hh s
theorem QO.nl {C : Addr} {H H' : Hp} {k : Nat} {v : V} (s : Nl H H') : ∀ {e : Option Q2}, QO C H k v e → QO C H' k v e
  | none, h => h
  | some _, ⟨p, h1, h2⟩ => ⟨p, h1, h2.nl s⟩
theorem geV {n : Nat} {xs : List V} (h : n < xs.length) : ∃ a, xs[n]? = some a := ⟨_, List.getElem?_eq_getElem h⟩
theorem sqt_kp {K : PySem.W.Frag} {H H' : Hp} {h a : Addr} {n : Nat} {xs : List V} (s : SqT K H a xs) (hh : HandAt H h n) (k : Kp h H H') : SqT K H' a xs := by
  rcases s with (s | ⟨o, s⟩) | s
  · exact .inl (.inl (k.get hh s rfl))
  · exact .inl (.inr ⟨o, k.get hh s rfl⟩)
  · exact .inr s
theorem LadAt.kp {K : PySem.W.Frag} {CM CL p h : Addr} {H H' : Hp} {k n : Nat} {zs : List Q2} {r : Str} {lo hi : Option Q2} (a : LadAt K CM CL H p k zs r lo hi) (hh : HandAt H h n) (s : Kp h H H') : LadAt K CM CL H' p k zs r lo hi := by
  obtain ⟨⟨dx, T, ps, l, u, h1, h2, h3, h4, h5⟩, a1, a2, a3, a4, a5⟩ := a
  exact ⟨⟨dx, T, ps, l, u, s.get hh h1 rfl, sqt_kp h2 hh s, h3.kp hh s, h4.kp hh s, h5.kp hh s⟩, a1, a2, a3, a4, a5⟩
end My
namespace My
open PySem PySem.Spec PyProof.Rows L2
/-! ### comprehensions that draw -/
theorem Kp.nlh {h : Addr} {H H' : Hp} {n : Nat} (k : Kp h H H') (hh : HandAt H h n) : Nl H H' := fun c o e no => k c o e (hh.apart e no)
/-! ### things that are the same, one within another -/
def AtomV (x : V) : Prop := (∃ z : Int, x = .int z) ∨ (∃ s : Str, x = .str s) ∨ x = .non ∨ ∃ b : Bool, x = .bl b
def SameV (K : PySem.W.Frag) (H : Hp) : Nat → V → V → Prop
  | 0, x, y => x = y ∧ AtomV x
  | n + 1, x, y => (x = y ∧ AtomV x) ∨ ∃ p q xs ys, x = .ref p ∧ y = .ref q ∧ SqT K H p xs ∧ SqT K H q ys ∧ xs.length = ys.length ∧ xs.length ≤ 900 ∧ ∀ (i : Nat) (a b : V), xs[i]? = some a → ys[i]? = some b → SameV K H n a b
theorem SameV.same {K : PySem.W.Frag} {H H' : Hp} (s : Same H H') : ∀ {n : Nat} {x y : V}, SameV K H n x y → SameV K H' n x y
  | 0, _, _, h => h
  | n + 1, _, _, .inl h => .inl h
  | n + 1, _, _, .inr ⟨p, q, xs, ys, h1, h2, h3, h4, h5, h6, h7⟩ => .inr ⟨p, q, xs, ys, h1, h2, s.sqt h3, s.sqt h4, h5, h6, fun i a b ha hb => SameV.same s (h7 i a b ha hb)⟩
theorem SameV.atom {K : PySem.W.Frag} {H : Hp} {x : V} (a : AtomV x) : ∀ n, SameV K H n x x
  | 0 => ⟨rfl, a⟩
  | _ + 1 => .inl ⟨rfl, a⟩
theorem SameV.ints {K : PySem.W.Frag} {H : Hp} {p q : Addr} {ss : List Int} (n : Nat) (hp : SqT K H p (ss.map V.int)) (hq : SqT K H q (ss.map V.int)) (l : ss.length ≤ 900) : SameV K H (n + 1) (.ref p) (.ref q) :=
  .inr ⟨p, q, _, _, rfl, rfl, hp, hq, rfl, by rw [List.length_map]; exact l, fun i a b ha hb => by
    rw [ha] at hb
    cases hb
    obtain ⟨s, _, rfl⟩ := List.mem_map.mp (List.mem_of_getElem? ha)
    exact SameV.atom (.inl ⟨s, rfl⟩) n⟩
def sp_sameN (K : PySem.W.Frag) (n : Nat) : Sp := fun vs H Q _ => ∃ x y : V, vs = [x, y] ∧ SameV K H n x y ∧ ∀ H', Same H H' → Q (.bl true) H'
/-! ### a Grid -/
def gf (a b c : V) : List (Str × V) := [("lengths", a), ("breadths", b), ("grade", c)]
theorem gf_put (a b c : V) : putF "grade" c (putF "breadths" b (putF "lengths" a [])) = gf a b c := by
  have e1 : putF ("breadths" : Str) b (putF ("lengths" : Str) a []) = ([("lengths", a), ("breadths", b)] : List (Str × V)) := by
    show (if ("lengths" : Str) = "breadths" then [(("lengths" : Str), b)] else (("lengths" : Str), a) :: putF "breadths" b []) = _
    rw [if_neg (by decide +kernel)] <;> rfl
  have e2 : putF ("grade" : Str) c [("lengths", a), ("breadths", b)] = gf a b c := by
    show (if ("lengths" : Str) = "grade" then _ else (("lengths" : Str), a) :: (if ("breadths" : Str) = "grade" then _ else (("breadths" : Str), b) :: putF "grade" c [])) = _
    rw [if_neg (by decide +kernel), if_neg (by decide +kernel)] <;> rfl
  rw [e1, e2]
section
variable (a b c : V)
theorem gf_lengths : (gf a b c).lookup ("lengths" : Str) = some a := by
  rw [← gf_put, lookup_putF, if_neg (by decide +kernel), lookup_putF, if_neg (by decide +kernel), lookup_putF, if_pos rfl]
theorem gf_breadths : (gf a b c).lookup ("breadths" : Str) = some b := by
  rw [← gf_put, lookup_putF, if_neg (by decide +kernel), lookup_putF, if_pos rfl]
theorem gf_grade : (gf a b c).lookup ("grade" : Str) = some c := by
  rw [← gf_put, lookup_putF, if_pos rfl]
end
/-- a ladder, whatever its rule and ends -/
def LadE (K : PySem.W.Frag) (CM CL : Addr) (H : Hp) (p : Addr) (k : Nat) (zs : List Q2) : Prop := ∃ r lo hi, LadAt K CM CL H p k zs r lo hi
structure GrdAt (K : PySem.W.Frag) (CM CL CG : Addr) (H : Hp) (p : Addr) (k : Nat) (L1 L2 : Addr) (g : Q2) : Prop where
  ob : ∃ dx q, H p = some (.ins CG dx (gf (.ref L1) (.ref L2) (.ref q))) ∧ QAt CM H q k g
theorem GrdAt.same {K : PySem.W.Frag} {CM CL CG : Addr} {H H' : Hp} {p : Addr} {k : Nat} {L1 L2 : Addr} {g : Q2} (a : GrdAt K CM CL CG H p k L1 L2 g) (s : Same H H') : GrdAt K CM CL CG H' p k L1 L2 g := by
  obtain ⟨dx, q, h1, h2⟩ := a.ob
  exact ⟨dx, q, s _ _ h1, h2.same s⟩
theorem GrdAt.kp {K : PySem.W.Frag} {CM CL CG : Addr} {H H' : Hp} {p h : Addr} {k n : Nat} {L1 L2 : Addr} {g : Q2} (a : GrdAt K CM CL CG H p k L1 L2 g) (hh : HandAt H h n) (s : Kp h H H') : GrdAt K CM CL CG H' p k L1 L2 g := by
  obtain ⟨dx, q, h1, h2⟩ := a.ob
  exact ⟨dx, q, s.get hh h1 rfl, h2.kp hh s⟩
/-! ### the laws' sides of a grid -/
structure SidesAt (H : Hp) (h p : Addr) (k : Nat) (zs ys : List Q2) (g : Q2) : Prop where
  ob : ∃ l1 l2 v us ws, H p = some (.lst [.ref l1, .ref l2, v]) ∧ H l1 = some (.lst us) ∧ H l2 = some (.lst ws) ∧ Tqs H k us zs ∧ Tqs H k ws ys ∧ TQ H v 20 g ∧ p ≠ h ∧ l1 ≠ h ∧ l2 ≠ h
  l0 : 0 < zs.length
  l1 : zs.length ≤ 8
  m0 : 0 < ys.length
  m1 : ys.length ≤ 8
theorem SidesAt.same {H H' : Hp} {h p : Addr} {k : Nat} {zs ys : List Q2} {g : Q2} (a : SidesAt H h p k zs ys g) (s : Same H H') : SidesAt H' h p k zs ys g := by
  obtain ⟨⟨l1, l2, v, us, ws, a1, a2, a3, a4, a5, a6, a7⟩, b1, b2, b3, b4⟩ := a
  exact ⟨⟨l1, l2, v, us, ws, s _ _ a1, s _ _ a2, s _ _ a3, a4.same s, a5.same s, a6.same s, a7⟩, b1, b2, b3, b4⟩
theorem SidesAt.kp {H H' : Hp} {h p : Addr} {k n : Nat} {zs ys : List Q2} {g : Q2} (a : SidesAt H h p k zs ys g) (hh : HandAt H h n) (s : Kp h H H') : SidesAt H' h p k zs ys g := by
  obtain ⟨⟨l1, l2, v, us, ws, a1, a2, a3, a4, a5, a6, a7, a8, a9⟩, b1, b2, b3, b4⟩ := a
  exact ⟨⟨l1, l2, v, us, ws, s _ _ a1 a7, s _ _ a2 a8, s _ _ a3 a9, a4.kp hh s, a5.kp hh s, a6.kp hh s, a7, a8, a9⟩, b1, b2, b3, b4⟩
theorem sqt_nl {K : PySem.W.Frag} {H H' : Hp} {a : Addr} {xs : List V} (s : SqT K H a xs) (k : Nl H H') : SqT K H' a xs := by
  rcases s with (s | ⟨o, s⟩) | s
  · exact .inl (.inl (k _ _ s rfl))
  · exact .inl (.inr ⟨o, k _ _ s rfl⟩)
  · exact .inr s
end My
namespace My
open PySem PySem.Spec PyProof.Rows L2
/-! ### sizes by fractions -/
/-- f holds of the first ones alone -/
def DownQ (f : Q2 → Bool) (zs : List Q2) : Prop := ∀ (i j : Nat) (a b : Q2), i < j → zs[i]? = some a → zs[j]? = some b → f b = true → f a = true
theorem DownQ.tail {f : Q2 → Bool} {x : Q2} {zs : List Q2} (h : DownQ f (x :: zs)) : DownQ f zs := fun i j a b hij ha hb hf => h (i + 1) (j + 1) a b (by omega) (by simpa using ha) (by simpa using hb) hf
section
variable {zs : List Q2} {r : Str} {lo hi : Option Q2} {x : Q2}
end
end My
namespace My
open PySem PySem.Spec PyProof.Rows L2
/-! ### what stood ahead, wanted at a later heap: the step first -/
section
variable {K : PySem.W.Frag} {C CM CL CG p q h a L1 L2 : Addr} {H H' H1 : Hp} {v : V} {k j n : Nat} {z : Q2} {vs : List V} {zs ys : List Q2} {o : HO} {e : Option Q2} {r : Str} {lo hi : Option Q2}
theorem TQ.s (s : Same H H') (t : TQ H v k z) : TQ H' v k z := t.same s
theorem TQ.kq (s : Kp h H H') (hh : HandAt H h n) (t : TQ H v k z) : TQ H' v k z := t.kp hh s
theorem TQ.nq (s : Nl H H') (t : TQ H v k z) : TQ H' v k z := t.nl s
theorem Tqs.s (s : Same H H') (t : Tqs H k vs zs) : Tqs H' k vs zs := t.same s
theorem Tqs.kq (s : Kp h H H') (hh : HandAt H h n) (t : Tqs H k vs zs) : Tqs H' k vs zs := t.kp hh s
theorem QAt.s (s : Same H H') (t : QAt C H p k z) : QAt C H' p k z := t.same s
theorem QAt.kq (s : Kp h H H') (hh : HandAt H h n) (t : QAt C H p k z) : QAt C H' p k z := t.kp hh s
theorem Mks.s (s : Same H H') (t : Mks C H k vs zs) : Mks C H' k vs zs := t.same s
theorem Mks.kq (s : Kp h H H') (hh : HandAt H h n) (t : Mks C H k vs zs) : Mks C H' k vs zs := t.kp hh s
theorem QO.s (s : Same H H') (t : QO C H k v e) : QO C H' k v e := t.same s
theorem QO.kq (s : Kp h H H') (hh : HandAt H h n) (t : QO C H k v e) : QO C H' k v e := t.kp hh s
theorem TOq.s (s : Same H H') (t : TOq H k v e) : TOq H' k v e := t.same s
theorem TOq.kq (s : Kp h H H') (hh : HandAt H h n) (t : TOq H k v e) : TOq H' k v e := t.kp hh s
theorem TOq.mono (l : k ≤ j) : ∀ {e : Option Q2}, TOq H k v e → TOq H j v e
  | none, h => h
  | some _, h => TQ.mono h l
theorem LadAt.s (s : Same H H') (t : LadAt K CM CL H p k zs r lo hi) : LadAt K CM CL H' p k zs r lo hi := t.same s
theorem LadAt.kq (s : Kp h H H') (hh : HandAt H h n) (t : LadAt K CM CL H p k zs r lo hi) : LadAt K CM CL H' p k zs r lo hi := t.kp hh s
theorem LadAt.mono (t : LadAt K CM CL H p k zs r lo hi) (l : k ≤ j) : LadAt K CM CL H p j zs r lo hi := by
  obtain ⟨⟨dx, T, ps, u, w, h1, h2, h3, h4, h5⟩, a1, a2, a3, a4, a5⟩ := t
  exact ⟨⟨dx, T, ps, u, w, h1, h2, h3.mono l, h4.mono l, h5.mono l⟩, a1, a2, a3, a4, a5⟩
theorem GrdAt.s (s : Same H H') (t : GrdAt K CM CL CG H p k L1 L2 z) : GrdAt K CM CL CG H' p k L1 L2 z := t.same s
theorem GrdAt.kq (s : Kp h H H') (hh : HandAt H h n) (t : GrdAt K CM CL CG H p k L1 L2 z) : GrdAt K CM CL CG H' p k L1 L2 z := t.kp hh s
theorem SidesAt.s (s : Same H H') (t : SidesAt H h p k zs ys z) : SidesAt H' h p k zs ys z := t.same s
theorem SidesAt.kq (s : Kp h H H') (hh : HandAt H h n) (t : SidesAt H h p k zs ys z) : SidesAt H' h p k zs ys z := t.kp hh s
theorem HandAt.s (s : Same H H') (t : HandAt H h n) : HandAt H' h n := t.same s
theorem sqt_s (s : Same H H') (t : SqT K H a vs) : SqT K H' a vs := s.sqt t
theorem sqt_k (s : Kp h H H') (hh : HandAt H h n) (t : SqT K H a vs) : SqT K H' a vs := sqt_kp t hh s
theorem sql_s (s : Same H H') (t : SqL K H a vs) : SqL K H' a vs := s.seq t
theorem sql_k (s : Kp h H H') (ne : a ≠ h) (t : SqL K H a vs) : SqL K H' a vs := s.seq ne t
theorem hp_u {u : HO} {b : Addr} (np : H b = none) (t : H p = some o) : upd H b u p = some o := My.up1 np t
theorem hp_s (s : Same H H') (t : H p = some o) : H' p = some o := s _ _ t
theorem hp_k (s : Kp h H H') (hh : HandAt H h n) (no : notHand o = true) (t : H p = some o) : H' p = some o := s.get hh t no
theorem hp_l (s : Kp h H H') (ne : p ≠ h) (t : H p = some o) : H' p = some o := s _ _ t ne
theorem TQ.u {u : HO} {b : Addr} (np : H b = none) (t : TQ H v k z) : TQ (upd H b u) v k z := t.same (same1 np)
theorem Tqs.u {u : HO} {b : Addr} (np : H b = none) (t : Tqs H k vs zs) : Tqs (upd H b u) k vs zs := t.same (same1 np)
theorem QAt.u {u : HO} {b : Addr} (np : H b = none) (t : QAt C H p k z) : QAt C (upd H b u) p k z := t.same (same1 np)
theorem Mks.u {u : HO} {b : Addr} (np : H b = none) (t : Mks C H k vs zs) : Mks C (upd H b u) k vs zs := t.same (same1 np)
theorem QO.u {u : HO} {b : Addr} (np : H b = none) (t : QO C H k v e) : QO C (upd H b u) k v e := t.same (same1 np)
theorem TOq.u {u : HO} {b : Addr} (np : H b = none) (t : TOq H k v e) : TOq (upd H b u) k v e := t.same (same1 np)
theorem LadAt.u {u : HO} {b : Addr} (np : H b = none) (t : LadAt K CM CL H p k zs r lo hi) : LadAt K CM CL (upd H b u) p k zs r lo hi := t.same (same1 np)
theorem GrdAt.u {u : HO} {b : Addr} (np : H b = none) (t : GrdAt K CM CL CG H p k L1 L2 z) : GrdAt K CM CL CG (upd H b u) p k L1 L2 z := t.same (same1 np)
theorem SidesAt.u {u : HO} {b : Addr} (np : H b = none) (t : SidesAt H h p k zs ys z) : SidesAt (upd H b u) h p k zs ys z := t.same (same1 np)
theorem HandAt.u {u : HO} {b : Addr} (np : H b = none) (t : HandAt H h n) : HandAt (upd H b u) h n := t.same (same1 np)
theorem sqt_u {u : HO} {b : Addr} (np : H b = none) (t : SqT K H a vs) : SqT K (upd H b u) a vs := (same1 np).sqt t
theorem sql_u {u : HO} {b : Addr} (np : H b = none) (t : SqL K H a vs) : SqL K (upd H b u) a vs := (same1 np).seq t
theorem QO.monoR (t : QO C H k v e) (l : k ≤ j) : QO C H j v e := QO.mono l t
theorem TOq.monoR (t : TOq H k v e) (l : k ≤ j) : TOq H j v e := TOq.mono l t
theorem hand_ne (np : H p = none) (a : HandAt H h n) : p ≠ h := a.ne np
theorem same_k (k : Kp h H1 H') (nh : H h = none) (s : Same H H1) : Same H H' := s.ofKp nh k
end
theorem TQ.lit {H : Hp} {p : Addr} {a b : Int} (h : H p = some (.tup [.int a, .int b])) (hb : 0 < b) (s1 : Sz 31 a) (s2 : Sz 31 b) : TQ H (.ref p) 31 (a, b) := ⟨p, rfl, h, hb, s1, s2⟩
theorem eqv_nil : PyData.eqv (.list (([] : List Int).map PyData.int)) (.list []) = true := by
  simp [PyData.eqv, PyData.eqvAll]
theorem dpL {K : PySem.W.Frag} {H : Hp} {p : Addr} {zs : List Int} (h : H p = some (.lst (zs.map V.int))) : Dp K H (.ref p) (.list (zs.map PyData.int)) := .lst (SqL.of h) (dpI zs)
theorem layI : ∀ zs : List Int, PyData.canLayAll0 (zs.map PyData.int) = true
  | [] => rfl
  | z :: zs => by
    show (true && PyData.canLayAll0 (zs.map PyData.int)) = true
    rw [layI zs]; rfl
theorem shL (zs : List Int) : SeqAt.shaped (.list (zs.map PyData.int)) = true := by
  have h := ints_depth zs
  have e1 : (PyData.list (zs.map PyData.int)).depth ≤ 64 := by
    show PyData.depthAll (zs.map PyData.int) + 1 ≤ 64
    omega
  have e2 : (PyData.list (zs.map PyData.int)).canLay0 = true := layI zs
  unfold SeqAt.shaped
  rw [e2, decide_eq_true e1]
  rfl
/-- each of these values is a fraction -/
def AllTQ (H : Hp) (k : Nat) (vs : List V) : Prop := ∀ x ∈ vs, ∃ z, TQ H x k z
theorem AllTQ.nil {H : Hp} {k : Nat} : AllTQ H k [] := fun x hx => by simp at hx
theorem AllTQ.cons {H : Hp} {k : Nat} {v : V} {z : Q2} {vs : List V} (t : TQ H v k z) (m : AllTQ H k vs) : AllTQ H k (v :: vs) := fun x hx => by
  rcases List.mem_cons.mp hx with e | e
  · rw [e]; exact ⟨z, t⟩
  · exact m x e
theorem AllTQ.app {H : Hp} {k : Nat} {vs ws : List V} (m : AllTQ H k vs) (m' : AllTQ H k ws) : AllTQ H k (vs ++ ws) := fun x hx => by
  rcases List.mem_append.mp hx with e | e
  · exact m x e
  · exact m' x e
theorem of_tq {K : PySem.W.Frag} {H : Hp} {Q : VK} {E : XK} {h l : Addr} {n k : Nat} {xs : List V} (hh : HandAt H h n) (hn : n < 100000) (hl : SqL K H l xs) (ne : l ≠ h) (l0 : 0 < xs.length) (l1 : xs.length ≤ 1000) (all : AllTQ H k xs)
    (f : ∀ (v : V) (z : Q2) (H' : Hp), HandAt H' h (n + 1) → Kp h H H' → TQ H' v k z → Q v H') : sp_of K [.ref h, .ref l] H Q E :=
  ⟨h, l, n, xs, rfl, hh, hn, hl, ne, l0, l1, fun i x H' hx hh' k' => by
    obtain ⟨z, t⟩ := all x (List.mem_of_getElem? hx)
    exact f x z H' hh' k' (t.kp hh k')⟩
/-! ### a rule, a least and a most, as the laws draw them in fractions -/
structure ChartAt (H : Hp) (T : Addr) (k : Nat) (r : Str) (lo hi : Option Q2) : Prop where
  ob : ∃ u w, H T = some (.tup [.str r, u, w]) ∧ TOq H k u lo ∧ TOq H k w hi
  rule : IsRule r
  span : spanB lo hi = true
section
variable {H H' : Hp} {T h : Addr} {k n : Nat} {r : Str} {lo hi : Option Q2}
theorem ChartAt.same (c : ChartAt H T k r lo hi) (s : Same H H') : ChartAt H' T k r lo hi := by
  obtain ⟨⟨u, w, h1, h2, h3⟩, h4, h5⟩ := c
  exact ⟨⟨u, w, s _ _ h1, h2.same s, h3.same s⟩, h4, h5⟩
theorem ChartAt.kp (c : ChartAt H T k r lo hi) (hh : HandAt H h n) (s : Kp h H H') : ChartAt H' T k r lo hi := by
  obtain ⟨⟨u, w, h1, h2, h3⟩, h4, h5⟩ := c
  exact ⟨⟨u, w, s.get hh h1 rfl, h2.kp hh s, h3.kp hh s⟩, h4, h5⟩
theorem ChartAt.u {u : HO} {b : Addr} (np : H b = none) (c : ChartAt H T k r lo hi) : ChartAt (upd H b u) T k r lo hi := c.same (same1 np)
theorem ChartAt.s (s : Same H H') (c : ChartAt H T k r lo hi) : ChartAt H' T k r lo hi := c.same s
theorem ChartAt.kq (s : Kp h H H') (hh : HandAt H h n) (c : ChartAt H T k r lo hi) : ChartAt H' T k r lo hi := c.kp hh s
end
/-- a pair of sizes, or None -/
def OwnV (H : Hp) (v : V) : Option (Nat × Nat) → Prop
  | none => v = .non
  | some x => ∃ T, v = .ref T ∧ H T = some (.tup [.int (x.1 : Int), .int (x.2 : Int)])
theorem OwnV.s {H H' : Hp} {v : V} (s : Same H H') : ∀ {o : Option (Nat × Nat)}, OwnV H v o → OwnV H' v o
  | none, h => h
  | some _, ⟨T, h1, h2⟩ => ⟨T, h1, s _ _ h2⟩
theorem OwnV.alike {K : PySem.W.Frag} {H : Hp} {v w : V} : ∀ {o : Option (Nat × Nat)}, OwnV H v o → OwnV H w o → SameV K H 1 v w
  | none, h, g => by
    cases h; cases g
    exact SameV.atom (.inr (.inr (.inl rfl))) 1
  | some x, ⟨T, h1, h2⟩, ⟨T', g1, g2⟩ => by
    subst h1 g1
    exact SameV.ints (ss := [(x.1 : Int), (x.2 : Int)]) 0 (SqT.of h2) (SqT.of g2) (Nat.le_of_ble_eq_true rfl)
/-! ### the numbers of the marks, first and last -/
end My
namespace My
open PySem PySem.Spec PyProof.Rows L2
/-! ### cuts of three stretches -/
theorem Alike.of {x y : Q2} {i j : Bool} (h : Re x y) (e : i = j) : Alike (some x, i) (some y, j) := ⟨h, fun _ => e⟩
theorem Alike.refl {x : Option Q2 × Bool} (h : PosO x.1) : Alike x x := ⟨ReO.refl h, fun _ => rfl⟩
theorem Alike.symm {x y : Option Q2 × Bool} (h : Alike x y) : Alike y x := ⟨h.1.symm, fun e => (h.2 (by rw [h.1.isS]; exact e)).symm⟩

/-- a Measure whose numbers are not too great -/
def PtM (CM : Addr) (H : Hp) (y : V) : Prop := ∃ (q : Addr) (x : Q2), y = .ref q ∧ MAt CM H q x.1 x.2 ∧ 0 < x.2 ∧ Sz 20000 x.1 ∧ Sz 20000 x.2
theorem PtM.nl {CM : Addr} {H H' : Hp} {y : V} (h : PtM CM H y) (s : Nl H H') : PtM CM H' y := by
  obtain ⟨q, x, e, ⟨d, m⟩, r⟩ := h
  exact ⟨q, x, e, ⟨d, s _ _ m rfl⟩, r⟩
theorem PtM.same {CM : Addr} {H H' : Hp} {y : V} (h : PtM CM H y) (s : Same H H') : PtM CM H' y := h.nl (Nl.of s)
end My
namespace My
open PySem PySem.Spec PyProof.Rows L2
/-! ### which measures a size's stretch holds -/
/-- whether there is such a stretch -/
def sizB (zs : List Q2) (r : Str) (lo hi : Option Q2) (n : Nat) : Bool := someB (sizE zs r lo hi n).1.1 (sizE zs r lo hi n).2.1 (sizE zs r lo hi n).1.2 (sizE zs r lo hi n).2.2
end My
namespace My
open PySem PySem.Spec PyProof.Rows L2
/-! ### lists of numbers -/
theorem idx_none {n : Nat} {c : Nat → Bool} (h : ∀ i, i < n → c i = false) : idx n c = [] := by
  unfold idx
  rw [List.map_eq_nil_iff, List.filter_eq_nil_iff]
  intro i hi
  rw [h i (List.mem_range.mp hi)]
  simp
/-- numbers that follow one another -/
theorem idx_run {n : Nat} {c : Nat → Bool} (conv : ∀ a b d, a < b → b < d → d < n → c a = true → c d = true → c b = true) : idx n c = [] ∨ ∃ a m : Nat, a + m + 1 ≤ n ∧ idx n c = (List.range' a (m + 1)).map (fun k : Nat => (k : Int)) ∧ ∀ i, i < n → (c i = true ↔ a ≤ i ∧ i ≤ a + m) := by
  by_cases h : ∃ i, i < n ∧ c i = true
  · obtain ⟨i0, hi0, ci0⟩ := h
    have hex1 : ∃ a, a < n ∧ c a = true ∧ ∀ j, j < a → c j = false := by
      have : ∀ k, k ≤ i0 → (∃ a, a < n ∧ c a = true ∧ ∀ j, j < a → c j = false) ∨ ∀ j, j < k → c j = false := by
        intro k
        induction k with
        | zero => intro _; exact .inr fun j hj => by omega
        | succ k ih =>
          intro hk
          rcases ih (by omega) with h | h
          · exact .inl h
          · cases e : c k with
            | true => exact .inl ⟨k, by omega, e, h⟩
            | false =>
              refine .inr fun j hj => ?_
              by_cases q : j = k
              · subst q; exact e
              · exact h j (by omega)
      rcases this i0 (Nat.le_refl _) with h | h
      · exact h
      · exact ⟨i0, hi0, ci0, h⟩
    obtain ⟨a, ha, ca, la⟩ := hex1
    have hex2 : ∀ k, ∃ m, a + m < n ∧ c (a + m) = true ∧ ∀ j, a + m < j → j < n → k + j ≥ n + 0 → c j = false := by
      intro k
      induction k with
      | zero => exact ⟨0, by omega, ca, fun j h1 h2 h3 => by omega⟩
      | succ k ih =>
        obtain ⟨m, h1, h2, h3⟩ := ih
        by_cases q : a + m < n - (k + 1) ∧ k + 1 ≤ n
        · cases e : c (n - (k + 1)) with
          | true =>
            by_cases z : ∃ j, n - (k + 1) < j ∧ j < n ∧ c j = true
            · obtain ⟨j, z1, z2, z3⟩ := z
              have := h3 j (by omega) z2 (by omega)
              rw [this] at z3; cases z3
            · refine ⟨n - (k + 1) - a, by omega, by rw [show a + (n - (k + 1) - a) = n - (k + 1) by omega]; exact e, fun j z1 z2 _ => ?_⟩
              cases e2 : c j with
              | false => rfl
              | true => exact absurd ⟨j, by omega, z2, e2⟩ z
          | false =>
            refine ⟨m, h1, h2, fun j z1 z2 z3 => ?_⟩
            by_cases z : j = n - (k + 1)
            · rw [z]; exact e
            · exact h3 j z1 z2 (by omega)
        · exact ⟨m, h1, h2, fun j z1 z2 z3 => h3 j z1 z2 (by omega)⟩
    obtain ⟨m, h1, h2, h3⟩ := hex2 n
    have key : ∀ i, i < n → (c i = true ↔ a ≤ i ∧ i ≤ a + m) := fun i hi => by
      constructor
      · intro ci
        constructor
        · apply Nat.le_of_not_lt
          intro q
          rw [la i q] at ci; cases ci
        · apply Nat.le_of_not_lt
          intro q
          rw [h3 i q hi (by omega)] at ci; cases ci
      · rintro ⟨q1, q2⟩
        by_cases z1 : i = a
        · rw [z1]; exact ca
        · by_cases z2 : i = a + m
          · rw [z2]; exact h2
          · exact conv a i (a + m) (by omega) (by omega) h1 ca h2
    refine .inr ⟨a, m, by omega, ?_, key⟩
    unfold idx
    congr 1
    have e1 : List.range n = List.range' 0 a ++ (List.range' a (m + 1) ++ List.range' (a + (m + 1)) (n - (a + (m + 1)))) := by
      rw [List.range'_append_1, List.range_eq_range']
      have := List.range'_append_1 (s := 0) (m := a) (n := m + 1 + (n - (a + (m + 1))))
      rw [Nat.zero_add] at this
      rw [this]
      congr 1
      omega
    rw [e1, List.filter_append, List.filter_append]
    have z1 : (List.range' 0 a).filter c = [] := by
      rw [List.filter_eq_nil_iff]
      intro i hi
      have := List.mem_range'_1.mp hi
      rw [la i (by omega)]
      simp
    have z2 : (List.range' a (m + 1)).filter c = List.range' a (m + 1) := by
      rw [List.filter_eq_self]
      intro i hi
      have := List.mem_range'_1.mp hi
      exact (key i (by omega)).mpr ⟨by omega, by omega⟩
    have z3 : (List.range' (a + (m + 1)) (n - (a + (m + 1)))).filter c = [] := by
      rw [List.filter_eq_nil_iff]
      intro i hi
      have := List.mem_range'_1.mp hi
      rw [h3 i (by omega) (by omega) (by omega)]
      simp
    rw [z1, z2, z3, List.nil_append, List.append_nil]
  · refine .inl (idx_none fun i hi => ?_)
    cases e : c i with
    | false => rfl
    | true => exact absurd ⟨i, hi, e⟩ h
/-! ### the sizes that fit some feet -/
structure FitsL (H : Hp) (D : Addr) (ls : List (List Int)) : Prop where
  ob : ∃ ts : List V, H D = some (.lst ts) ∧ ts.length = ls.length ∧ ∀ (i : Nat) (v : V) (l : List Int), ts[i]? = some v → ls[i]? = some l → ∃ T, v = .ref T ∧ H T = some (.tup (l.map V.int))
theorem FitsL.same {H H' : Hp} {D : Addr} {ls : List (List Int)} (a : FitsL H D ls) (s : Same H H') : FitsL H' D ls := by
  obtain ⟨ts, h1, h2, h3⟩ := a.ob
  refine ⟨ts, s _ _ h1, h2, fun i v l e1 e2 => ?_⟩
  obtain ⟨T, e, h⟩ := h3 i v l e1 e2
  exact ⟨T, e, s _ _ h⟩
theorem FitsL.at {H : Hp} {D : Addr} {ls : List (List Int)} {ts : List V} (h2 : ts.length = ls.length) (h3 : ∀ (i : Nat) (v : V) (l : List Int), ts[i]? = some v → ls[i]? = some l → ∃ T, v = .ref T ∧ H T = some (.tup (l.map V.int))) {i : Nat} {l : List Int} (h : ls[i]? = some l) : ∃ T, ts[i]? = some (.ref T) ∧ H T = some (.tup (l.map V.int)) := by
  have hi : i < ts.length := by rw [h2]; exact (List.getElem?_eq_some_iff.mp h).1
  obtain ⟨T, e, k⟩ := h3 i _ l (List.getElem?_eq_getElem hi) h
  exact ⟨T, by rw [List.getElem?_eq_getElem hi, e], k⟩
def fitL (zs xs : List Q2) (s t : Q2) : List (List Int) := xs.map fun x => idx zs.length (fitQ zs x s t)
/-- the first one of which there is none -/
def BareAt (ls : List (List Int)) : Option Nat → Prop
  | none => ∀ l ∈ ls, l ≠ []
  | some n => ls[n]? = some [] ∧ ∀ j l, j < n → ls[j]? = some l → l ≠ []
theorem BareAt.uniq {ls : List (List Int)} : ∀ {o o' : Option Nat}, BareAt ls o → BareAt ls o' → o = o'
  | none, none, _, _ => rfl
  | none, some n, h, g => absurd rfl (h _ (List.mem_of_getElem? g.1))
  | some n, none, h, g => absurd rfl (g _ (List.mem_of_getElem? h.1))
  | some n, some m, h, g => by
    rcases Nat.lt_trichotomy n m with q | q | q
    · exact absurd rfl (g.2 n _ q h.1)
    · rw [q]
    · exact absurd rfl (h.2 m _ q g.1)
def firstI (ls : List (List Int)) (a : Int) : Int := ((ls.getD a.toNat []).head?).getD 0
def lastI (ls : List (List Int)) (a : Int) : Int := ((ls.getD a.toNat []).getLast?).getD 0
/-- runs: none is bare, each begins no later than it ends -/
def RunsI (ls : List (List Int)) : Prop := ∀ i : Nat, i < ls.length → ls.getD i [] ≠ [] ∧ firstI ls i ≤ lastI ls i
/-- as few sizes as can be, and as many feet apart -/
structure Few (ls : List (List Int)) (ss as : List Int) : Prop where
  len : ss.length = as.length
  rise : RiseI ss
  arise : RiseI as
  mem : ∀ a ∈ as, ∃ i : Nat, a = (i : Int) ∧ i < ls.length
  own : ∀ s ∈ ss, ∃ i : Nat, i < ls.length ∧ s = lastI ls i
  hit : ∀ i : Nat, i < ls.length → ∃ s ∈ ss, firstI ls i ≤ s ∧ s ≤ lastI ls i
  apart : ∀ a ∈ as, ∀ b ∈ as, a ≠ b → lastI ls a < firstI ls b ∨ lastI ls b < firstI ls a
structure GInv (ls : List (List Int)) (done : List (Int × Int)) (ss as : List Int) : Prop where
  len : ss.length = as.length
  hits : ∀ q ∈ done, ∃ s ∈ ss, firstI ls q.2 ≤ s ∧ s ≤ q.1
  own : ∀ (j : Nat) (s a : Int), ss[j]? = some s → as[j]? = some a → (s, a) ∈ done
  ap : ∀ (j j' : Nat) (s a : Int), j < j' → ss[j]? = some s → as[j']? = some a → s < firstI ls a
theorem GInv.nil {ls : List (List Int)} : GInv ls [] [] [] := ⟨rfl, fun q h => by simp at h, fun j s a h => by simp at h, fun j j' s a _ h => by simp at h⟩
/-- the pairs of last sizes and numbers -/
structure PairsOf (ls : List (List Int)) (ps : List (Int × Int)) : Prop where
  perm : ps.Perm ((List.range ls.length).map fun i : Nat => (lastI ls i, (i : Int)))
  srt : ∀ (i j : Nat) (p q : Int × Int), i < j → ps[i]? = some p → ps[j]? = some q → p.1 ≤ q.1
theorem PairsOf.mem {ls : List (List Int)} {ps : List (Int × Int)} (h : PairsOf ls ps) {q : Int × Int} : q ∈ ps ↔ ∃ i : Nat, i < ls.length ∧ q = (lastI ls i, (i : Int)) := by
  rw [h.perm.mem_iff, List.mem_map]
  constructor
  · rintro ⟨i, hi, e⟩; exact ⟨i, List.mem_range.mp hi, e.symm⟩
  · rintro ⟨i, hi, e⟩; exact ⟨i, List.mem_range.mpr hi, e.symm⟩
theorem GInv.rise {ls : List (List Int)} {ps : List (Int × Int)} {k : Nat} {ss as : List Int} (P : PairsOf ls ps) (R : RunsI ls) (g : GInv ls (ps.take k) ss as) : ∀ (j j' : Nat) (s s' : Int), j < j' → ss[j]? = some s → ss[j']? = some s' → s < s' := fun j j' s s' hj h h' => by
  have l := (List.getElem?_eq_some_iff.mp h').1
  obtain ⟨a', ha'⟩ := geI (zs := as) (n := j') (by rw [← g.len]; exact l)
  have h1 := g.ap j j' s a' hj h ha'
  have h2 := g.own j' s' a' h' ha'
  obtain ⟨i, hi, e⟩ := P.mem.mp (List.mem_of_mem_take h2)
  obtain ⟨rfl, rfl⟩ := Prod.mk.inj e
  have := (R i hi).2
  omega
theorem GInv.skip {ls : List (List Int)} {ps : List (Int × Int)} {k : Nat} {ss as : List Int} {b n s : Int} (P : PairsOf ls ps) (R : RunsI ls) (hk : ps[k]? = some (b, n)) (g : GInv ls (ps.take k) ss as) (hl : ss.getLast? = some s) (h : firstI ls n ≤ s) : GInv ls (ps.take (k + 1)) ss as := by
  have e : ps.take (k + 1) = ps.take k ++ [(b, n)] := by rw [List.take_add_one, hk]; rfl
  refine ⟨g.len, fun q hq => ?_, fun j s' a h1 h2 => ?_, g.ap⟩
  · rw [e] at hq
    rcases List.mem_append.mp hq with hq | hq
    · exact g.hits q hq
    · have : q = (b, n) := by simpa using hq
      subst this
      refine ⟨s, List.mem_of_getLast? hl, h, ?_⟩
      have l0 : 0 < ss.length := by cases ss with | nil => simp at hl | cons => simp
      have hs : ss[ss.length - 1]? = some s := by rw [← List.getLast?_eq_getElem?]; exact hl
      obtain ⟨a, ha⟩ := geI (zs := as) (n := ss.length - 1) (by rw [← g.len]; omega)
      have hm := g.own _ s a hs ha
      obtain ⟨i, hi⟩ := List.mem_iff_getElem?.mp hm
      have li := (List.getElem?_eq_some_iff.mp hi).1
      rw [List.length_take] at li
      rw [List.getElem?_take_of_lt (by omega)] at hi
      exact P.srt i k (s, a) (b, n) (by omega) hi hk
  · rw [e]
    exact List.mem_append.mpr (.inl (g.own j s' a h1 h2))
theorem GInv.take {ls : List (List Int)} {ps : List (Int × Int)} {k : Nat} {ss as : List Int} {b n : Int} (P : PairsOf ls ps) (R : RunsI ls) (hk : ps[k]? = some (b, n)) (g : GInv ls (ps.take k) ss as) (h : ∀ s, ss.getLast? = some s → s < firstI ls n) : GInv ls (ps.take (k + 1)) (ss ++ [b]) (as ++ [n]) := by
  have e : ps.take (k + 1) = ps.take k ++ [(b, n)] := by rw [List.take_add_one, hk]; rfl
  obtain ⟨i, hi, ei⟩ := P.mem.mp (List.mem_of_getElem? hk)
  obtain ⟨rfl, rfl⟩ := Prod.mk.inj ei
  refine ⟨by rw [List.length_append, List.length_append, g.len]; rfl, fun q hq => ?_, fun j s' a h1 h2 => ?_, fun j j' s' a hj h1 h2 => ?_⟩
  · rw [e] at hq
    rcases List.mem_append.mp hq with hq | hq
    · obtain ⟨s, hs, q1⟩ := g.hits q hq
      exact ⟨s, List.mem_append.mpr (.inl hs), q1⟩
    · have : q = (lastI ls (i : Int), (i : Int)) := by simpa using hq
      subst this
      exact ⟨lastI ls i, by simp, (R i hi).2, Int.le_refl _⟩
  · rw [e]
    by_cases hlt : j < ss.length
    · rw [List.getElem?_append_left hlt] at h1
      rw [List.getElem?_append_left (by rw [← g.len]; exact hlt)] at h2
      exact List.mem_append.mpr (.inl (g.own j s' a h1 h2))
    · have l1 := (List.getElem?_eq_some_iff.mp h1).1
      rw [List.length_append, List.length_singleton] at l1
      have ej : j = ss.length := by omega
      rw [ej, List.getElem?_append_right (Nat.le_refl _), Nat.sub_self] at h1
      rw [ej, g.len, List.getElem?_append_right (Nat.le_refl _), Nat.sub_self] at h2
      have h1 : lastI ls i = s' := by simpa using h1
      have h2 : (i : Int) = a := by simpa using h2
      rw [← h1, ← h2]
      simp
  · have l2 := (List.getElem?_eq_some_iff.mp h2).1
    rw [List.length_append, List.length_singleton, ← g.len] at l2
    have h1' : ss[j]? = some s' := by
      rw [List.getElem?_append_left (by omega)] at h1; exact h1
    by_cases hlt : j' < ss.length
    · rw [List.getElem?_append_left (by rw [← g.len]; exact hlt)] at h2
      exact g.ap j j' s' a hj h1' h2
    · have ej : j' = ss.length := by omega
      rw [ej, g.len, List.getElem?_append_right (Nat.le_refl _), Nat.sub_self] at h2
      have h2 : (i : Int) = a := by simpa using h2
      rw [← h2]
      have hs : ss[ss.length - 1]? = ss.getLast? := List.getLast?_eq_getElem?.symm
      obtain ⟨s, hs2⟩ := geI (zs := ss) (n := ss.length - 1) (by omega)
      have hlast := h s (by rw [← hs]; exact hs2)
      by_cases q : j = ss.length - 1
      · rw [q, hs2] at h1'
        cases h1'
        exact hlast
      · have := g.rise P R j (ss.length - 1) s' s (by omega) h1' hs2
        omega
theorem few_of {ls : List (List Int)} {ps : List (Int × Int)} {ss as as' : List Int} (P : PairsOf ls ps) (R : RunsI ls) (g : GInv ls ps ss as) (hp : as'.Perm as) (hs : as'.Pairwise (· ≤ ·)) : Few ls ss as' := by
  have g' : GInv ls (ps.take ps.length) ss as := by rw [List.take_length]; exact g
  have ri := g'.rise P R
  have key : ∀ a ∈ as, ∃ (j : Nat) (s : Int), ss[j]? = some s ∧ as[j]? = some a ∧ ∃ i : Nat, i < ls.length ∧ a = (i : Int) ∧ s = lastI ls a := fun a ha => by
    obtain ⟨j, hj⟩ := List.mem_iff_getElem?.mp ha
    have lj := (List.getElem?_eq_some_iff.mp hj).1
    obtain ⟨s, hs⟩ := geI (zs := ss) (n := j) (by rw [g.len]; exact lj)
    obtain ⟨i, hi, e⟩ := P.mem.mp (g.own j s a hs hj)
    obtain ⟨rfl, rfl⟩ := Prod.mk.inj e
    exact ⟨j, _, hs, hj, i, hi, rfl, rfl⟩
  have nd : as.Nodup := by
    refine List.pairwise_iff_getElem.mpr fun i j hi0 hj hij q => ?_
    obtain ⟨a, ha⟩ := geI (zs := as) (n := i) (by omega)
    have hb : as[j]? = some a := by rw [List.getElem?_eq_getElem hj, ← q, ← List.getElem?_eq_getElem hi0]; exact ha
    obtain ⟨s, hs1⟩ := geI (zs := ss) (n := i) (by rw [g.len]; omega)
    obtain ⟨s', hs2⟩ := geI (zs := ss) (n := j) (by rw [g.len]; omega)
    have h1 := g.ap i j s a hij hs1 hb
    obtain ⟨i2, hi2, e⟩ := P.mem.mp (g.own i s a hs1 ha)
    obtain ⟨rfl, rfl⟩ := Prod.mk.inj e
    have := (R i2 hi2).2
    omega
  have nd' : as'.Nodup := hp.nodup_iff.mpr nd
  refine ⟨g.len.trans hp.length_eq.symm, fun i a b h1 h2 => ri i (i + 1) a b (by omega) h1 h2, fun i a b h1 h2 => ?_, fun a ha => ?_, fun s hs' => ?_, fun i hi => ?_, fun a ha b hb ne => ?_⟩
  · have l2 := (List.getElem?_eq_some_iff.mp h2).1
    have e1 := (List.getElem?_eq_some_iff.mp h1).2
    have e2 := (List.getElem?_eq_some_iff.mp h2).2
    have le := List.pairwise_iff_getElem.mp hs i (i + 1) (by omega) l2 (by omega)
    have ne : as'[i] ≠ as'[i + 1] := List.pairwise_iff_getElem.mp nd' i (i + 1) (by omega) l2 (by omega)
    rw [e1, e2] at le ne
    omega
  · obtain ⟨j, s, _, _, i, hi, e, _⟩ := key a (hp.mem_iff.mp ha)
    exact ⟨i, e, hi⟩
  · obtain ⟨j, hj⟩ := List.mem_iff_getElem?.mp hs'
    have lj := (List.getElem?_eq_some_iff.mp hj).1
    obtain ⟨a, ha⟩ := geI (zs := as) (n := j) (by rw [← g.len]; exact lj)
    obtain ⟨i, hi, e⟩ := P.mem.mp (g.own j s a hj ha)
    obtain ⟨rfl, rfl⟩ := Prod.mk.inj e
    exact ⟨i, hi, rfl⟩
  · exact g.hits (lastI ls i, (i : Int)) (P.mem.mpr ⟨i, hi, rfl⟩)
  · obtain ⟨j, s, h1, h2, i, hi, e, es⟩ := key a (hp.mem_iff.mp ha)
    obtain ⟨j', s', h1', h2', i', hi', e', es'⟩ := key b (hp.mem_iff.mp hb)
    rcases Nat.lt_trichotomy j j' with q | q | q
    · exact .inl (by rw [← es]; exact g.ap j j' s b q h1 h2')
    · subst q
      rw [h2] at h2'
      exact absurd (Option.some.inj h2') ne
    · exact .inr (by rw [← es']; exact g.ap j' j s' a q h1' h2)
theorem idx_sorted {n : Nat} {c : Nat → Bool} : (idx n c).Pairwise (· < ·) := by
  unfold idx
  rw [List.pairwise_map]
  refine List.Pairwise.imp ?_ (List.Pairwise.filter c List.pairwise_lt_range)
  intro a b h
  omega
theorem head_last : ∀ {l : List Int}, l.Pairwise (· < ·) → ∀ {f b : Int}, l.head? = some f → l.getLast? = some b → f ≤ b
  | [], _, f, b, h, _ => by simp at h
  | x :: l, hp, f, b, h, g => by
    have e : x = f := by simpa using h
    subst e
    have hb := List.mem_of_getLast? g
    rcases List.mem_cons.mp hb with q | q
    · omega
    · have := (List.pairwise_cons.mp hp).1 b q
      omega
theorem runs_fitL {zs xs : List Q2} {s t : Q2} {i : Nat} {l : List Int} (h : (fitL zs xs s t)[i]? = some l) (ne : l ≠ []) : firstI (fitL zs xs s t) (i : Int) ≤ lastI (fitL zs xs s t) (i : Int) := by
  have e : (fitL zs xs s t).getD i [] = l := by rw [List.getD_eq_getElem?_getD, h]; rfl
  have hl : l.Pairwise (· < ·) := by
    unfold fitL at h
    rw [List.getElem?_map] at h
    cases q : xs[i]? with
    | none => rw [q] at h; cases h
    | some x => rw [q] at h; cases h; exact idx_sorted
  unfold firstI lastI
  rw [Int.toNat_natCast, e]
  cases e1 : l.head? with
  | none => exact absurd (List.head?_eq_none_iff.mp e1) ne
  | some f =>
    cases e2 : l.getLast? with
    | none => exact absurd (List.getLast?_eq_none_iff.mp e2) ne
    | some b => exact head_last hl e1 e2
/-! ### tuples of the heap: sums and slices -/
section
variable {X : Cx}
def rSlH : V → Option Int → Option Int → Hp → VK → Prop := fun x lo hi H Q => ∃ (a : Addr) (xs : List V), x = .ref a ∧ H a = some (.tup xs) ∧ ∀ (p : Addr) (H' : Hp), Same H H' → H' p = some (.tup (cutV xs lo hi)) → Q (.ref p) H'
theorem slH : SlR X rSlH := by
  intro pins s σ H x v vl vu lo hi sl Q I rx hs pl pu h
  obtain ⟨a, xs, e1, hx, q⟩ := h
  refine sl_tupA pins s σ H x v vl vu lo hi sl Q I rx hs pl pu ⟨a, xs, e1, SqT.of hx, fun e => q a H (Same.refl _) ?_, fun _ p np => q p _ (same1 np) upd_same⟩
  have e2 : cutV xs lo hi = xs := by
    unfold cutV
    rw [e.1, e.2, List.drop_zero, Nat.sub_zero, List.take_length]
  rw [e2]
  exact hx
end
/-! ### fractions as rational numbers -/
def toR (z : Q2) : Rat := (z.1 : Rat) / (z.2 : Rat)
theorem posR {n : Int} (h : 0 < n) : (0 : Rat) < (n : Rat) := by
  have := Rat.intCast_lt_intCast.mpr h
  simpa using this
section
variable {a b z w x y : Q2}
theorem div_ltR {a b c d : Int} (hb : 0 < b) (hd : 0 < d) : ((a : Rat) / b < (c : Rat) / d) ↔ (a : Rat) * d < c * b := by
  have hb := posR hb
  have hd := posR hd
  constructor
  · intro h
    have e1 : (a : Rat) * d = (a / b) * (b * d) := by grind
    have e2 : (c : Rat) * b = (c / d) * (b * d) := by grind
    rw [e1, e2]
    exact Rat.mul_lt_mul_of_pos_right h (Rat.mul_pos hb hd)
  · intro h
    by_cases g : (c : Rat) / d ≤ (a : Rat) / b
    · have := Rat.mul_le_mul_of_nonneg_right g (Rat.le_of_lt (Rat.mul_pos hb hd))
      have e1 : (a : Rat) * d = (a / b) * (b * d) := by grind
      have e2 : (c : Rat) * b = (c / d) * (b * d) := by grind
      grind
    · grind
theorem ltq_R (ha : 0 < a.2) (hb : 0 < b.2) : ltq a b = true ↔ toR a < toR b := by
  unfold toR
  rw [div_ltR ha hb]
  unfold ltq
  rw [decide_eq_true_iff, ← Rat.intCast_mul, ← Rat.intCast_mul, Rat.intCast_lt_intCast]
theorem leq_R (ha : 0 < a.2) (hb : 0 < b.2) : leq a b = true ↔ toR a ≤ toR b := by
  rw [leq_not]
  cases e : ltq b a with
  | true =>
    have := (ltq_R hb ha).mp e
    constructor
    · intro h; simp at h
    · intro h; grind
  | false =>
    have : ¬ toR b < toR a := fun q => by rw [(ltq_R hb ha).mpr q] at e; cases e
    constructor
    · intro _; grind
    · intro _; rfl
theorem re_R (h : Re z w) : toR z = toR w := by
  obtain ⟨h1, h2, h3⟩ := h
  unfold toR
  have p1 := posR h1
  have p2 := posR h2
  have e : (z.1 : Rat) * (w.2 : Rat) = (w.1 : Rat) * (z.2 : Rat) := by rw [← Rat.intCast_mul, ← Rat.intCast_mul, h3]
  grind
theorem add_R (ha : 0 < a.2) (hb : 0 < b.2) : toR (qadd a b) = toR a + toR b := by
  unfold toR qadd
  have p1 := posR ha
  have p2 := posR hb
  simp only [Rat.intCast_add, Rat.intCast_mul]
  grind
theorem sub_R (ha : 0 < a.2) (hb : 0 < b.2) : toR (qsub a b) = toR a - toR b := by
  unfold toR qsub
  have p1 := posR ha
  have p2 := posR hb
  simp only [Rat.intCast_sub, Rat.intCast_mul]
  grind
theorem nn_R (ha : 0 < a.2) : 0 ≤ a.1 ↔ 0 ≤ toR a := by
  have p : 0 < ((0, 1) : Q2).2 := by decide
  have h := leq_R (a := (0, 1)) (b := a) p ha
  have e : toR (0, 1) = 0 := by unfold toR; grind
  rw [e] at h
  rw [← h, leq_not]
  unfold ltq
  simp
theorem qadd_pos (ha : 0 < a.2) (hb : 0 < b.2) : 0 < (qadd a b).2 := Int.mul_pos ha hb
theorem qsub_pos (ha : 0 < a.2) (hb : 0 < b.2) : 0 < (qsub a b).2 := Int.mul_pos ha hb
end
theorem Re.nn {z w : Q2} (r : Re z w) (h : 0 ≤ w.1) : 0 ≤ z.1 := by
  rw [nn_R r.1, re_R r]
  exact (nn_R r.2.1).mp h
theorem fitQ_R {zs : List Q2} {a z x y : Q2} {i : Nat} (h : zs[i]? = some a) (pa : 0 < a.2) (pz : 0 < z.2) (px : 0 < x.2) (py : 0 < y.2) : fitQ zs z x y i = true ↔ toR z - toR y ≤ toR a ∧ toR a ≤ toR z + toR x := by
  unfold fitQ
  rw [h]
  show (leq (qsub z y) a && leq a (qadd z x)) = true ↔ _
  rw [Bool.and_eq_true, leq_R (qsub_pos pz py) pa, leq_R pa (qadd_pos pz px), sub_R pz py, add_R pz px]
section
variable {zs : List Q2} {a z x y e w : Q2} {i : Nat}
end
/-! ### lists of tuples of numbers as data -/
theorem rm65 {k : Nat} {A : Around} (r : Room k A) : A.units + 65 < cLine := by have := r.un; omega
section
variable {X : Cx} {K : PySem.W.Frag}
theorem inDK (hu : X.A.units + 65 < cLine) (hK : X.K = K := by rfl) : OpR X (compareOp .In) (rInD K) := by subst hK; exact op_inD hu
theorem indexDK (hu : X.A.units + 65 < cLine) (hK : X.K = K := by rfl) : MtR X "list.index" (rIndexD K) := by subst hK; exact mt_indexD hu
end
theorem eqvAll_ints : ∀ a b : List Int, PyData.eqvAll (a.map PyData.int) (b.map PyData.int) = decide (a = b)
  | [], [] => by simp [PyData.eqvAll]
  | [], _ :: _ => by simp [PyData.eqvAll]
  | _ :: _, [] => by simp [PyData.eqvAll]
  | x :: a, y :: b => by
    have e : (x == y) = decide (x = y) := by rw [Bool.eq_iff_iff]; simp
    simp [PyData.eqvAll, PyData.eqv, eqvAll_ints a b, e]
theorem eqv_intsD (a b : List Int) : PyData.eqv (intsD a) (intsD b) = decide (a = b) := by
  unfold intsD
  simp [PyData.eqv, eqvAll_ints]
theorem dpAll_of {α : Type} {K : PySem.W.Frag} {H : Hp} (f : α → PyData) : ∀ {ts : List V} {ls : List α}, ts.length = ls.length → (∀ (i : Nat) (v : V) (l : α), ts[i]? = some v → ls[i]? = some l → Dp K H v (f l)) → DpAll K H ts (ls.map f)
  | [], [], _, _ => .nil
  | [], _ :: _, h, _ => by simp at h
  | _ :: _, [], h, _ => by simp at h
  | t :: ts, l :: ls, h, g => .cons (g 0 t l rfl rfl) (dpAll_of f (by simpa using h) fun i v l' h1 h2 => g (i + 1) v l' (by simpa using h1) (by simpa using h2))
theorem rows_lay {α : Type} (f : α → List Int) : ∀ ls : List α, PyData.canLayAll0 (ls.map fun l => intsD (f l)) = true
  | [] => rfl
  | l :: ls => by
    show ((intsD (f l)).canLay0 && PyData.canLayAll0 (ls.map fun l => intsD (f l))) = true
    rw [rows_lay f ls, Bool.and_true]
    exact layI (f l)
theorem rows_depth {α : Type} (f : α → List Int) : ∀ ls : List α, PyData.depthAll (ls.map fun l => intsD (f l)) ≤ 3
  | [] => by simp [PyData.depthAll]
  | l :: ls => by
    have h := rows_depth f ls
    have h1 := ints_depth (f l)
    have e : PyData.depthAll ((l :: ls).map fun l => intsD (f l)) = max (intsD (f l)).depth (PyData.depthAll (ls.map fun l => intsD (f l))) := by simp [PyData.depthAll]
    have e2 : (intsD (f l)).depth = PyData.depthAll ((f l).map PyData.int) + 1 := rfl
    omega
theorem shRows {α : Type} (f : α → List Int) (ls : List α) : SeqAt.shaped (.list (ls.map fun l => intsD (f l))) = true := by
  have h := rows_depth f ls
  have e1 : (PyData.list (ls.map fun l => intsD (f l))).depth ≤ 64 := by
    show PyData.depthAll (ls.map fun l => intsD (f l)) + 1 ≤ 64
    omega
  have e2 : (PyData.list (ls.map fun l => intsD (f l))).canLay0 = true := rows_lay f ls
  unfold SeqAt.shaped
  rw [e2, decide_eq_true e1]
  rfl
theorem shInts (zs : List Int) : SeqAt.shaped (intsD zs) = true := by
  have h := ints_depth zs
  have e1 : (intsD zs).depth ≤ 64 := by
    show PyData.depthAll (zs.map PyData.int) + 1 ≤ 64
    omega
  have e2 : (intsD zs).canLay0 = true := layI zs
  unfold SeqAt.shaped
  rw [e2, decide_eq_true e1]
  rfl
theorem FitsL.dp {K : PySem.W.Frag} {H : Hp} {D : Addr} {ls : List (List Int)} (a : FitsL H D ls) : Dp K H (.ref D) (.list (ls.map fun l => intsD l)) := by
  obtain ⟨ts, h1, h2, h3⟩ := a.ob
  refine .lst (SqL.of h1) (dpAll_of (fun l => intsD l) h2 fun i v l e1 e2 => ?_)
  obtain ⟨T, rfl, h⟩ := h3 i v l e1 e2
  exact dpT h
theorem tqs_dp {K : PySem.W.Frag} {H : Hp} {l : Addr} {k : Nat} {us : List V} {zs : List Q2} (h : H l = some (.lst us)) (t : Tqs H k us zs) : Dp K H (.ref l) (.list (zs.map fun z => intsD [z.1, z.2])) := by
  refine .lst (SqL.of h) (dpAll_of (fun z : Q2 => intsD [z.1, z.2]) t.len fun i v z e1 e2 => ?_)
  obtain ⟨p, rfl, hp, _⟩ := t.all i v z e1 e2
  exact dpT (zs := [z.1, z.2]) hp
theorem any_bare (ls : List (List Int)) : ((ls.map fun l => intsD l).any fun z => PyData.eqv z (intsD [])) = true ↔ ∃ l ∈ ls, l = [] := by
  rw [List.any_eq_true]
  constructor
  · rintro ⟨z, hz, e⟩
    obtain ⟨l, hl, rfl⟩ := List.mem_map.mp hz
    rw [eqv_intsD] at e
    exact ⟨l, hl, of_decide_eq_true e⟩
  · rintro ⟨l, hl, e⟩
    exact ⟨intsD l, List.mem_map.mpr ⟨l, hl, rfl⟩, by rw [eqv_intsD]; exact decide_eq_true e⟩
/-! ### a set of a tuple of numbers -/
/-! ### looked at ahead of a step (apply fails at once where exact, refine and show take seconds) -/
theorem eq_id {α : Sort _} {a b : α} (h : a = b) : a = b := h
theorem ile_id {a b : Int} (h : a ≤ b) : a ≤ b := h
theorem ilt_id {a b : Int} (h : a < b) : a < b := h
theorem nle_id {a b : Nat} (h : a ≤ b) : a ≤ b := h
theorem nlt_id {a b : Nat} (h : a < b) : a < b := h
section
variable {K : PySem.W.Frag} {C CM CL CG p h a L1 L2 : Addr} {H H' : Hp} {v : V} {k n : Nat} {z : Q2} {vs : List V} {zs ys : List Q2} {e : Option Q2} {r : Str} {lo hi : Option Q2} {o : Option HO} {x : HO} {P Q : Prop}
theorem TQ_id (t : TQ H v k z) : TQ H v k z := t
theorem Tqs_id (t : Tqs H k vs zs) : Tqs H k vs zs := t
theorem QAt_id (t : QAt C H p k z) : QAt C H p k z := t
theorem Mks_id (t : Mks C H k vs zs) : Mks C H k vs zs := t
theorem QO_id (t : QO C H k v e) : QO C H k v e := t
theorem TOq_id (t : TOq H k v e) : TOq H k v e := t
theorem LadAt_id (t : LadAt K CM CL H p k zs r lo hi) : LadAt K CM CL H p k zs r lo hi := t
theorem GrdAt_id (t : GrdAt K CM CL CG H p k L1 L2 z) : GrdAt K CM CL CG H p k L1 L2 z := t
theorem SidesAt_id (t : SidesAt H h p k zs ys z) : SidesAt H h p k zs ys z := t
theorem ChartAt_id (t : ChartAt H p k r lo hi) : ChartAt H p k r lo hi := t
theorem HandAt_id (t : HandAt H h n) : HandAt H h n := t
theorem SqT_id (t : SqT K H a vs) : SqT K H a vs := t
theorem SqL_id (t : SqL K H a vs) : SqL K H a vs := t
theorem Kp_id (t : Kp h H H') : Kp h H H' := t
theorem Same_id (t : Same H H') : Same H H' := t
theorem AllTQ_id (t : AllTQ H k vs) : AllTQ H k vs := t
theorem ho_id (t : o = some x) : o = some x := t
theorem sq2_id (t : SqL K H a vs ∨ SqT K H a vs) : SqL K H a vs ∨ SqT K H a vs := t
theorem exT_id (t : ∃ xs, SqT K H a xs) : ∃ xs, SqT K H a xs := t
theorem exL_id (t : ∃ xs, SqL K H a xs) : ∃ xs, SqL K H a xs := t
end
/-! ### what follows a statement, kept out of sight while it is read -/
/-! ### a comprehension over a list that draws, some left out -/
theorem AllTQ.nl {H H' : Hp} {k : Nat} {vs : List V} (m : AllTQ H k vs) (s : Nl H H') : AllTQ H' k vs := fun x hx => by
  obtain ⟨z, t⟩ := m x hx
  exact ⟨z, t.nl s⟩
theorem AllTQ.same {H H' : Hp} {k : Nat} {vs : List V} (m : AllTQ H k vs) (s : Same H H') : AllTQ H' k vs := m.nl (Nl.of s)
theorem AllTQ.mono {H : Hp} {k j : Nat} {vs : List V} (m : AllTQ H k vs) (l : k ≤ j) : AllTQ H j vs := fun x hx => by
  obtain ⟨z, t⟩ := m x hx
  exact ⟨z, t.mono l⟩
theorem Kp.up2 {h D : Addr} {H H1 : Hp} {u : HO} (k : Kp h H H1) (hD : H D = none) : Kp h H (upd H1 D u) := fun c o e n => by
  rw [upd_ne (ne_of_none e hD)]
  exact k c o e n
end My
namespace My
open PySem PySem.Spec PyProof.Rows L2
/-! ### the stretches of a ladder's sizes, held -/
theorem MAt.nl {C p : Addr} {H H' : Hp} {t u : Int} (a : MAt C H p t u) (s : Nl H H') : MAt C H' p t u := by
  obtain ⟨dx, h⟩ := a
  exact ⟨dx, s _ _ h rfl⟩
theorem MsV.nl {C : Addr} {H H' : Hp} {v : V} (s : Nl H H') : ∀ {e : Option Q2}, MsV C H v e → MsV C H' v e
  | none, h => h
  | some _, ⟨p, h1, h2⟩ => ⟨p, h1, h2.nl s⟩
theorem StAt.nl {CM CS p : Addr} {H H' : Hp} {lo hi : Option Q2} {li hj : Bool} (a : StAt CM CS H p lo hi li hj) (s : Nl H H') : StAt CM CS H' p lo hi li hj := by
  obtain ⟨⟨dx, l, h, h1, h2, h3⟩, a1, a2, a3, a4⟩ := a
  exact ⟨⟨dx, l, h, s _ _ h1 rfl, h2.nl s, h3.nl s⟩, a1, a2, a3, a4⟩
theorem StQ.nl {CM CS p : Addr} {H H' : Hp} {x y : Option Q2 × Bool} (a : StQ CM CS H p x y) (s : Nl H H') : StQ CM CS H' p x y := by
  obtain ⟨lo, hi, h1, h2, h3⟩ := a
  exact ⟨lo, hi, h1.nl s, h2, h3⟩
/-- the stretch of a size, or None -/
def RunV (CM CS : Addr) (H : Hp) (v : V) (zs : List Q2) (r : Str) (lo hi : Option Q2) (n : Nat) : Prop :=
  (sizB zs r lo hi n = true ∧ ∃ p, v = .ref p ∧ StQ CM CS H p (sizE zs r lo hi n).1 (sizE zs r lo hi n).2) ∨ (sizB zs r lo hi n = false ∧ v = .non)
section
variable {CM CS : Addr} {H H' : Hp} {v : V} {zs : List Q2} {r : Str} {lo hi : Option Q2} {n : Nat}
theorem RunV.same (a : RunV CM CS H v zs r lo hi n) (s : Same H H') : RunV CM CS H' v zs r lo hi n := by
  rcases a with ⟨h, p, e, q⟩ | h
  · exact .inl ⟨h, p, e, q.same s⟩
  · exact .inr h
theorem RunV.nl (a : RunV CM CS H v zs r lo hi n) (s : Nl H H') : RunV CM CS H' v zs r lo hi n := by
  rcases a with ⟨h, p, e, q⟩ | h
  · exact .inl ⟨h, p, e, q.nl s⟩
  · exact .inr h
end
section
variable {CM CS : Addr} {H : Hp} {p q : Addr} {x y x2 y2 : Option Q2 × Bool}
theorem StQ.raw (a : StQ CM CS H p x y) {m : Str} (h1 : ¬ m = "low") (h2 : ¬ m = "high") (h3 : ¬ m = "low_in") (h4 : ¬ m = "high_in") {R : Prop} (h : R) : ∃ a dx fs, V.ref p = .ref a ∧ H a = some (.ins CS dx fs) ∧ fs.lookup m = none ∧ R := by
  obtain ⟨lo, hi, s, _⟩ := a
  exact meth_s s h1 h2 h3 h4 h
/-- an end of so many bits -/
def SzE (k : Nat) : Option Q2 → Prop
  | none => True
  | some a => Sz k a.1 ∧ Sz k a.2
end
theorem SzE.mono {k j : Nat} (l : k ≤ j) : ∀ {o : Option Q2}, SzE k o → SzE j o
  | none, _ => trivial
  | some _, h => ⟨h.1.mono l, h.2.mono l⟩
def SzL (k : Nat) (zs : List Q2) : Prop := ∀ z ∈ zs, Sz k z.1 ∧ Sz k z.2
theorem SzL.get {k : Nat} {zs : List Q2} (h : SzL k zs) (i : Nat) : SzE k zs[i]? := by
  cases e : zs[i]? with
  | none => trivial
  | some a => exact h a (List.mem_of_getElem? e)
theorem SzL.end {k : Nat} {zs : List Q2} (h : SzL k zs) (i : Int) : SzE k (endQ zs i) := by
  unfold endQ
  split
  · exact h.get _
  · trivial
theorem LawL.szs {H : Hp} {p : Addr} {part : Int} {ms : List Int} {r : Str} {lo hi : Option Int} (a : LawL H p part ms r lo hi) : SzL 40 (zq (4 * part) ms) ∧ SzE 40 (oq (4 * part) lo) ∧ SzE 40 (oq (4 * part) hi) := by
  have p0 := a.p0
  have p1 := a.p1
  have sp : Sz 40 (4 * part) := by show (4 * part).natAbs < 2 ^ 40; omega
  have sz : ∀ z : Int, -4000040 ≤ z → z ≤ 4000040 → Sz 40 z := fun z h1 h2 => by show z.natAbs < 2 ^ 40; omega
  refine ⟨fun z hz => ?_, ?_, ?_⟩
  · obtain ⟨m, hm, rfl⟩ := List.mem_map.mp hz
    have := a.bnd m hm
    exact ⟨sz m (by omega) (by omega), sp⟩
  · cases lo with
    | none => trivial
    | some z => have := a.blo z rfl; exact ⟨sz z this.1 this.2, sp⟩
  · cases hi with
    | none => trivial
    | some z => have := a.bhi z rfl; exact ⟨sz z this.1 this.2, sp⟩
theorem LadAt.up {K : PySem.W.Frag} {CM CL : Addr} {H : Hp} {p : Addr} {k j : Nat} {zs : List Q2} {r : Str} {lo hi : Option Q2} (a : LadAt K CM CL H p k zs r lo hi) (l : k ≤ j) : LadAt K CM CL H p j zs r lo hi := a.mono l
/-! ### measures that a stretch holds -/
def GoodM (CM : Addr) (x y : Option Q2 × Bool) (H : Hp) (ys : List V) : Prop := ∀ v ∈ ys, ∃ q z, v = .ref q ∧ QAt CM H q 300 z ∧ (loIn x.1 x.2 z && hiIn y.1 y.2 z) = true
theorem GoodM.nl {CM : Addr} {x y : Option Q2 × Bool} {H H' : Hp} {ys : List V} (g : GoodM CM x y H ys) (s : Nl H H') : GoodM CM x y H' ys := fun v hv => by
  obtain ⟨q, z, e, a, h⟩ := g v hv
  exact ⟨q, z, e, a.nl s, h⟩
theorem GoodM.snoc {CM : Addr} {x y : Option Q2 × Bool} {H : Hp} {ys : List V} {q : Addr} {z : Q2} (g : GoodM CM x y H ys) (a : QAt CM H q 300 z) (h : (loIn x.1 x.2 z && hiIn y.1 y.2 z) = true) : GoodM CM x y H (ys ++ [.ref q]) := fun v hv => by
  rcases List.mem_append.mp hv with hv | hv
  · exact g v hv
  · have : v = .ref q := by simpa using hv
    exact ⟨q, z, this, a, h⟩
section
variable {a b : Q2} {i j : Bool} {yo xo : Option Q2}
end
end My
namespace My
open PySem PySem.Spec PyProof.Rows L2
/-! ### comprehensions within comprehensions: the readings of the inner ones are found ahead -/
section
variable {X : Cx}
theorem pi_tupK {K : PySem.W.Frag} {tg l : Expr} {tl : TE} (hl : PE X l tl) (hK : X.K = K := by rfl) : PI X tg l (iTup K tl) := by subst hK; exact pi_tup hl
theorem pe_lcD {s0 : Shared} {H0 : Hp} {elt tg iter : Expr} {ifs : List Expr} {scope : Scope} {own : List (Str × Nat)} {pos : Pos} {wi : TI} {g : TG} {tt : TT} {te : TE} (hc : X.calm = true) (hN : X.N.Nodup) (hi : PI X tg iter wi) (ok : BlkOk X.N X.env.scope scope own)
    (_ : PTs (X.blk s0 H0 scope (compEnvC scope [] 0 X.env) []) ifs tt) (_ : PE (X.blk s0 H0 scope (compEnvC scope [] 0 X.env) []) elt te)
    (hg : ∀ (s : Shared) (H : Hp) (C : Addr) (cl : List (Str × Addr)) (fp : List Addr), PG (X.blk s H scope (compEnvC scope cl C X.env) fp) tg g) (ht : ∀ (s : Shared) (H : Hp) (C : Addr) (cl : List (Str × Addr)) (fp : List Addr), PTs (X.blk s H scope (compEnvC scope cl C X.env) fp) ifs tt)
    (he : ∀ (s : Shared) (H : Hp) (C : Addr) (cl : List (Str × Addr)) (fp : List Addr), PE (X.blk s H scope (compEnvC scope cl C X.env) fp) elt te) (hs : ∀ x, foldedSetIterable iter X.env x = pure x := by intro _; rfl) :
    PE X (.ListComp elt [⟨tg, iter, ifs, 0⟩] scope pos) (tLc wi g tt te (own.map (·.2))) := pe_lc hc hN hi ok hg ht he hs
end
end My
namespace My
open PySem PySem.Spec PyProof.Rows L2
/-! ### repr of a tuple that holds own objects -/
section
variable {X : Cx} {n : Nat} {CX : CXT} {C f : Addr} {fd : FuncData} {ps : List Str} {sp : Sp} {E : XK}
end
/-! ### == of tuples, item by item -/
section
open GQ
open AutoSeq1 (wpAny_loadPart')
variable {prog : Program} {w : World} {A : Around} {R : Result → Shared → Prop}
end
section
variable {X : Cx} {n : Nat} {D : Eqb}
end
/-! ### {x} of an own object, repr of one whose own def shows a tuple -/
section
variable {X : Cx} {n : Nat} {CX : CXT} {C f : Addr} {fd : FuncData} {ps : List Str} {sp : Sp} {E : XK}
end
end My
namespace My
open PySem PySem.Spec PyProof.Rows L2
/-! ### signs of texts; dicts beside own == -/
/-! ### own == within comprehensions: K by name -/
end My
/-! ### own errors whose __init__ calls super().__init__(..): over any built-in base -/
namespace My
open PySem PySem.Spec PyProof.Rows L2 NdefX Builtin Builtin.ObjectAttr
/-- own classes, then T -/
def refsT (T : List Value) : List Value → Bool
  | .ref _ :: r => refsT T r
  | l => l == T
/-- what is asked of the built-in base -/
structure BaseX (B newId initId : String) (T : List Value) : Prop where
  F : ExcBaseFacts B newId initId T
  KF : PySem.W.KxsFacts B initId
  pass : ∀ self, refuseLoop self "__setattr__" T = pure ()
  ob : T.contains (.type "object") = true
  ne : T ≠ []
  nr : ∀ c r, T ≠ .ref c :: r
theorem refsT_cases {T : List Value} : ∀ l : List Value, refsT T l = true → (∃ c r, l = .ref c :: r ∧ refsT T r = true) ∨ l = T
  | [], e => .inr (beq_iff_eq.mp e)
  | .ref c :: r, e => .inl ⟨c, r, rfl, e⟩
  | .none :: _, e => .inr (beq_iff_eq.mp e)
  | .ellipsis :: _, e => .inr (beq_iff_eq.mp e)
  | .notImplemented :: _, e => .inr (beq_iff_eq.mp e)
  | .bool _ :: _, e => .inr (beq_iff_eq.mp e)
  | .int _ _ :: _, e => .inr (beq_iff_eq.mp e)
  | .float _ _ :: _, e => .inr (beq_iff_eq.mp e)
  | .str _ _ :: _, e => .inr (beq_iff_eq.mp e)
  | .bytes _ _ :: _, e => .inr (beq_iff_eq.mp e)
  | .type _ :: _, e => .inr (beq_iff_eq.mp e)
  | .builtin _ :: _, e => .inr (beq_iff_eq.mp e)
section
variable {B newId initId : String} {T : List Value} (bx : BaseX B newId initId T)
include bx
theorem BaseX.contains (X : String) : ∀ l : List Value, refsT T l = true → l.contains (.type X) = T.contains (.type X) := by
  intro l
  induction l with
  | nil => intro e; exact absurd (beq_iff_eq.mp e).symm bx.ne
  | cons a r ih =>
    intro e
    rcases refsT_cases (a :: r) e with ⟨c, r', q, h⟩ | q
    · obtain ⟨rfl, rfl⟩ := List.cons.inj q
      rw [List.contains_cons, ih h]; rfl
    · rw [q]
end
section
open PySem.HandSPX (store_in_new)
variable {prog : Program} {w : World} {A : Around} {E : Value → Shared → Prop} {R : Result → Shared → Prop} {hp : Heap} {g : Array GenState} {d : Drawn} {t : Nat} {os : OsState}
end
section
variable {Bn newId initId : String} {T : List Value} (bx : BaseX Bn newId initId T) {X : Cx} {pins : List (Addr × Obj)} {σ : L2.St} {H : Hp} {s : Shared} {a C dx : Addr} {f : Str} {y : V} {u : Value} {fs : List (Str × V)} {Q : Unit → Shared → Prop} {E : Value → Shared → Prop} {A : Around}
include bx
end
/-! ### super().__init__(..), then the fields -/
/-- an own __init__ as it stands behind the top: its closure one cell that holds its class; f its address, cc the cell, cda its code object, told by the file fl -/
structure SupD (K : PySem.W.Frag) (C : Addr) (name qual : Str) (params : Arguments) (body : List Stmt) (scope : Scope) (dvs : List V) (f cc cda : Addr) (fl : Str) (fd : FuncData) : Prop where
  ex : ∃ (oc : Value) (od : Option Addr) (dV kV doc pm : Value) (an : Option Addr) (ct : Value) (osl : Array (Option Value)),
    fd = PySem.W.fnX name qual params body scope [("__class__", cc)] dV kV doc pm an (.ref cda) ct ∧ K.lookup f = some ⟨oc, od, .func fd, osl⟩ ∧ DflV K dV dvs ∧ KwdV K kV []
  cell : ∃ (c0 : Value) (d0 : Option Addr) (s0 : Array (Option Value)), K.lookup cc = some ⟨c0, d0, .cell (some (.ref C)), s0⟩
  code : ∃ (c0 : Value) (d0 : Option Addr) (vs : Array Value) (s0 : Array (Option Value)) (tf : Tok), K.lookup cda = some ⟨c0, d0, .fields vs, s0⟩ ∧ vs[2]? = some (.str fl tf)
  cin : PySem.W.codeIn K (.ref cda) qual = true
  kp : PySem.W.keepIn K (.ref f) = true
section
variable {Bn newId initId : String} {T : List Value} (bx : BaseX Bn newId initId T) {X : Cx} {pins : List (Addr × Obj)} {σ : L2.St} {H : Hp} {s : Shared} {e C : Addr} {Q : Value → Shared → Prop}
include bx
end
section
variable {Bn newId initId : String} {T : List Value} (bx : BaseX Bn newId initId T) {X : Cx} {pins : List (Addr × Obj)} {σ : L2.St} {H : Hp} {s : Shared} {a C cc cda f : Addr}
include bx
end
section
variable {Bn newId initId : String} {T : List Value} (bx : BaseX Bn newId initId T) {CX : CXT} {P : Program} {w : World} {K : PySem.W.Frag} {mg : Str → Option Value} {base : Heap} {k : Nat} {C : Addr}
include bx
end
end My
/-! ### errors with fields: made, caught, kept -/
namespace My
open PySem PySem.Spec PyProof.Rows L2 NdefX
/-! #### what the top has written of them -/
/-! #### the head with such __init__ -/
theorem SupD.bindsA {K : PySem.W.Frag} {C : Addr} {name qual : Str} {params : Arguments} {body : List Stmt} {scope : Scope} {f cc cda : Addr} {fl : Str} {fd : FuncData} {ps : List Str} (D : SupD K C name qual params body scope [] f cc cda fl fd)
    (h : ∀ (kV doc pm : Value) (an : Option Addr) (ct : Value) (us : List Value), us.length = ps.length → bindArgs (PySem.W.fnX name qual params body scope [("__class__", cc)] .none kV doc pm an (.ref cda) ct) ⟨us, []⟩ = pure (ps.zip us)) : Binds K fd ps [] := by
  obtain ⟨oc, od, dV, kV, doc, pm, an, ct, osl, rfl, lk, hD, hK⟩ := D.ex
  rcases hD with ⟨_, rfl⟩ | ⟨e, _⟩
  · exact .all (h kV doc pm an ct)
  · exact absurd rfl e
/-! #### self.f = e -/
/-! #### C(e, ..) -/
section
variable {Bn newId initId : String} {T : List Value} {X : Cx} {e : Expr} {es : List Expr} {ta : TA} {p pos : Pos} {CX : CXT} {x : Str} {C fI : Addr} {k : Nat} {fd : FuncData} {ps : List Str} {ds : List Value} {dvs : List V} {f g : Str}
end
/-! #### an error that was caught and is kept -/
/-! #### what is asked of a kept error -/
end My
namespace PySem.W
open PySem PySem.Spec PySem.Calls PyProof.Rows
section
variable {prog : Program} {w : World} {A : Around} {E : Value → Shared → Prop} {s : Shared} {K : Frag} {x D : Addr} {ox : Obj} {od : Option Obj}
end
end PySem.W
namespace My
open PySem PySem.Spec PyProof.Rows L2 NdefX
end My
/-! ### repr of plain dicts; things of any kind -/
namespace My
open PySem PySem.Spec PyProof.Rows L2 NdefX
def encK : Key → PyData
  | .inl i => .int i
  | .inr x => .str x
/-- a plain value: none, a truth, a whole number, a text -/
inductive Plain : V → PyData → Prop
  | non : Plain .non .none
  | bl (b : Bool) : Plain (.bl b) (.bool b)
  | int (i : Int) : Plain (.int i) (.int i)
  | str (x : Str) : Plain (.str x) (.str x)
inductive Flat : List (Key × V) → List (PyData × PyData) → Prop
  | nil : Flat [] []
  | cons {k : Key} {v : V} {d : PyData} {kvs : List (Key × V)} {D : List (PyData × PyData)} : Plain v d → Flat kvs D → Flat ((k, v) :: kvs) ((encK k, d) :: D)
/-- what repr shows of it -/
inductive Shw (K : PySem.W.Frag) (H : Hp) : V → Str → Prop
  | data {v : V} {d : PyData} : Dp K H v d → d.showable = true → d.hasDict = false → d.depth ≤ 60 → d.shown.length ≤ sizeLine → Shw K H v d.shown
  | dict {a : Addr} {kvs : List (Key × V)} {D : List (PyData × PyData)} : H a = some (.dK kvs) → Flat kvs D → (PyData.dict D).showable = true → (PyData.dict D).depth ≤ 60 → (PyData.dict D).shown.length ≤ sizeLine → Shw K H (.ref a) (PyData.dict D).shown
mutual
theorem Dp.same {K : PySem.W.Frag} {H H' : Hp} (s : Same H H') : ∀ {v : V} {d : PyData}, Dp K H v d → Dp K H' v d
  | _, _, .non => .non
  | _, _, .bl b => .bl b
  | _, _, .int i => .int i
  | _, _, .str x => .str x
  | _, _, .lst h a => .lst (s.seq h) (DpAll.same s a)
  | _, _, .tup h a => .tup (s.sqt h) (DpAll.same s a)
theorem DpAll.same {K : PySem.W.Frag} {H H' : Hp} (s : Same H H') : ∀ {vs : List V} {ds : List PyData}, DpAll K H vs ds → DpAll K H' vs ds
  | _, _, .nil => .nil
  | _, _, .cons h r => .cons (Dp.same s h) (DpAll.same s r)
end
theorem Shw.same {K : PySem.W.Frag} {H H' : Hp} {v : V} {z : Str} (h : Shw K H v z) (s : Same H H') : Shw K H' v z := by
  cases h with
  | data d a b c e => exact .data (Dp.same s d) a b c e
  | dict ha hf a b c => exact .dict (s _ _ ha) hf a b c
/-- its kind: one of the seven built-in ones -/
def Kd (H : Hp) (v : V) (kn : String) : Prop := (v = .non ∧ kn = "NoneType") ∨ (∃ b, v = .bl b ∧ kn = "bool") ∨ (∃ i, v = .int i ∧ kn = "int") ∨ (∃ z, v = .str z ∧ kn = "str") ∨ (∃ a xs, v = .ref a ∧ H a = some (.lst xs) ∧ kn = "list") ∨ (∃ a xs, v = .ref a ∧ H a = some (.tup xs) ∧ kn = "tuple") ∨ (∃ a xs, v = .ref a ∧ H a = some (.dK xs) ∧ kn = "dict")
theorem Kd.same {H H' : Hp} {v : V} {kn : String} (h : Kd H v kn) (s : Same H H') : Kd H' v kn := by
  rcases h with h | h | h | h | ⟨a, xs, e, h, n⟩ | ⟨a, xs, e, h, n⟩ | ⟨a, xs, e, h, n⟩
  · exact .inl h
  · exact .inr (.inl h)
  · exact .inr (.inr (.inl h))
  · exact .inr (.inr (.inr (.inl h)))
  · exact .inr (.inr (.inr (.inr (.inl ⟨a, xs, e, s _ _ h, n⟩))))
  · exact .inr (.inr (.inr (.inr (.inr (.inl ⟨a, xs, e, s _ _ h, n⟩)))))
  · exact .inr (.inr (.inr (.inr (.inr (.inr ⟨a, xs, e, s _ _ h, n⟩)))))
theorem Kd.ty {K : PySem.W.Frag} {H : Hp} {v : V} {kn : String} (h : Kd H v kn) : TyX K H v (.type kn) := by
  rcases h with ⟨rfl, rfl⟩ | ⟨b, rfl, rfl⟩ | ⟨i, rfl, rfl⟩ | ⟨z, rfl, rfl⟩ | ⟨a, xs, rfl, h, rfl⟩ | ⟨a, xs, rfl, h, rfl⟩ | ⟨a, xs, rfl, h, rfl⟩
  · exact .base .non
  · exact .base (.bl b)
  · exact .base (.int i)
  · exact .base (.str z)
  · exact .base (.lst h)
  · exact .base (.tup h)
  · exact .base (.dK h)
/-! ### o.m(e, ..) in a body from which an error may come -/
section
variable {X : Cx} {CX : CXT} {k : Nat} {f C : Addr} {fd : FuncData} {ps : List Str} {sp : Sp} {dvs : List V} {ds : List Value} {E : L2.St → XK} {x m : Str} {p pos apos : Pos} {e o : Expr} {es : List Expr} {ta : TE} {t : TA}
end
end My
namespace My
open PySem PySem.Spec PyProof.Rows L2
/-! ### comprehensions with two walks -/
/-- what the inner walk is asked -/
def Inn2 (g1 : TG) (tt1 : TT) (te : TE) (vs1 : List Nat) (D : Addr) (NX : Hp → Prop) (σ2 : L2.St) (J1 : It) (H4 : Hp) : Prop :=
  ∃ W1 : Nat → Nat → Hp → Prop, (∃ m, W1 0 m H4) ∧ ∀ j k H, W1 j k H →
      (J1.stop j H ∧ NX H) ∨ (J1.go j H ∧ ∃ Nx1 : Hp → Prop, (∀ H', Nx1 H' → ∃ k', k' < k ∧ W1 (j + 1) k' H') ∧ ∀ x H', J1.yld j H x H' → g1 x (wipe σ2 vs1) H' fun σ3 H5 => wipe σ3 vs1 = wipe σ2 vs1 ∧ tt1 σ3 H5 fun b H6 =>
        if b = true then te σ3 H6 fun y H7 => ∃ acc, H7 D = some (.lst acc) ∧ acc.length < sizeLine ∧ Nx1 (upd H7 D (.lst (acc ++ [y]))) else Nx1 H6)
theorem inn2 {J1 : It} {m : Nat} {G1 : Hp → Prop} {Y1 : Nat → Hp → V → Hp → Prop} (w : Walk J1 m G1 Y1) {g1 : TG} {tt1 : TT} {te : TE} {vs1 : List Nat} {D : Addr} {NX : Hp → Prop} {σ2 : L2.St} {H4 : Hp} (Pv : Nat → Hp → Prop) (h0 : Pv 0 H4) (hG : ∀ j H, j ≤ m → Pv j H → G1 H)
    (hs : ∀ j x H H', j < m → Pv j H → Y1 j H x H' → g1 x (wipe σ2 vs1) H' fun σ3 H5 => wipe σ3 vs1 = wipe σ2 vs1 ∧ tt1 σ3 H5 fun b H6 =>
        if b = true then te σ3 H6 fun y H7 => ∃ acc, H7 D = some (.lst acc) ∧ acc.length < sizeLine ∧ Pv (j + 1) (upd H7 D (.lst (acc ++ [y]))) else Pv (j + 1) H6) (hd : ∀ H, Pv m H → NX H) : Inn2 g1 tt1 te vs1 D NX σ2 J1 H4 := by
  refine ⟨fun j k H => k = m - j ∧ j ≤ m ∧ Pv j H, ⟨m, by simp, Nat.zero_le _, h0⟩, ?_⟩
  rintro i k H ⟨rfl, hi, p⟩
  have q := hG i H hi p
  by_cases hlt : i < m
  · refine .inr ⟨w.goes i H hlt q, Pv (i + 1), fun H' p' => ⟨m - (i + 1), by omega, rfl, hlt, p'⟩, fun x H' y => hs i x H H' hlt p (w.yields i H x H' hlt q y)⟩
  · have e : i = m := by omega
    subst e
    exact .inl ⟨w.stops H q, hd H p⟩
/-! ### pairs of sizes, feet, rules broken -/
def PrV (H : Hp) (v : V) (p : Nat × Nat) : Prop := ∃ T, v = .ref T ∧ H T = some (.tup [.int (p.1 : Int), .int (p.2 : Int)])
theorem PrV.same {H H' : Hp} {v : V} {p : Nat × Nat} (a : PrV H v p) (s : Same H H') : PrV H' v p := by
  obtain ⟨T, e, h⟩ := a
  exact ⟨T, e, s _ _ h⟩
theorem PrV.nl {H H' : Hp} {v : V} {p : Nat × Nat} (a : PrV H v p) (s : Nl H H') : PrV H' v p := by
  obtain ⟨T, e, h⟩ := a
  exact ⟨T, e, s _ _ h rfl⟩
theorem PrV.kp {H H' : Hp} {h : Addr} {n : Nat} {v : V} {p : Nat × Nat} (a : PrV H v p) (hh : HandAt H h n) (s : Kp h H H') : PrV H' v p := by
  obtain ⟨T, e, h⟩ := a
  exact ⟨T, e, s.get hh h rfl⟩
/-- a grid, its ladders, their bits -/
structure GC (K : PySem.W.Frag) (CM CL CG : Addr) (H : Hp) (p : Addr) (j k : Nat) (L1 L2 : Addr) (zs ys : List Q2) (g : Q2) : Prop where
  ag : GrdAt K CM CL CG H p j L1 L2 g
  a1 : LadE K CM CL H L1 k zs
  a2 : LadE K CM CL H L2 k ys
  j0 : 0 < j
  j1 : j ≤ 1000
  k0 : 0 < k
  k1 : k ≤ 1000
  l0 : 0 < zs.length
  l1 : zs.length ≤ 24
  m0 : 0 < ys.length
  m1 : ys.length ≤ 24
section
variable {K : PySem.W.Frag} {CM CL CG p h L1 L2 : Addr} {H H' : Hp} {j k n : Nat} {zs ys : List Q2} {g : Q2}
theorem GC.same (a : GC K CM CL CG H p j k L1 L2 zs ys g) (s : Same H H') : GC K CM CL CG H' p j k L1 L2 zs ys g := by
  obtain ⟨r1, lo1, hi1, a1⟩ := a.a1
  obtain ⟨r2, lo2, hi2, a2⟩ := a.a2
  exact { a with ag := a.ag.same s, a1 := ⟨_, _, _, a1.same s⟩, a2 := ⟨_, _, _, a2.same s⟩ }
theorem GC.kp (a : GC K CM CL CG H p j k L1 L2 zs ys g) (hh : HandAt H h n) (s : Kp h H H') : GC K CM CL CG H' p j k L1 L2 zs ys g := by
  obtain ⟨r1, lo1, hi1, a1⟩ := a.a1
  obtain ⟨r2, lo2, hi2, a2⟩ := a.a2
  exact { a with ag := a.ag.kp hh s, a1 := ⟨_, _, _, a1.kp hh s⟩, a2 := ⟨_, _, _, a2.kp hh s⟩ }
end
/-- a foot: two Measures -/
def FtV (K : PySem.W.Frag) (CM : Addr) (H : Hp) (m : Nat) (v : V) (f : Q2 × Q2) : Prop := ∃ t f1 f2, v = .ref t ∧ SqT K H t [.ref f1, .ref f2] ∧ QAt CM H f1 m f.1 ∧ QAt CM H f2 m f.2
theorem FtV.same {K : PySem.W.Frag} {CM : Addr} {H H' : Hp} {m : Nat} {v : V} {f : Q2 × Q2} (a : FtV K CM H m v f) (s : Same H H') : FtV K CM H' m v f := by
  obtain ⟨t, f1, f2, e, h1, h2, h3⟩ := a
  exact ⟨t, f1, f2, e, s.sqt h1, h2.same s, h3.same s⟩
theorem FtV.nl {K : PySem.W.Frag} {CM : Addr} {H H' : Hp} {m : Nat} {v : V} {f : Q2 × Q2} (a : FtV K CM H m v f) (s : Nl H H') : FtV K CM H' m v f := by
  obtain ⟨t, f1, f2, e, h1, h2, h3⟩ := a
  exact ⟨t, f1, f2, e, sqt_nl h1 s, h2.nl s, h3.nl s⟩
theorem FtV.kp {K : PySem.W.Frag} {CM : Addr} {H H' : Hp} {h : Addr} {n m : Nat} {v : V} {f : Q2 × Q2} (a : FtV K CM H m v f) (hh : HandAt H h n) (s : Kp h H H') : FtV K CM H' m v f := by
  obtain ⟨t, f1, f2, e, h1, h2, h3⟩ := a
  exact ⟨t, f1, f2, e, sqt_kp h1 hh s, h2.kp hh s, h3.kp hh s⟩
/-- several feet -/
structure Fts (K : PySem.W.Frag) (CM : Addr) (H : Hp) (m : Nat) (us : List V) (fs : List (Q2 × Q2)) : Prop where
  len : us.length = fs.length
  all : ∀ (i : Nat) (v : V) (f : Q2 × Q2), us[i]? = some v → fs[i]? = some f → FtV K CM H m v f
section
variable {K : PySem.W.Frag} {CM h : Addr} {H H' : Hp} {m n : Nat} {us : List V} {fs : List (Q2 × Q2)}
theorem Fts.same (a : Fts K CM H m us fs) (s : Same H H') : Fts K CM H' m us fs := ⟨a.len, fun i v f h1 h2 => (a.all i v f h1 h2).same s⟩
theorem Fts.nl (a : Fts K CM H m us fs) (s : Nl H H') : Fts K CM H' m us fs := ⟨a.len, fun i v f h1 h2 => (a.all i v f h1 h2).nl s⟩
theorem Fts.kp (a : Fts K CM H m us fs) (hh : HandAt H h n) (s : Kp h H H') : Fts K CM H' m us fs := ⟨a.len, fun i v f h1 h2 => (a.all i v f h1 h2).kp hh s⟩
theorem Fts.of (a : Fts K CM H m us fs) {i : Nat} {v : V} (h1 : us[i]? = some v) : ∃ f, fs[i]? = some f ∧ FtV K CM H m v f := by
  have hi : i < fs.length := by rw [← a.len]; exact (List.getElem?_eq_some_iff.mp h1).1
  exact ⟨_, List.getElem?_eq_getElem hi, a.all i v _ h1 (List.getElem?_eq_getElem hi)⟩
theorem Fts.at (a : Fts K CM H m us fs) {i : Nat} {f : Q2 × Q2} (h1 : fs[i]? = some f) : ∃ v, us[i]? = some v ∧ FtV K CM H m v f := by
  have hi : i < us.length := by rw [a.len]; exact (List.getElem?_eq_some_iff.mp h1).1
  exact ⟨_, List.getElem?_eq_getElem hi, a.all i _ f (List.getElem?_eq_getElem hi) h1⟩
end
def FoV (H : Hp) (v : V) : Option (Nat × Str) → Prop
  | none => v = .non
  | some q => ∃ T, v = .ref T ∧ H T = some (.tup [.int (q.1 : Int), .str q.2])
theorem FoV.same {H H' : Hp} {v : V} (s : Same H H') : ∀ {o : Option (Nat × Str)}, FoV H v o → FoV H' v o
  | none, h => h
  | some _, ⟨T, h1, h2⟩ => ⟨T, h1, s _ _ h2⟩
/-- a paper -/
def PpV (H : Hp) (v : V) (p : Nat × Nat) (q : Nat × Str) : Prop := ∃ T, v = .ref T ∧ H T = some (.tup [.int (p.1 : Int), .int (p.2 : Int), .int (q.1 : Int), .str q.2])
theorem PpV.same {H H' : Hp} {v : V} {p : Nat × Nat} {q : Nat × Str} (a : PpV H v p q) (s : Same H H') : PpV H' v p q := by
  obtain ⟨T, e, h⟩ := a
  exact ⟨T, e, s _ _ h⟩
theorem PpV.nl {H H' : Hp} {v : V} {p : Nat × Nat} {q : Nat × Str} (a : PpV H v p q) (s : Nl H H') : PpV H' v p q := by
  obtain ⟨T, e, h⟩ := a
  exact ⟨T, e, s _ _ h rfl⟩
theorem PpV.kp {H H' : Hp} {h : Addr} {n : Nat} {v : V} {p : Nat × Nat} {q : Nat × Str} (a : PpV H v p q) (hh : HandAt H h n) (s : Kp h H H') : PpV H' v p q := by
  obtain ⟨T, e, h⟩ := a
  exact ⟨T, e, s.get hh h rfl⟩
/-- the papers of pairs each of which is broken -/
structure Pps (H : Hp) (us : List V) (ps : List (Nat × Nat)) (F : Nat × Nat → Option (Nat × Str)) : Prop where
  len : us.length = ps.length
  all : ∀ (i : Nat) (v : V) (p : Nat × Nat), us[i]? = some v → ps[i]? = some p → ∃ q, F p = some q ∧ PpV H v p q
section
variable {H H' : Hp} {h : Addr} {n : Nat} {us : List V} {ps : List (Nat × Nat)} {F : Nat × Nat → Option (Nat × Str)}
theorem Pps.same (a : Pps H us ps F) (s : Same H H') : Pps H' us ps F := ⟨a.len, fun i v p h1 h2 => by
  obtain ⟨q, e, h⟩ := a.all i v p h1 h2
  exact ⟨q, e, h.same s⟩⟩
theorem Pps.nl (a : Pps H us ps F) (s : Nl H H') : Pps H' us ps F := ⟨a.len, fun i v p h1 h2 => by
  obtain ⟨q, e, h⟩ := a.all i v p h1 h2
  exact ⟨q, e, h.nl s⟩⟩
theorem Pps.kp (a : Pps H us ps F) (hh : HandAt H h n) (s : Kp h H H') : Pps H' us ps F := ⟨a.len, fun i v p h1 h2 => by
  obtain ⟨q, e, h⟩ := a.all i v p h1 h2
  exact ⟨q, e, h.kp hh s⟩⟩
end
/-- what pair_for tells -/
def ToldV (H : Hp) (v : V) (ps : List (Nat × Nat)) (F : Nat × Nat → Option (Nat × Str)) : Option (Nat × Nat) → Prop
  | some p => ∃ T w, v = .ref T ∧ H T = some (.tup [.str "pair", w]) ∧ PrV H w p
  | none => ∃ T q us, v = .ref T ∧ H T = some (.tup [.str "none", .ref q]) ∧ H q = some (.tup us) ∧ Pps H us ps F
theorem ToldV.same {H H' : Hp} {v : V} {ps : List (Nat × Nat)} {F : Nat × Nat → Option (Nat × Str)} (s : Same H H') : ∀ {o : Option (Nat × Nat)}, ToldV H v ps F o → ToldV H' v ps F o
  | some _, ⟨T, w, h1, h2, h3⟩ => ⟨T, w, h1, s _ _ h2, h3.same s⟩
  | none, ⟨T, q, us, h1, h2, h3, h4⟩ => ⟨T, q, us, h1, s _ _ h2, s _ _ h3, h4.same s⟩
theorem ToldV.nl {H H' : Hp} {v : V} {ps : List (Nat × Nat)} {F : Nat × Nat → Option (Nat × Str)} (s : Nl H H') : ∀ {o : Option (Nat × Nat)}, ToldV H v ps F o → ToldV H' v ps F o
  | some _, ⟨T, w, h1, h2, h3⟩ => ⟨T, w, h1, s _ _ h2 rfl, h3.nl s⟩
  | none, ⟨T, q, us, h1, h2, h3, h4⟩ => ⟨T, q, us, h1, s _ _ h2 rfl, s _ _ h3 rfl, h4.nl s⟩
theorem ToldV.kp {H H' : Hp} {h : Addr} {n : Nat} {v : V} {ps : List (Nat × Nat)} {F : Nat × Nat → Option (Nat × Str)} (hh : HandAt H h n) (s : Kp h H H') : ∀ {o : Option (Nat × Nat)}, ToldV H v ps F o → ToldV H' v ps F o
  | some _, ⟨T, w, h1, h2, h3⟩ => ⟨T, w, h1, s.get hh h2 rfl, h3.kp hh s⟩
  | none, ⟨T, q, us, h1, h2, h3, h4⟩ => ⟨T, q, us, h1, s.get hh h2 rfl, s.get hh h3 rfl, h4.kp hh s⟩
end My
/-! ### zip of two walks, each over a list (false) or a tuple (true) -/
namespace My
open PySem PySem.Spec PyProof.Rows L2
def KI (b : Bool) (h : Heap) (it l : Addr) (i : Nat) : Prop := if b = true then h.IsTupleIter it l i else h.IsListIter it l i
def KS (b : Bool) (h : Heap) (l : Addr) (items : Array Value) : Prop := if b = true then h.IsTuple l items else h.IsList l items
section
variable {b : Bool} {h h' : Heap} {it l c : Addr} {i : Nat} {items : Array Value}
theorem KI.obj (a : KI b h it l i) : ∃ o, h.get? it = some o ∧ ∀ v, o.data ≠ .cell v := by
  cases b with
  | false =>
    obtain ⟨o, e, _, d⟩ := (show h.IsListIter it l i from a)
    exact ⟨o, e, fun v q => by rw [d] at q; cases q⟩
  | true =>
    obtain ⟨o, e, _, d⟩ := (show h.IsTupleIter it l i from a)
    exact ⟨o, e, fun v q => by rw [d] at q; cases q⟩
theorem KS.lt (a : KS b h l items) : l < h.objs.size := by
  cases b with
  | false =>
    obtain ⟨o, e, _⟩ := (show h.IsList l items from a)
    exact Heap.lt_size e
  | true =>
    obtain ⟨o, e, _⟩ := (show h.IsTuple l items from a)
    exact Heap.lt_size e
end
section
variable {prog : Program} {w : World} {A : Around} {E : Value → Shared → Prop} {s : Shared} {b : Bool} {it l : Addr} {i : Nat} {items : Array Value}
end

section
variable {prog : Program} {w : World} {A : Around} {E : Value → Shared → Prop} {s : Shared} {b1 b2 : Bool} {z TI TO i1 i2 l1 l2 : Addr} {k1 k2 : Nat} {xs ys : Array Value} {x y a b : Value}
end

/-! ### a > b of pairs of whole numbers -/
theorem intsAt {its : List Value} {ns : List Int} (i1 : IntsAre its ns) (j : Nat) (h : j < its.toArray.size) : ∃ t, its.toArray[j] = .int (ns.getD j 0) t :=
  PyProof.Rows.IntsAre.int_at i1 _ _ (by simp at h; simp [h])
theorem eqI_at {A : Around} {s : Shared} (a b : Int) (t u : Tok) : SeqAt.EqAt A s (.int a t) (.int b u) (decide (a = b)) := by
  have z : (a == b) = decide (a = b) := by
    rw [Bool.eq_iff_iff]
    simp
  rw [← z]
  exact SeqAt.EqAt.int_int _ _ _ _
/-! ### t != () -/
end My
namespace My
open PySem PySem.Spec PyProof.Rows L2
/-- what two walks tell, by places: the first k of n times m -/
def tell2 (m : Nat) (z : Nat → Nat → Option V) (k : Nat) : List V := (List.range k).filterMap fun c => z (c / m) (c % m)
theorem tell2_succ (m : Nat) (z : Nat → Nat → Option V) (k : Nat) : tell2 m z (k + 1) = tell2 m z k ++ (z (k / m) (k % m)).toList := by
  unfold tell2
  rw [List.range_succ, List.filterMap_append]
  congr 1
theorem tell2_len (m : Nat) (z : Nat → Nat → Option V) (k : Nat) : (tell2 m z k).length ≤ k := by
  unfold tell2
  exact Nat.le_trans (List.length_filterMap_le _ _) (by rw [List.length_range]; exact Nat.le_refl _)
theorem divmod_at {m i j : Nat} (hj : j < m) : (i * m + j) / m = i ∧ (i * m + j) % m = j := by
  have e1 : (i * m + j) / m = i := by rw [Nat.mul_comm, Nat.mul_add_div (by omega), Nat.div_eq_of_lt hj, Nat.add_zero]
  have e2 : (i * m + j) % m = j := by rw [Nat.mul_comm, Nat.mul_add_mod, Nat.mod_eq_of_lt hj]
  exact ⟨e1, e2⟩
/-- a comprehension of two walks: the elements are known -/
theorem lc2z {J : It} {n m : Nat} {G : Hp → Prop} {Y : Nat → Hp → V → Hp → Prop} {g g1 : TG} {tt tt1 : TT} {wi1 : TI} {te : TE} {vs vs1 : List Nat} {σ : L2.St} {H1 : Hp} {D : Addr} {Qd : Hp → Prop}
    (w : Walk J n G Y) (hGs : ∀ H H', G H → Same H H' → G H') (z : Nat → Nat → Option V) (hz : n * m < sizeLine) (hG : G H1) (hD : H1 D = none)
    (hs : ∀ (i : Nat) (x : V) (H H' : Hp) (NX : Hp → Prop), i < n → Same H1 H → Y i H x H' →
      (∀ (J1 : It) (H4 : Hp) (σ2 : L2.St) (G1 : Hp → Prop) (Y1 : Nat → Hp → V → Hp → Prop), Same H H4 → Walk J1 m G1 Y1 → (∀ H5, Same H1 H5 → G1 H5) →
        (∀ (j : Nat) (x : V) (H5 H6 : Hp) (N : VK) (M : Hp → Prop), j < m → Same H1 H5 → Y1 j H5 x H6 → (∀ y H7, z i j = some y → Same H5 H7 → N y H7) → (∀ H7, z i j = none → Same H5 H7 → M H7) →
          g1 x (wipe σ2 vs1) H6 fun σ3 H8 => wipe σ3 vs1 = wipe σ2 vs1 ∧ tt1 σ3 H8 fun b H9 => if b = true then te σ3 H9 N else M H9) → Inn2 g1 tt1 te vs1 D NX σ2 J1 H4) →
      g x (wipe σ vs) H' fun σ2 H2 => wipe σ2 vs = wipe σ vs ∧ tt σ2 H2 fun b H3 => if b = true then wi1 σ2 H3 fun J1 H4 => Inn2 g1 tt1 te vs1 D NX σ2 J1 H4 else NX H3)
    (hd : ∀ H, Same H1 H → H D = some (.lst (tell2 m z (n * m))) → Qd H) :
    ∃ W : Nat → Nat → Hp → Prop, (∃ m, W 0 m (upd H1 D (.lst []))) ∧ ∀ i m H, W i m H →
  (J.stop i H ∧ Qd H) ∨ (J.go i H ∧ ∃ Nx : Hp → Prop, (∀ H', Nx H' → ∃ m', m' < m ∧ W (i + 1) m' H') ∧ ∀ x H', J.yld i H x H' → g x (wipe σ vs) H' fun σ2 H2 => wipe σ2 vs = wipe σ vs ∧ tt σ2 H2 fun b H3 =>
    if b = true then wi1 σ2 H3 fun J1 H4 => Inn2 g1 tt1 te vs1 D Nx σ2 J1 H4
    else Nx H3) := by
  let Pv : Nat → Hp → Prop := fun k H => Same H1 H ∧ H D = some (.lst (tell2 m z k))
  refine ⟨fun i k H => k = n - i ∧ i ≤ n ∧ Pv (i * m) H, ⟨n, by simp, Nat.zero_le _, by rw [Nat.zero_mul]; exact ⟨same1 hD, upd_same⟩⟩, ?_⟩
  rintro i k H ⟨rfl, hi, p⟩
  have q := hGs _ _ hG p.1
  by_cases hlt : i < n
  · refine .inr ⟨w.goes i H hlt q, Pv ((i + 1) * m), fun H' p' => ⟨n - (i + 1), by omega, rfl, hlt, p'⟩, fun x H' y => ?_⟩
    refine hs i x H H' _ hlt p.1 (w.yields i H x H' hlt q y) (fun J1 H4 σ2 G1 Y1 s4 w1 hG1 hin => ?_)
    refine inn2 w1 (fun j H => Pv (i * m + j) H) ⟨p.1.trans s4, s4 _ _ p.2⟩ (fun j H _ p => hG1 _ p.1) (fun j x H5 H6 hj p5 y5 => ?_) (fun H p => ?_)
    · obtain ⟨s1, h1⟩ := p5
      have lt : i * m + j < n * m := by
        have : (i + 1) * m ≤ n * m := Nat.mul_le_mul_right _ hlt
        rw [Nat.add_mul, Nat.one_mul] at this
        omega
      obtain ⟨e1, e2⟩ := divmod_at (i := i) hj
      have es := tell2_succ m z (i * m + j)
      rw [e1, e2] at es
      refine hin j x H5 H6 _ (Pv (i * m + (j + 1))) hj s1 y5 (fun v H7 ev s7 => ⟨_, s7 _ _ h1, Nat.lt_of_le_of_lt (tell2_len _ _ _) (by omega), ?_, ?_⟩) (fun H7 ev s7 => ⟨s1.trans s7, ?_⟩)
      · intro c o ec
        rw [upd_ne (ne_of_none ec hD)]
        exact s7 _ _ (s1 _ _ ec)
      · rw [upd_same, ← Nat.add_assoc, es, ev]
        rfl
      · rw [← Nat.add_assoc, es, ev, Option.toList_none, List.append_nil]
        exact s7 _ _ h1
    · have e : (i + 1) * m = i * m + m := by rw [Nat.add_mul, Nat.one_mul]
      show Pv ((i + 1) * m) H
      rw [e]
      exact p
  · have e : i = n := by omega
    subst e
    exact .inl ⟨w.stops H q, hd H p.1 p.2⟩
end My
namespace My
open PySem PySem.Spec PyProof.Rows L2
/-! ### sorted(xs, key=len), xs a list of tuples -/
section
variable {prog : Program} {w : World} {A : Around} {E : Value → Shared → Prop} {s : Shared} {h0 : Heap} {a kS : Addr} {vs : List Value} {kz : List Int} {keys : Array Value} {e e1 : Nat} {P : PySem.Fin → Shared → Prop}
end
section
variable {prog : Program} {w : World} {A : Around} {E : Value → Shared → Prop} {s : Shared} {l : Addr} {vs : List Value} {kz : List Int} {Q : Value → Shared → Prop}
end
section
variable {X : Cx}
end
end My
namespace My
open PySem PySem.Spec PyProof.Rows L2
/-! ### min of a list of pairs of whole numbers -/
section
variable {prog : Program} {w : World} {A : Around} {R : Result → Shared → Prop} {I : Addr} {fp wr : List Addr} {n : Nat} {P : Nat → Value → Prop} {St : Nat → Heap → Prop}
def KpO (h0 : Heap) (wr : List Addr) (S : Addr) (h : Heap) : Prop := ∀ b o, h0.get? b = some o → b ∉ wr → b ≠ S → h.get? b = some o
def CmpK (h0 : Heap) (wr : List Addr) (S : Addr) (prog : Program) (w : World) (A : Around) (P : Nat → Value → Prop) (bt : Nat → Nat → Bool) : Prop :=
  ∀ i j vi vj (s : Shared) (Q : Value → Shared → Prop) (E : Value → Shared → Prop), KpO h0 wr S s.heap → P i vi → P j vj → Q (.bool (bt i j)) s → wpAny (model prog w) A (richCompare .Lt vi vj) Q E s
theorem minT_loop {h0 : Heap} (W : Walks prog w A.in1 I fp wr n P St) (bt : Nat → Nat → Bool) (S : Addr) (hcmp : CmpK h0 wr S prog w A.in1 P bt) (hSf : S ∉ fp) :
    ∀ (k j : Nat) (s : Shared) (vb : Value) (c : Nat), n - (j + 1) = k → j + 1 ≤ n → KpO h0 wr S s.heap → St (j + 1) s.heap → P (argBest bt j) vb →
    s.heap.get? S = some { cls := .type "list", dict := none, data := .seq #[vb, vb] c, slots := #[] } →
    (∀ v h' tk, P (argBest bt (n - 1)) v → (∀ b o, b ∉ wr → b ≠ S → s.heap.get? b = some o → h'.get? b = some o) → R (.ok (.ret v)) { s with heap := h', toks := tk }) →
    codeAny (model prog w) A (.builtin "min.loop" ⟨[.ref I, .none, .ref S], []⟩) R s := by
  have hSw : S ∉ wr := fun h => hSf (W.sub _ h)
  have hname : (toString "min" ++ toString ".loop" : String) = "min.loop" := by decide
  intro k
  induction k with
  | zero =>
    intro j s vb c hk hj kp hst hPb hS hR
    have hin : j + 1 = n := by omega
    refine codeAny_builtin F.entry_min_loop ?_
    rw [Around.under_plainId F.plain_min_loop _]
    show wpAny _ A.in1 (seqItems? (.ref S) >>= _) _ _ s
    refine wpAny_bind (wpAny_seqItems hS rfl ?_)
    show wpAny _ A.in1 (tryCatch (pyNext (.ref I)) _ >>= _) _ _ s
    refine wpAny_bind (wpAny_tryCatch (W.done s _ _ (hin ▸ hst) fun h' tk hk' => ?_))
    have hS' := hk' S _ hSw hS
    show wpAny _ A.in1 (updateSeq S (fun _ => #[]) >>= _) _ _ _
    refine wpAny_bind ?_
    refine wpAny_updateSeq hS' rfl (wpAny_bind (wpAny_letGo (wpAny_pure ?_)))
    refine hR vb _ tk (by rw [← hin]; exact hPb) fun b o hbw hbS e => (Heap.get?_update_other _ _ (Ne.symm hbS)).trans (hk' b o hbw e)
  | succ k ih =>
    intro j s vb c hk hj kp hst hPb hS hR
    have hlt : j + 1 < n := by omega
    refine codeAny_builtin F.entry_min_loop ?_
    rw [Around.under_plainId F.plain_min_loop _]
    show wpAny _ A.in1 (seqItems? (.ref S) >>= _) _ _ s
    refine wpAny_bind (wpAny_seqItems hS rfl ?_)
    show wpAny _ A.in1 (tryCatch (pyNext (.ref I)) _ >>= _) _ _ s
    refine wpAny_bind (wpAny_tryCatch (W.item (j + 1) s _ _ hlt hst fun v h' tk hP hst' hk' => ?_))
    have hS' := hk' S _ hSw hS
    have kp' : KpO h0 wr S h' := fun b o e n1 n2 => hk' b o n1 (kp b o e n1 n2)
    show wpAny _ A.in1 (tryCatch (holding [v, v] (richCompare .Lt v vb >>= _)) _ >>= _) _ _ _
    refine wpAny_bind (wpAny_tryCatch (wpAny_holding (wpAny_bind (hcmp (j + 1) (argBest bt j) v vb _ _ _ kp' hP hPb ?_))))
    refine wpAny_bind (wpAny_holding (wpAny_truthy_bool ?_))
    refine wpAny_bind (wpAny_letGo (wpAny_pure ?_))
    cases hb : bt (j + 1) (argBest bt j) with
    | true =>
      simp only [if_true]
      refine wpAny_bind ?_
      refine wpAny_updateSeq hS' rfl (wpAny_bind (wpAny_letGo ?_))
      rw [hname]
      refine wpAny_pure ⟨plainId_quiet F.plain_min_loop _, ih (j + 1) _ v _ (by omega) hlt (fun b o e n1 n2 => (Heap.get?_update_other _ _ (Ne.symm n2)).trans (kp' b o e n1 n2)) (W.frame _ _ _ hst' fun b hbf o e => ?_) (by simp only [argBest, hb, if_true]; exact hP) (Heap.get?_update_self _ hS' rfl)
        fun v' h'' tk'' hP' hk'' => ?_⟩
      · exact (Heap.get?_update_other _ _ (fun h : S = b => hSf (by rw [h]; exact hbf))).trans e
      · exact hR v' h'' tk'' hP' fun b o hbw hbS e => hk'' b o hbw hbS ((Heap.get?_update_other _ _ (Ne.symm hbS)).trans (hk' b o hbw e))
    | false =>
      simp only [Bool.false_eq_true, if_false]
      refine wpAny_bind (wpAny_letGo ?_)
      rw [hname]
      refine wpAny_pure ⟨plainId_quiet F.plain_min_loop _, ih (j + 1) _ vb c (by omega) hlt kp' hst' (by simp only [argBest, hb, Bool.false_eq_true, if_false]; exact hPb) hS' fun v' h'' tk'' hP' hk'' => ?_⟩
      exact hR v' h'' tk'' hP' fun b o hbw hbS e => hk'' b o hbw hbS (hk' b o hbw e)
theorem minT_first {h0 : Heap} (W : Walks prog w A.in1 I fp wr n P St) (bt : Nat → Nat → Bool) (S : Addr) (hcmp : CmpK h0 wr S prog w A.in1 P bt) (hSf : S ∉ fp) (hn : 0 < n) {s : Shared} {c : Nat} (kp : KpO h0 wr S s.heap) (hst : St 0 s.heap)
    (hS : s.heap.get? S = some { cls := .type "list", dict := none, data := .seq #[] c, slots := #[] })
    (hR : ∀ v h' tk, P (argBest bt (n - 1)) v → (∀ b o, b ∉ wr → b ≠ S → s.heap.get? b = some o → h'.get? b = some o) → R (.ok (.ret v)) { s with heap := h', toks := tk }) :
    codeAny (model prog w) A (.builtin "min.loop" ⟨[.ref I, .none, .ref S], []⟩) R s := by
  have hSw : S ∉ wr := fun h => hSf (W.sub _ h)
  have hname : (toString "min" ++ toString ".loop" : String) = "min.loop" := by decide
  refine codeAny_builtin F.entry_min_loop ?_
  rw [Around.under_plainId F.plain_min_loop _]
  show wpAny _ A.in1 (seqItems? (.ref S) >>= _) _ _ s
  refine wpAny_bind (wpAny_seqItems hS rfl ?_)
  show wpAny _ A.in1 (tryCatch (pyNext (.ref I)) _ >>= _) _ _ s
  refine wpAny_bind (wpAny_tryCatch (W.item 0 s _ _ hn hst fun v h' tk hP hst' hk' => ?_))
  have hS' := hk' S _ hSw hS
  have kp' : KpO h0 wr S h' := fun b o e n1 n2 => hk' b o n1 (kp b o e n1 n2)
  show wpAny _ A.in1 (updateSeq S (fun _ => #[v, v]) >>= _) _ _ _
  refine wpAny_bind ?_
  refine wpAny_updateSeq hS' rfl ?_
  rw [hname]
  refine wpAny_pure ⟨plainId_quiet F.plain_min_loop _, minT_loop W bt S hcmp hSf _ 0 _ v _ rfl hn (fun b o e n1 n2 => (Heap.get?_update_other _ _ (Ne.symm n2)).trans (kp' b o e n1 n2)) (W.frame _ _ _ hst' fun b hbf o e => ?_) hP (Heap.get?_update_self _ hS' rfl) fun v' h'' tk'' hP' hk'' => ?_⟩
  · exact (Heap.get?_update_other _ _ (fun h : S = b => hSf (by rw [h]; exact hbf))).trans e
  · exact hR v' h'' tk'' hP' fun b o hbw hbS e => hk'' b o hbw hbS ((Heap.get?_update_other _ _ (Ne.symm hbS)).trans (hk' b o hbw e))
end
section
variable {prog : Program} {w : World} {A : Around} {E : Value → Shared → Prop} {s : Shared}
theorem minT_walk {x : Value} {Q : Value → Shared → Prop}
    (h : wpAny (model prog w) A.in1 (pyIter x) (fun it s₂ => ∃ I fp wr n P St bt, it = .ref I ∧ Walks prog w A.in1 I fp wr n P St ∧ St 0 s₂.heap ∧ (∀ b ∈ fp, b < s₂.heap.objs.size) ∧ 0 < n ∧ CmpK s₂.heap wr s₂.heap.objs.size prog w A.in1 P bt ∧
      ∀ v h' tk, P (argBest bt (n - 1)) v → (∀ b o, b ∉ wr → s₂.heap.get? b = some o → h'.get? b = some o) → Q v { s₂ with heap := h', toks := tk }) E s) :
    wpAny (model prog w) A (call (.builtin "min") [x]) Q E s := by
  have hname : (toString "min" ++ toString ".loop" : String) = "min.loop" := by decide
  refine call_function_tree F.kind_min F.plain_min F.entry_min (F.args_min1 _) ?_
  show wpAny _ A.in1 (Builtin.Builtins.bindParams "min" ["key", "default"] 0 ⟨[], []⟩ >>= _) _ _ s
  refine wpAny_bind (wpAny_of_eq (show Builtin.Builtins.bindParams "min" ["key", "default"] 0 ⟨[], []⟩ = pure [none, none] from rfl) ?_)
  refine wpAny_bind (wpAny_pure ?_)
  refine wpAny_bind (wpAny_mono h (fun it s₂ h₂ => ?_) fun _ _ e => e)
  obtain ⟨I, fp, wr, n, P, St, bt, rfl, W, hst, hfp, hn, hcmp, hQ⟩ := h₂
  refine wpAny_bind (wpAny_newObj_type ?_)
  have hSf : s₂.heap.objs.size ∉ fp := fun hm => Nat.lt_irrefl _ (hfp _ hm)
  rw [hname]
  refine wpAny_pure ⟨plainId_quiet F.plain_min_loop _, minT_first W bt s₂.heap.objs.size hcmp hSf hn (fun b o e _ _ => Heap.get?_push_of_some _ e) (W.frame _ _ _ hst fun b _ o e => Heap.get?_push_of_some _ e) (Heap.get?_push_size _ rfl) fun v h' tk hP hk => ?_⟩
  exact hQ v h' tk hP fun b o hbw e => hk b o hbw (Nat.ne_of_lt (Heap.lt_size e)) (Heap.get?_push_of_some _ e)
end
/-- p before q -/
def ltPr (p q : Int × Int) : Bool := if p.1 = q.1 then decide (p.2 < q.2) else decide (p.1 < q.1)
theorem ltPr_iff {p q : Int × Int} : ltPr p q = true ↔ p.1 < q.1 ∨ (p.1 = q.1 ∧ p.2 < q.2) := by
  unfold ltPr
  by_cases h : p.1 = q.1
  · rw [if_pos h, decide_eq_true_iff]
    constructor
    · intro z; exact .inr ⟨h, z⟩
    · rintro (z | ⟨_, z⟩)
      · omega
      · exact z
  · rw [if_neg h, decide_eq_true_iff]
    constructor
    · intro z; exact .inl z
    · rintro (z | ⟨z, _⟩)
      · exact z
      · exact absurd z h
theorem best_pr (f : Nat → Int × Int) : ∀ k, argBest (fun i j => ltPr (f i) (f j)) k ≤ k ∧ ∀ j ≤ k, ltPr (f j) (f (argBest (fun i j => ltPr (f i) (f j)) k)) = false
  | 0 => ⟨Nat.le_refl _, fun j hj => by
    have : j = 0 := by omega
    subst this
    rw [Bool.eq_false_iff, Ne, ltPr_iff]
    show ¬ ((f 0).1 < (f 0).1 ∨ ((f 0).1 = (f 0).1 ∧ (f 0).2 < (f 0).2))
    omega⟩
  | k + 1 => by
    obtain ⟨h1, h2⟩ := best_pr f k
    show (if ltPr (f (k + 1)) (f (argBest (fun i j => ltPr (f i) (f j)) k)) = true then k + 1 else argBest (fun i j => ltPr (f i) (f j)) k) ≤ k + 1 ∧ ∀ j ≤ k + 1, ltPr (f j) (f (if ltPr (f (k + 1)) (f (argBest (fun i j => ltPr (f i) (f j)) k)) = true then k + 1 else argBest (fun i j => ltPr (f i) (f j)) k)) = false
    generalize argBest (fun i j => ltPr (f i) (f j)) k = b at *
    by_cases hb : ltPr (f (k + 1)) (f b) = true
    · rw [if_pos hb]
      refine ⟨Nat.le_refl _, fun j hj => ?_⟩
      rw [Bool.eq_false_iff, Ne, ltPr_iff]
      rw [ltPr_iff] at hb
      by_cases e : j = k + 1
      · subst e; omega
      · have := h2 j (by omega)
        rw [Bool.eq_false_iff, Ne, ltPr_iff] at this
        omega
    · rw [if_neg hb]
      refine ⟨by omega, fun j hj => ?_⟩
      by_cases e : j = k + 1
      · subst e; exact Bool.eq_false_iff.mpr hb
      · exact h2 j (by omega)
/-- < of two pairs, at any state where both stand -/
theorem ltPr_at {prog : Program} {w : World} {A : Around} {s : Shared} {a b : Addr} {ia ib : List Value} {p q : Int × Int} (pa : s.heap.IsTuple a ia.toArray) (pb : s.heap.IsTuple b ib.toArray) (ja : IntsAre ia [p.1, p.2]) (jb : IntsAre ib [q.1, q.2]) (hu : A.units < cLine)
    {Q : Value → Shared → Prop} {E : Value → Shared → Prop} (h : Q (.bool (ltPr p q)) s) : wpAny (model prog w) A (richCompare .Lt (.ref a) (.ref b)) Q E s := by
  have ea : ia.toArray.size = 2 := by rw [List.size_toArray]; exact ja.length
  have eb : ib.toArray.size = 2 := by rw [List.size_toArray]; exact jb.length
  have G := Ob.RcOp.tuples_lt (A := A) (s := s) (e := fun j => decide ([p.1, p.2].getD j 0 = [q.1, q.2].getD j 0)) (r := fun j => decide ([p.1, p.2].getD j 0 < [q.1, q.2].getD j 0)) pa pb hu
    (fun j h1 h2 => by
      obtain ⟨t1, e1⟩ := intsAt ja j h1
      obtain ⟨t2, e2⟩ := intsAt jb j h2
      rw [e1, e2]
      exact eqI_at _ _ _ _)
    (fun j h1 h2 _ => by
      obtain ⟨t1, e1⟩ := intsAt ja j h1
      obtain ⟨t2, e2⟩ := intsAt jb j h2
      rw [e1, e2]
      exact Ob.RcOp.lt_int _ _ _ _)
  rw [ea, eb] at G
  refine G prog w E Q ?_
  have z : Ob.lexAt (fun j => decide ([p.1, p.2].getD j 0 = [q.1, q.2].getD j 0)) (fun j => decide ([p.1, p.2].getD j 0 < [q.1, q.2].getD j 0)) (decide ((2 : Nat) < 2)) 0 (min 2 2) = ltPr p q := by
    show (if decide (p.1 = q.1) = true then (if decide (p.2 = q.2) = true then false else decide (p.2 < q.2)) else decide (p.1 < q.1)) = ltPr p q
    unfold ltPr
    by_cases h1 : p.1 = q.1
    · rw [if_pos (decide_eq_true h1), if_pos h1]
      by_cases h2 : p.2 = q.2
      · rw [if_pos (decide_eq_true h2), decide_eq_false (by omega)]
      · rw [if_neg (by simpa using h2)]
    · rw [if_neg (by simpa using h1), if_neg h1]
  rw [z]
  exact h
def rMinP (K : PySem.W.Frag) : List V → Hp → VK → Prop := fun vs H Q => ∃ (a : Addr) (xs : List V) (k : V → Int × Int), vs = [V.ref a] ∧ SqL K H a xs ∧ 0 < xs.length ∧ (∀ x ∈ xs, ∃ t, x = V.ref t ∧ H t = some (.tup [.int (k x).1, .int (k x).2])) ∧
  ∀ m ∈ xs, (∀ y ∈ xs, ltPr (k y) (k m) = false) → Q m H
theorem cr_minP {X : Cx} (hc : X.calm = true) (hu : X.A.units + 8 < cLine) : CallR X (.builtin "min") (rMinP X.K) := by
  intro pins s σ H vs us Q I r h
  obtain ⟨a, xs, k, rfl, hs, hne, hx, q⟩ := h
  obtain ⟨its, rv, hl, _⟩ := I.list hs
  rw [Vals.ref1 r]
  obtain ⟨e1, e2⟩ := refs_back rv fun x m => by
    obtain ⟨t, e, _⟩ := hx x m
    exact ⟨t, e⟩
  have hlen := rv.length
  have hlt : a < s.heap.objs.size := by obtain ⟨_, e, _⟩ := hl.isList; exact Heap.lt_size e
  have hq : ∀ v, v ∈ its → ∃ (t : Addr) (it : List Value), v = Value.ref t ∧ s.heap.IsTuple t it.toArray ∧ IntsAre it [(k (backV v)).1, (k (backV v)).2] := fun v hv => by
    obtain ⟨t, rfl⟩ := e2 v hv
    have hm : V.ref t ∈ xs := by rw [e1]; exact List.mem_map.mpr ⟨_, hv, rfl⟩
    obtain ⟨t', e, ht⟩ := hx _ hm
    cases e
    have ht : SqT X.K H t ([(k (V.ref t)).1, (k (V.ref t)).2].map V.int) := SqT.of ht
    obtain ⟨it, ra, pa, _⟩ := I.tuple ht
    exact ⟨t, it, rfl, pa, Vals.ints ra⟩
  refine minT_walk (wpAny_pyIter_list hl.isList ?_)
  refine ⟨_, _, _, _, _, _, fun i j => ltPr (k (backV (its.getD i .none))) (k (backV (its.getD j .none))), rfl, Walks.list (A := X.A.in1) (I.ok.hd hc) _ a (Nat.ne_of_lt hlt) its.toArray, ⟨⟨_, Heap.get?_push_size _ rfl, rfl, rfl⟩, hl.isList.push _⟩, fun b hb => ?_, by rw [List.size_toArray, ← hlen]; exact hne, ?_, fun v h' tk hP hk => ?_⟩
  · show b < (s.heap.push _).objs.size
    rw [Heap.size_push]
    rcases List.mem_cons.mp hb with rfl | hb
    · exact Nat.lt_succ_self _
    · rw [List.mem_singleton.mp hb]
      exact Nat.lt_succ_of_lt hlt
  · intro i j vi vj s' Q' E' kp hi hj hQ
    have gi : its[i]? = some vi := by simpa using hi
    have gj : its[j]? = some vj := by simpa using hj
    have di : its.getD i .none = vi := by rw [List.getD_eq_getElem?_getD, gi]; rfl
    have dj : its.getD j .none = vj := by rw [List.getD_eq_getElem?_getD, gj]; rfl
    obtain ⟨ti, ii, ei, pi, ji⟩ := hq vi (List.mem_of_getElem? gi)
    obtain ⟨tj, ij, ej, pj, jj⟩ := hq vj (List.mem_of_getElem? gj)
    have keep : ∀ b o, s.heap.get? b = some o → s'.heap.get? b = some o := fun b o e => by
      have lt := Heap.lt_size e
      refine kp b o (Heap.get?_push_of_some _ e) (fun hm => ?_) fun z => ?_
      · have := List.mem_singleton.mp hm
        rw [this] at lt
        exact absurd lt (Nat.lt_irrefl _)
      · rw [z] at lt
        rw [Heap.size_push] at lt
        exact absurd lt (Nat.not_lt.mpr (Nat.le_succ _))
    have pi' : s'.heap.IsTuple ti ii.toArray := by obtain ⟨o, ho, r⟩ := pi; exact ⟨o, keep _ _ ho, r⟩
    have pj' : s'.heap.IsTuple tj ij.toArray := by obtain ⟨o, ho, r⟩ := pj; exact ⟨o, keep _ _ ho, r⟩
    have hQ' : Q' (.bool (ltPr (k (backV vi)) (k (backV vj)))) s' := by
      have := hQ
      rw [← di, ← dj]
      exact this
    subst ei ej
    exact ltPr_at pi' pj' ji jj (by have := hu; simp only [units_in1]; omega) hQ'
  · have hP : its.toArray[argBest (fun i j => ltPr (k (backV (its.getD i .none))) (k (backV (its.getD j .none)))) (its.toArray.size - 1)]? = some v := hP
    obtain ⟨b1, b2⟩ := best_pr (fun i => k (backV (its.getD i .none))) (its.toArray.size - 1)
    have hv : its[argBest (fun i j => ltPr (k (backV (its.getD i .none))) (k (backV (its.getD j .none)))) (its.toArray.size - 1)]? = some v := by simpa using hP
    have hmem := List.mem_of_getElem? hv
    obtain ⟨t, et⟩ := e2 v hmem
    have dv : its.getD (argBest (fun i j => ltPr (k (backV (its.getD i .none))) (k (backV (its.getD j .none)))) (its.toArray.size - 1)) .none = v := by rw [List.getD_eq_getElem?_getD, hv]; rfl
    refine ⟨backV v, H, I.kept (t' := tk) fun b u e => hk b u (fun hm => ?_) (Heap.get?_push_of_some _ e), by subst et; exact rfl, q _ (by rw [e1]; exact List.mem_map.mpr ⟨v, hmem, rfl⟩) fun y hy => ?_⟩
    · have e1 : b = s.heap.objs.size := List.mem_singleton.mp hm
      have e2 := Heap.lt_size e
      rw [e1] at e2
      exact absurd e2 (Nat.lt_irrefl _)
    · rw [e1] at hy
      obtain ⟨u, hu', rfl⟩ := List.mem_map.mp hy
      obtain ⟨j, hj⟩ := List.mem_iff_getElem?.mp hu'
      have lj := (List.getElem?_eq_some_iff.mp hj).1
      have := b2 j (by rw [List.size_toArray]; exact Nat.le_sub_one_of_lt lj)
      have dj : its.getD j .none = u := by rw [List.getD_eq_getElem?_getD, hj]; rfl
      simp only [dj, dv] at this
      exact this
end My
namespace K43
open PySem PySem.Spec PyProof.Rows L2 My
local macro_rules | `(tactic| walk_at "c") => `(tactic| first | (with_reducible apply eq_id; apply Eq.refl) | (with_reducible apply ile_id; omega) | (with_reducible apply ilt_id; omega) | (with_reducible apply nle_id; omega) | (with_reducible apply nlt_id; omega) | assumption | (apply Eq.refl; done) | with_reducible exact lf_marks _ _ _ _ | with_reducible exact lf_rule _ _ _ _ | with_reducible exact lf_least _ _ _ _ | with_reducible exact lf_most _ _ _ _ | with_reducible exact mf_top _ _ | with_reducible exact mf_bottom _ _ | with_reducible exact sf_low _ _ _ _ | with_reducible exact sf_high _ _ _ _ | with_reducible exact sf_low_in _ _ _ _ | with_reducible exact sf_high_in _ _ _ _ | exact SqL.of (by assumption) | exact SqT.of (by assumption) | exact Or.inl (SqL.of (by assumption)) | exact Or.inr (SqT.of (by assumption)) | exact Or.inr (by assumption) | exact Or.inl (by assumption) | omega | exact atI_nat (by assumption) | exact atI_of (n := 0) rfl (by assumption) | exact logS (by omega) | exact Or.inl (Or.inl ⟨by omega, by omega⟩) | exact Or.inl (Or.inr ⟨by omega, by omega⟩) | exact szb rfl | exact szs (by omega) | exact szl (by omega) | exact Or.inl ⟨Eq.refl _, _, SqL.of (by assumption)⟩ | exact ⟨_, SqT.of (by assumption)⟩ | exact ⟨_, SqL.of (by assumption)⟩ | exact ⟨by omega, by omega, by omega, by omega⟩)
local macro_rules | `(tactic| walk_at "e") => `(tactic| first | rfl | exact ⟨rfl, rfl⟩ | exact ⟨rfl, rfl, rfl⟩ | assumption | exact trivial)
local macro_rules | `(tactic| walk_at "w1") => `(tactic| first
  | refine q_belowT (by assumption) (by assumption) (by omega) (by omega) ?_ | refine q_belowA (by assumption) (by assumption) (by omega) (by omega) ?_ | refine q_subT (by assumption) (by assumption) (by omega) (by omega) (by omega) ?_
  | refine meth_q (by assumption) (by decide +kernel) (by decide +kernel) ?_ | refine meth_l (by assumption) (by decide +kernel) (by decide +kernel) (by decide +kernel) (by decide +kernel) ?_ | refine meth_s (by assumption) (by decide +kernel) (by decide +kernel) (by decide +kernel) (by decide +kernel) ?_
  | apply @Exists.intro V | apply @Exists.intro Int | apply @Exists.intro Addr | apply @Exists.intro Bool | apply @Exists.intro (List V) | apply @Exists.intro Str | apply @Exists.intro Nat | apply @Exists.intro (List (Str × V))
  | (apply And.intro; (focus (walk_at "c"))) | (with_reducible apply iteT) | (with_reducible apply iteF) | refine iteDT (by omega) ?_ | refine iteDF (by omega) ?_ | refine iteNS (by omega) ?_ | refine iteNT (by omega) ?_)
local macro_rules | `(tactic| walk_at "w") => `(tactic| repeat (walk_at "w1"))
local macro_rules | `(tactic| walk_at "wa1") => `(tactic| first | refine q_addT (by assumption) (by assumption) (by omega) (by omega) (by omega) ?_ | refine q_mulT (by assumption) (by assumption) (by omega) (by omega) (by omega) ?_ | walk_at "w1")
local macro_rules | `(tactic| walk_at "wa") => `(tactic| repeat (walk_at "wa1"))
local macro_rules | `(tactic| walk_at "hand") => `(tactic| first | assumption | exact HandAt.up (by walk_at "hand") (by assumption))
local macro_rules | `(tactic| walk_at "hp") => `(tactic| first | assumption | exact upd_same | exact up1 (by assumption) (by walk_at "hp") | exact Kp.get (by assumption) (by walk_at "hand") (by walk_at "hp") (by rfl) | exact L2.Same.get (by assumption) (by walk_at "hp") | exact up2 (by assumption) (by walk_at "hp") (by rfl))
local macro_rules | `(tactic| walk_at "n") => `(tactic| skip)
local macro_rules | `(tactic| walk_at "k") => `(tactic| first | with_reducible assumption | with_reducible exact Kp.refl _ _ | (with_reducible refine Kp.trans ?_ (by with_reducible assumption); walk_at "k") | (with_reducible refine Kp.trans ?_ (Kp.same (by with_reducible assumption)); walk_at "k") | (with_reducible refine Kp.trans ?_ (Kp.same (same1 (by with_reducible assumption))); walk_at "k"))
local macro_rules | `(tactic| walk_at "s") => `(tactic| first | with_reducible assumption | with_reducible exact Same.refl _ | (with_reducible refine Same.trans ?_ (by with_reducible assumption); walk_at "s") | (with_reducible refine Same.trans ?_ (same1 (by with_reducible assumption)); walk_at "s") | (with_reducible apply same_k; (with_reducible assumption); (with_reducible assumption); walk_at "s"))
local macro_rules | `(tactic| walk_at "u") => `(tactic| (first | (with_reducible assumption) | ((with_reducible apply TQ_id); first | ((repeat (first | (with_reducible assumption) | (with_reducible apply TQ.s; (with_reducible assumption)) | (with_reducible apply TQ.kq; (with_reducible assumption); (focus (repeat (first | (with_reducible assumption) | (with_reducible apply HandAt.s; (with_reducible assumption)) | (with_reducible apply HandAt.u; (with_reducible assumption)))))) | (with_reducible apply TQ.u; (with_reducible assumption)))); done) | (with_reducible apply TQ.lit; (focus (repeat (first | (with_reducible exact upd_same) | (with_reducible assumption) | (with_reducible apply hp_u; (with_reducible assumption)) | (with_reducible apply hp_s; (with_reducible assumption)) | (with_reducible apply hp_l; (with_reducible assumption); (with_reducible assumption)) | (with_reducible apply hp_k; (with_reducible assumption); (focus (repeat (first | (with_reducible assumption) | (with_reducible apply HandAt.s; (with_reducible assumption)) | (with_reducible apply HandAt.u; (with_reducible assumption))))); (with_unfolding_all exact rfl))))); decide; decide; decide) | (with_reducible apply TQ.mono; with_reducible apply TQ.lit; (focus (repeat (first | (with_reducible exact upd_same) | (with_reducible assumption) | (with_reducible apply hp_u; (with_reducible assumption)) | (with_reducible apply hp_s; (with_reducible assumption)) | (with_reducible apply hp_l; (with_reducible assumption); (with_reducible assumption)) | (with_reducible apply hp_k; (with_reducible assumption); (focus (repeat (first | (with_reducible assumption) | (with_reducible apply HandAt.s; (with_reducible assumption)) | (with_reducible apply HandAt.u; (with_reducible assumption))))); (with_unfolding_all exact rfl))))); decide; decide; decide; omega) | (with_reducible apply TQ.mono; (focus (repeat (first | (with_reducible assumption) | (with_reducible apply TQ.s; (with_reducible assumption)) | (with_reducible apply TQ.kq; (with_reducible assumption); (focus (repeat (first | (with_reducible assumption) | (with_reducible apply HandAt.s; (with_reducible assumption)) | (with_reducible apply HandAt.u; (with_reducible assumption)))))) | (with_reducible apply TQ.u; (with_reducible assumption))))); omega)) | ((with_reducible apply Tqs_id); first | ((repeat (first | (with_reducible assumption) | (with_reducible apply Tqs.s; (with_reducible assumption)) | (with_reducible apply Tqs.kq; (with_reducible assumption); (focus (repeat (first | (with_reducible assumption) | (with_reducible apply HandAt.s; (with_reducible assumption)) | (with_reducible apply HandAt.u; (with_reducible assumption)))))) | (with_reducible apply Tqs.u; (with_reducible assumption)))); done) | (with_reducible apply Tqs.mono; (focus (repeat (first | (with_reducible assumption) | (with_reducible apply Tqs.s; (with_reducible assumption)) | (with_reducible apply Tqs.kq; (with_reducible assumption); (focus (repeat (first | (with_reducible assumption) | (with_reducible apply HandAt.s; (with_reducible assumption)) | (with_reducible apply HandAt.u; (with_reducible assumption)))))) | (with_reducible apply Tqs.u; (with_reducible assumption))))); omega)) | ((with_reducible apply QAt_id); first | ((repeat (first | (with_reducible assumption) | (with_reducible apply QAt.s; (with_reducible assumption)) | (with_reducible apply QAt.kq; (with_reducible assumption); (focus (repeat (first | (with_reducible assumption) | (with_reducible apply HandAt.s; (with_reducible assumption)) | (with_reducible apply HandAt.u; (with_reducible assumption)))))) | (with_reducible apply QAt.u; (with_reducible assumption)))); done) | (with_reducible apply QAt.mono; (focus (repeat (first | (with_reducible assumption) | (with_reducible apply QAt.s; (with_reducible assumption)) | (with_reducible apply QAt.kq; (with_reducible assumption); (focus (repeat (first | (with_reducible assumption) | (with_reducible apply HandAt.s; (with_reducible assumption)) | (with_reducible apply HandAt.u; (with_reducible assumption)))))) | (with_reducible apply QAt.u; (with_reducible assumption))))); omega) | ((repeat (first | assumption | (apply QAt.s; assumption) | (apply QAt.kq; assumption; (focus (repeat (first | (with_reducible assumption) | (with_reducible apply HandAt.s; (with_reducible assumption)) | (with_reducible apply HandAt.u; (with_reducible assumption)))))) | (with_reducible apply QAt.u; assumption))); done)) | ((with_reducible apply Mks_id); first | ((repeat (first | (with_reducible assumption) | (with_reducible apply Mks.s; (with_reducible assumption)) | (with_reducible apply Mks.kq; (with_reducible assumption); (focus (repeat (first | (with_reducible assumption) | (with_reducible apply HandAt.s; (with_reducible assumption)) | (with_reducible apply HandAt.u; (with_reducible assumption)))))) | (with_reducible apply Mks.u; (with_reducible assumption)))); done)) | ((with_reducible apply QO_id); first | ((repeat (first | (with_reducible assumption) | (with_reducible apply QO.s; (with_reducible assumption)) | (with_reducible apply QO.kq; (with_reducible assumption); (focus (repeat (first | (with_reducible assumption) | (with_reducible apply HandAt.s; (with_reducible assumption)) | (with_reducible apply HandAt.u; (with_reducible assumption)))))) | (with_reducible apply QO.u; (with_reducible assumption)))); done) | (with_reducible apply QO.monoR; (focus (repeat (first | (with_reducible assumption) | (with_reducible apply QO.s; (with_reducible assumption)) | (with_reducible apply QO.kq; (with_reducible assumption); (focus (repeat (first | (with_reducible assumption) | (with_reducible apply HandAt.s; (with_reducible assumption)) | (with_reducible apply HandAt.u; (with_reducible assumption)))))) | (with_reducible apply QO.u; (with_reducible assumption))))); omega)) | ((with_reducible apply TOq_id); first | ((repeat (first | (with_reducible assumption) | (with_reducible apply TOq.s; (with_reducible assumption)) | (with_reducible apply TOq.kq; (with_reducible assumption); (focus (repeat (first | (with_reducible assumption) | (with_reducible apply HandAt.s; (with_reducible assumption)) | (with_reducible apply HandAt.u; (with_reducible assumption)))))) | (with_reducible apply TOq.u; (with_reducible assumption)))); done) | (with_reducible apply TOq.monoR; (focus (repeat (first | (with_reducible assumption) | (with_reducible apply TOq.s; (with_reducible assumption)) | (with_reducible apply TOq.kq; (with_reducible assumption); (focus (repeat (first | (with_reducible assumption) | (with_reducible apply HandAt.s; (with_reducible assumption)) | (with_reducible apply HandAt.u; (with_reducible assumption)))))) | (with_reducible apply TOq.u; (with_reducible assumption))))); omega)) | ((with_reducible apply LadAt_id); first | ((repeat (first | (with_reducible assumption) | (with_reducible apply LadAt.s; (with_reducible assumption)) | (with_reducible apply LadAt.kq; (with_reducible assumption); (focus (repeat (first | (with_reducible assumption) | (with_reducible apply HandAt.s; (with_reducible assumption)) | (with_reducible apply HandAt.u; (with_reducible assumption)))))) | (with_reducible apply LadAt.u; (with_reducible assumption)))); done) | (with_reducible apply LadAt.mono; (focus (repeat (first | (with_reducible assumption) | (with_reducible apply LadAt.s; (with_reducible assumption)) | (with_reducible apply LadAt.kq; (with_reducible assumption); (focus (repeat (first | (with_reducible assumption) | (with_reducible apply HandAt.s; (with_reducible assumption)) | (with_reducible apply HandAt.u; (with_reducible assumption)))))) | (with_reducible apply LadAt.u; (with_reducible assumption))))); omega) | ((repeat (first | assumption | (apply LadAt.s; assumption) | (apply LadAt.kq; assumption; (focus (repeat (first | (with_reducible assumption) | (with_reducible apply HandAt.s; (with_reducible assumption)) | (with_reducible apply HandAt.u; (with_reducible assumption)))))) | (with_reducible apply LadAt.u; assumption))); done)) | ((with_reducible apply GrdAt_id); first | ((repeat (first | (with_reducible assumption) | (with_reducible apply GrdAt.s; (with_reducible assumption)) | (with_reducible apply GrdAt.kq; (with_reducible assumption); (focus (repeat (first | (with_reducible assumption) | (with_reducible apply HandAt.s; (with_reducible assumption)) | (with_reducible apply HandAt.u; (with_reducible assumption)))))) | (with_reducible apply GrdAt.u; (with_reducible assumption)))); done) | ((repeat (first | assumption | (apply GrdAt.s; assumption) | (apply GrdAt.kq; assumption; (focus (repeat (first | (with_reducible assumption) | (with_reducible apply HandAt.s; (with_reducible assumption)) | (with_reducible apply HandAt.u; (with_reducible assumption)))))) | (with_reducible apply GrdAt.u; assumption))); done)) | ((with_reducible apply SidesAt_id); first | ((repeat (first | (with_reducible assumption) | (with_reducible apply SidesAt.s; (with_reducible assumption)) | (with_reducible apply SidesAt.kq; (with_reducible assumption); (focus (repeat (first | (with_reducible assumption) | (with_reducible apply HandAt.s; (with_reducible assumption)) | (with_reducible apply HandAt.u; (with_reducible assumption)))))) | (with_reducible apply SidesAt.u; (with_reducible assumption)))); done)) | ((with_reducible apply ChartAt_id); first | ((repeat (first | (with_reducible assumption) | (with_reducible apply ChartAt.s; (with_reducible assumption)) | (with_reducible apply ChartAt.kq; (with_reducible assumption); (focus (repeat (first | (with_reducible assumption) | (with_reducible apply HandAt.s; (with_reducible assumption)) | (with_reducible apply HandAt.u; (with_reducible assumption)))))) | (with_reducible apply ChartAt.u; (with_reducible assumption)))); done)) | ((with_reducible apply HandAt_id); first | ((focus (repeat (first | (with_reducible assumption) | (with_reducible apply HandAt.s; (with_reducible assumption)) | (with_reducible apply HandAt.u; (with_reducible assumption))))); done) | (with_reducible apply HandAt.mono; (focus (focus (repeat (first | (with_reducible assumption) | (with_reducible apply HandAt.s; (with_reducible assumption)) | (with_reducible apply HandAt.u; (with_reducible assumption)))))); omega)) | ((with_reducible apply SqT_id); first | ((first | (with_reducible apply SqT.of; (repeat (first | (with_reducible exact upd_same) | (with_reducible assumption) | (with_reducible apply hp_u; (with_reducible assumption)) | (with_reducible apply hp_s; (with_reducible assumption)) | (with_reducible apply hp_l; (with_reducible assumption); (with_reducible assumption)) | (with_reducible apply hp_k; (with_reducible assumption); (focus (repeat (first | (with_reducible assumption) | (with_reducible apply HandAt.s; (with_reducible assumption)) | (with_reducible apply HandAt.u; (with_reducible assumption))))); (with_unfolding_all exact rfl)))); done) | (repeat (first | (with_reducible assumption) | (with_reducible apply sqt_s; (with_reducible assumption)) | (with_reducible apply sqt_k; (with_reducible assumption); (focus (repeat (first | (with_reducible assumption) | (with_reducible apply HandAt.s; (with_reducible assumption)) | (with_reducible apply HandAt.u; (with_reducible assumption)))))) | (with_reducible apply sqt_u; (with_reducible assumption))))); done)) | ((with_reducible apply SqL_id); first | ((first | (with_reducible apply SqL.of; (repeat (first | (with_reducible exact upd_same) | (with_reducible assumption) | (with_reducible apply hp_u; (with_reducible assumption)) | (with_reducible apply hp_s; (with_reducible assumption)) | (with_reducible apply hp_l; (with_reducible assumption); (with_reducible assumption)) | (with_reducible apply hp_k; (with_reducible assumption); (focus (repeat (first | (with_reducible assumption) | (with_reducible apply HandAt.s; (with_reducible assumption)) | (with_reducible apply HandAt.u; (with_reducible assumption))))); (with_unfolding_all exact rfl)))); done) | (repeat (first | (with_reducible assumption) | (with_reducible apply sql_s; (with_reducible assumption)) | (with_reducible apply sql_k; (with_reducible assumption); (with_reducible assumption)) | (with_reducible apply sql_u; (with_reducible assumption))))); done)) | ((with_reducible apply ho_id); first | ((repeat (first | (with_reducible exact upd_same) | (with_reducible assumption) | (with_reducible apply hp_u; (with_reducible assumption)) | (with_reducible apply hp_s; (with_reducible assumption)) | (with_reducible apply hp_l; (with_reducible assumption); (with_reducible assumption)) | (with_reducible apply hp_k; (with_reducible assumption); (focus (repeat (first | (with_reducible assumption) | (with_reducible apply HandAt.s; (with_reducible assumption)) | (with_reducible apply HandAt.u; (with_reducible assumption))))); (with_unfolding_all exact rfl)))); done))))
local macro_rules | `(tactic| walk_at "um") => `(tactic| (first | (with_reducible assumption) | ((with_reducible apply TQ_id); first | ((repeat (first | (with_reducible assumption) | (with_reducible apply TQ.s; (with_reducible assumption)) | (with_reducible apply TQ.kq; (with_reducible assumption); (focus (repeat (first | (with_reducible assumption) | (with_reducible apply HandAt.s; (with_reducible assumption)) | (with_reducible apply HandAt.u; (with_reducible assumption)))))) | (with_reducible apply TQ.u; (with_reducible assumption)))); done) | (with_reducible apply TQ.lit; (focus (repeat (first | (with_reducible exact upd_same) | (with_reducible assumption) | (with_reducible apply hp_u; (with_reducible assumption)) | (with_reducible apply hp_s; (with_reducible assumption)) | (with_reducible apply hp_l; (with_reducible assumption); (with_reducible assumption)) | (with_reducible apply hp_k; (with_reducible assumption); (focus (repeat (first | (with_reducible assumption) | (with_reducible apply HandAt.s; (with_reducible assumption)) | (with_reducible apply HandAt.u; (with_reducible assumption))))); (with_unfolding_all exact rfl))))); decide; decide; decide) | (with_reducible apply TQ.mono; with_reducible apply TQ.lit; (focus (repeat (first | (with_reducible exact upd_same) | (with_reducible assumption) | (with_reducible apply hp_u; (with_reducible assumption)) | (with_reducible apply hp_s; (with_reducible assumption)) | (with_reducible apply hp_l; (with_reducible assumption); (with_reducible assumption)) | (with_reducible apply hp_k; (with_reducible assumption); (focus (repeat (first | (with_reducible assumption) | (with_reducible apply HandAt.s; (with_reducible assumption)) | (with_reducible apply HandAt.u; (with_reducible assumption))))); (with_unfolding_all exact rfl))))); decide; decide; decide; omega) | (with_reducible apply TQ.mono; (focus (repeat (first | (with_reducible assumption) | (with_reducible apply TQ.s; (with_reducible assumption)) | (with_reducible apply TQ.kq; (with_reducible assumption); (focus (repeat (first | (with_reducible assumption) | (with_reducible apply HandAt.s; (with_reducible assumption)) | (with_reducible apply HandAt.u; (with_reducible assumption)))))) | (with_reducible apply TQ.u; (with_reducible assumption))))); omega)) | ((with_reducible apply Tqs_id); first | ((repeat (first | (with_reducible assumption) | (with_reducible apply Tqs.s; (with_reducible assumption)) | (with_reducible apply Tqs.kq; (with_reducible assumption); (focus (repeat (first | (with_reducible assumption) | (with_reducible apply HandAt.s; (with_reducible assumption)) | (with_reducible apply HandAt.u; (with_reducible assumption)))))) | (with_reducible apply Tqs.u; (with_reducible assumption)))); done) | (with_reducible apply Tqs.mono; (focus (repeat (first | (with_reducible assumption) | (with_reducible apply Tqs.s; (with_reducible assumption)) | (with_reducible apply Tqs.kq; (with_reducible assumption); (focus (repeat (first | (with_reducible assumption) | (with_reducible apply HandAt.s; (with_reducible assumption)) | (with_reducible apply HandAt.u; (with_reducible assumption)))))) | (with_reducible apply Tqs.u; (with_reducible assumption))))); omega)) | ((with_reducible apply QAt_id); first | ((repeat (first | (with_reducible assumption) | (with_reducible apply QAt.s; (with_reducible assumption)) | (with_reducible apply QAt.kq; (with_reducible assumption); (focus (repeat (first | (with_reducible assumption) | (with_reducible apply HandAt.s; (with_reducible assumption)) | (with_reducible apply HandAt.u; (with_reducible assumption)))))) | (with_reducible apply QAt.u; (with_reducible assumption)))); done) | (with_reducible apply QAt.mono; (focus (repeat (first | (with_reducible assumption) | (with_reducible apply QAt.s; (with_reducible assumption)) | (with_reducible apply QAt.kq; (with_reducible assumption); (focus (repeat (first | (with_reducible assumption) | (with_reducible apply HandAt.s; (with_reducible assumption)) | (with_reducible apply HandAt.u; (with_reducible assumption)))))) | (with_reducible apply QAt.u; (with_reducible assumption))))); omega) | ((repeat (first | assumption | (apply QAt.s; assumption) | (apply QAt.kq; assumption; (focus (repeat (first | (with_reducible assumption) | (with_reducible apply HandAt.s; (with_reducible assumption)) | (with_reducible apply HandAt.u; (with_reducible assumption)))))) | (with_reducible apply QAt.u; assumption))); done)) | ((with_reducible apply Mks_id); first | ((repeat (first | (with_reducible assumption) | (with_reducible apply Mks.s; (with_reducible assumption)) | (with_reducible apply Mks.kq; (with_reducible assumption); (focus (repeat (first | (with_reducible assumption) | (with_reducible apply HandAt.s; (with_reducible assumption)) | (with_reducible apply HandAt.u; (with_reducible assumption)))))) | (with_reducible apply Mks.u; (with_reducible assumption)))); done)) | ((with_reducible apply QO_id); first | ((repeat (first | (with_reducible assumption) | (with_reducible apply QO.s; (with_reducible assumption)) | (with_reducible apply QO.kq; (with_reducible assumption); (focus (repeat (first | (with_reducible assumption) | (with_reducible apply HandAt.s; (with_reducible assumption)) | (with_reducible apply HandAt.u; (with_reducible assumption)))))) | (with_reducible apply QO.u; (with_reducible assumption)))); done) | (with_reducible apply QO.monoR; (focus (repeat (first | (with_reducible assumption) | (with_reducible apply QO.s; (with_reducible assumption)) | (with_reducible apply QO.kq; (with_reducible assumption); (focus (repeat (first | (with_reducible assumption) | (with_reducible apply HandAt.s; (with_reducible assumption)) | (with_reducible apply HandAt.u; (with_reducible assumption)))))) | (with_reducible apply QO.u; (with_reducible assumption))))); omega)) | ((with_reducible apply TOq_id); first | ((repeat (first | (with_reducible assumption) | (with_reducible apply TOq.s; (with_reducible assumption)) | (with_reducible apply TOq.kq; (with_reducible assumption); (focus (repeat (first | (with_reducible assumption) | (with_reducible apply HandAt.s; (with_reducible assumption)) | (with_reducible apply HandAt.u; (with_reducible assumption)))))) | (with_reducible apply TOq.u; (with_reducible assumption)))); done) | (with_reducible apply TOq.monoR; (focus (repeat (first | (with_reducible assumption) | (with_reducible apply TOq.s; (with_reducible assumption)) | (with_reducible apply TOq.kq; (with_reducible assumption); (focus (repeat (first | (with_reducible assumption) | (with_reducible apply HandAt.s; (with_reducible assumption)) | (with_reducible apply HandAt.u; (with_reducible assumption)))))) | (with_reducible apply TOq.u; (with_reducible assumption))))); omega)) | ((with_reducible apply LadAt_id); first | ((repeat (first | (with_reducible assumption) | (with_reducible apply LadAt.s; (with_reducible assumption)) | (with_reducible apply LadAt.kq; (with_reducible assumption); (focus (repeat (first | (with_reducible assumption) | (with_reducible apply HandAt.s; (with_reducible assumption)) | (with_reducible apply HandAt.u; (with_reducible assumption)))))) | (with_reducible apply LadAt.u; (with_reducible assumption)))); done) | (with_reducible apply LadAt.mono; (focus (repeat (first | (with_reducible assumption) | (with_reducible apply LadAt.s; (with_reducible assumption)) | (with_reducible apply LadAt.kq; (with_reducible assumption); (focus (repeat (first | (with_reducible assumption) | (with_reducible apply HandAt.s; (with_reducible assumption)) | (with_reducible apply HandAt.u; (with_reducible assumption)))))) | (with_reducible apply LadAt.u; (with_reducible assumption))))); omega) | ((repeat (first | assumption | (apply LadAt.s; assumption) | (apply LadAt.kq; assumption; (focus (repeat (first | (with_reducible assumption) | (with_reducible apply HandAt.s; (with_reducible assumption)) | (with_reducible apply HandAt.u; (with_reducible assumption)))))) | (with_reducible apply LadAt.u; assumption))); done)) | ((with_reducible apply GrdAt_id); first | ((repeat (first | (with_reducible assumption) | (with_reducible apply GrdAt.s; (with_reducible assumption)) | (with_reducible apply GrdAt.kq; (with_reducible assumption); (focus (repeat (first | (with_reducible assumption) | (with_reducible apply HandAt.s; (with_reducible assumption)) | (with_reducible apply HandAt.u; (with_reducible assumption)))))) | (with_reducible apply GrdAt.u; (with_reducible assumption)))); done) | ((repeat (first | assumption | (apply GrdAt.s; assumption) | (apply GrdAt.kq; assumption; (focus (repeat (first | (with_reducible assumption) | (with_reducible apply HandAt.s; (with_reducible assumption)) | (with_reducible apply HandAt.u; (with_reducible assumption)))))) | (with_reducible apply GrdAt.u; assumption))); done)) | ((with_reducible apply SidesAt_id); first | ((repeat (first | (with_reducible assumption) | (with_reducible apply SidesAt.s; (with_reducible assumption)) | (with_reducible apply SidesAt.kq; (with_reducible assumption); (focus (repeat (first | (with_reducible assumption) | (with_reducible apply HandAt.s; (with_reducible assumption)) | (with_reducible apply HandAt.u; (with_reducible assumption)))))) | (with_reducible apply SidesAt.u; (with_reducible assumption)))); done)) | ((with_reducible apply ChartAt_id); first | ((repeat (first | (with_reducible assumption) | (with_reducible apply ChartAt.s; (with_reducible assumption)) | (with_reducible apply ChartAt.kq; (with_reducible assumption); (focus (repeat (first | (with_reducible assumption) | (with_reducible apply HandAt.s; (with_reducible assumption)) | (with_reducible apply HandAt.u; (with_reducible assumption)))))) | (with_reducible apply ChartAt.u; (with_reducible assumption)))); done)) | ((with_reducible apply HandAt_id); first | ((focus (repeat (first | (with_reducible assumption) | (with_reducible apply HandAt.s; (with_reducible assumption)) | (with_reducible apply HandAt.u; (with_reducible assumption))))); done) | (with_reducible apply HandAt.mono; (focus (focus (repeat (first | (with_reducible assumption) | (with_reducible apply HandAt.s; (with_reducible assumption)) | (with_reducible apply HandAt.u; (with_reducible assumption)))))); omega)) | ((with_reducible apply SqT_id); first | ((first | (with_reducible apply SqT.of; (repeat (first | (with_reducible exact upd_same) | (with_reducible assumption) | (with_reducible apply hp_u; (with_reducible assumption)) | (with_reducible apply hp_s; (with_reducible assumption)) | (with_reducible apply hp_l; (with_reducible assumption); (with_reducible assumption)) | (with_reducible apply hp_k; (with_reducible assumption); (focus (repeat (first | (with_reducible assumption) | (with_reducible apply HandAt.s; (with_reducible assumption)) | (with_reducible apply HandAt.u; (with_reducible assumption))))); (with_unfolding_all exact rfl)))); done) | (repeat (first | (with_reducible assumption) | (with_reducible apply sqt_s; (with_reducible assumption)) | (with_reducible apply sqt_k; (with_reducible assumption); (focus (repeat (first | (with_reducible assumption) | (with_reducible apply HandAt.s; (with_reducible assumption)) | (with_reducible apply HandAt.u; (with_reducible assumption)))))) | (with_reducible apply sqt_u; (with_reducible assumption))))); done)) | ((with_reducible apply SqL_id); first | ((first | (with_reducible apply SqL.of; (repeat (first | (with_reducible exact upd_same) | (with_reducible assumption) | (with_reducible apply hp_u; (with_reducible assumption)) | (with_reducible apply hp_s; (with_reducible assumption)) | (with_reducible apply hp_l; (with_reducible assumption); (with_reducible assumption)) | (with_reducible apply hp_k; (with_reducible assumption); (focus (repeat (first | (with_reducible assumption) | (with_reducible apply HandAt.s; (with_reducible assumption)) | (with_reducible apply HandAt.u; (with_reducible assumption))))); (with_unfolding_all exact rfl)))); done) | (repeat (first | (with_reducible assumption) | (with_reducible apply sql_s; (with_reducible assumption)) | (with_reducible apply sql_k; (with_reducible assumption); (with_reducible assumption)) | (with_reducible apply sql_u; (with_reducible assumption))))); done)) | ((with_reducible apply ho_id); first | ((repeat (first | (with_reducible exact upd_same) | (with_reducible assumption) | (with_reducible apply hp_u; (with_reducible assumption)) | (with_reducible apply hp_s; (with_reducible assumption)) | (with_reducible apply hp_l; (with_reducible assumption); (with_reducible assumption)) | (with_reducible apply hp_k; (with_reducible assumption); (focus (repeat (first | (with_reducible assumption) | (with_reducible apply HandAt.s; (with_reducible assumption)) | (with_reducible apply HandAt.u; (with_reducible assumption))))); (with_unfolding_all exact rfl)))); done))))
local macro_rules | `(tactic| walk_at "all") => `(tactic| first | with_reducible exact AllTQ.nil | (with_reducible apply AllTQ.app; walk_at "all"; walk_at "all") | (with_reducible apply AllTQ.cons; (focus ((with_reducible apply TQ_id); first | ((repeat (first | (with_reducible assumption) | (with_reducible apply TQ.s; (with_reducible assumption)) | (with_reducible apply TQ.kq; (with_reducible assumption); (focus (repeat (first | (with_reducible assumption) | (with_reducible apply HandAt.s; (with_reducible assumption)) | (with_reducible apply HandAt.u; (with_reducible assumption)))))) | (with_reducible apply TQ.u; (with_reducible assumption)))); done) | (with_reducible apply TQ.lit; (focus (repeat (first | (with_reducible exact upd_same) | (with_reducible assumption) | (with_reducible apply hp_u; (with_reducible assumption)) | (with_reducible apply hp_s; (with_reducible assumption)) | (with_reducible apply hp_l; (with_reducible assumption); (with_reducible assumption)) | (with_reducible apply hp_k; (with_reducible assumption); (focus (repeat (first | (with_reducible assumption) | (with_reducible apply HandAt.s; (with_reducible assumption)) | (with_reducible apply HandAt.u; (with_reducible assumption))))); (with_unfolding_all exact rfl))))); decide; decide; decide) | (with_reducible apply TQ.mono; with_reducible apply TQ.lit; (focus (repeat (first | (with_reducible exact upd_same) | (with_reducible assumption) | (with_reducible apply hp_u; (with_reducible assumption)) | (with_reducible apply hp_s; (with_reducible assumption)) | (with_reducible apply hp_l; (with_reducible assumption); (with_reducible assumption)) | (with_reducible apply hp_k; (with_reducible assumption); (focus (repeat (first | (with_reducible assumption) | (with_reducible apply HandAt.s; (with_reducible assumption)) | (with_reducible apply HandAt.u; (with_reducible assumption))))); (with_unfolding_all exact rfl))))); decide; decide; decide; omega) | (with_reducible apply TQ.mono; (focus (repeat (first | (with_reducible assumption) | (with_reducible apply TQ.s; (with_reducible assumption)) | (with_reducible apply TQ.kq; (with_reducible assumption); (focus (repeat (first | (with_reducible assumption) | (with_reducible apply HandAt.s; (with_reducible assumption)) | (with_reducible apply HandAt.u; (with_reducible assumption)))))) | (with_reducible apply TQ.u; (with_reducible assumption))))); omega))); walk_at "all"))
local macro_rules | `(tactic| walk_at "y1") => `(tactic| first | refine q_belowT (by (repeat (first | (with_reducible assumption) | (with_reducible apply QAt.s; (with_reducible assumption)) | (with_reducible apply QAt.kq; (with_reducible assumption); (focus (repeat (first | (with_reducible assumption) | (with_reducible apply HandAt.s; (with_reducible assumption)) | (with_reducible apply HandAt.u; (with_reducible assumption)))))) | (with_reducible apply QAt.u; (with_reducible assumption)))); done) (by (repeat (first | (with_reducible assumption) | (with_reducible apply QAt.s; (with_reducible assumption)) | (with_reducible apply QAt.kq; (with_reducible assumption); (focus (repeat (first | (with_reducible assumption) | (with_reducible apply HandAt.s; (with_reducible assumption)) | (with_reducible apply HandAt.u; (with_reducible assumption)))))) | (with_reducible apply QAt.u; (with_reducible assumption)))); done) (by omega) (by omega) ?_ | refine q_belowA (by (repeat (first | (with_reducible assumption) | (with_reducible apply QAt.s; (with_reducible assumption)) | (with_reducible apply QAt.kq; (with_reducible assumption); (focus (repeat (first | (with_reducible assumption) | (with_reducible apply HandAt.s; (with_reducible assumption)) | (with_reducible apply HandAt.u; (with_reducible assumption)))))) | (with_reducible apply QAt.u; (with_reducible assumption)))); done) (by (repeat (first | (with_reducible assumption) | (with_reducible apply QAt.s; (with_reducible assumption)) | (with_reducible apply QAt.kq; (with_reducible assumption); (focus (repeat (first | (with_reducible assumption) | (with_reducible apply HandAt.s; (with_reducible assumption)) | (with_reducible apply HandAt.u; (with_reducible assumption)))))) | (with_reducible apply QAt.u; (with_reducible assumption)))); done) (by omega) (by omega) ?_ | refine q_subT (by (repeat (first | (with_reducible assumption) | (with_reducible apply QAt.s; (with_reducible assumption)) | (with_reducible apply QAt.kq; (with_reducible assumption); (focus (repeat (first | (with_reducible assumption) | (with_reducible apply HandAt.s; (with_reducible assumption)) | (with_reducible apply HandAt.u; (with_reducible assumption)))))) | (with_reducible apply QAt.u; (with_reducible assumption)))); done) (by (repeat (first | (with_reducible assumption) | (with_reducible apply QAt.s; (with_reducible assumption)) | (with_reducible apply QAt.kq; (with_reducible assumption); (focus (repeat (first | (with_reducible assumption) | (with_reducible apply HandAt.s; (with_reducible assumption)) | (with_reducible apply HandAt.u; (with_reducible assumption)))))) | (with_reducible apply QAt.u; (with_reducible assumption)))); done) (by omega) (by omega) (by omega) ?_ | refine q_addT (by (repeat (first | (with_reducible assumption) | (with_reducible apply QAt.s; (with_reducible assumption)) | (with_reducible apply QAt.kq; (with_reducible assumption); (focus (repeat (first | (with_reducible assumption) | (with_reducible apply HandAt.s; (with_reducible assumption)) | (with_reducible apply HandAt.u; (with_reducible assumption)))))) | (with_reducible apply QAt.u; (with_reducible assumption)))); done) (by (repeat (first | (with_reducible assumption) | (with_reducible apply QAt.s; (with_reducible assumption)) | (with_reducible apply QAt.kq; (with_reducible assumption); (focus (repeat (first | (with_reducible assumption) | (with_reducible apply HandAt.s; (with_reducible assumption)) | (with_reducible apply HandAt.u; (with_reducible assumption)))))) | (with_reducible apply QAt.u; (with_reducible assumption)))); done) (by omega) (by omega) (by omega) ?_ | refine q_mulT (by (repeat (first | (with_reducible assumption) | (with_reducible apply QAt.s; (with_reducible assumption)) | (with_reducible apply QAt.kq; (with_reducible assumption); (focus (repeat (first | (with_reducible assumption) | (with_reducible apply HandAt.s; (with_reducible assumption)) | (with_reducible apply HandAt.u; (with_reducible assumption)))))) | (with_reducible apply QAt.u; (with_reducible assumption)))); done) (by (repeat (first | (with_reducible assumption) | (with_reducible apply QAt.s; (with_reducible assumption)) | (with_reducible apply QAt.kq; (with_reducible assumption); (focus (repeat (first | (with_reducible assumption) | (with_reducible apply HandAt.s; (with_reducible assumption)) | (with_reducible apply HandAt.u; (with_reducible assumption)))))) | (with_reducible apply QAt.u; (with_reducible assumption)))); done) (by omega) (by omega) (by omega) ?_ | refine meth_q (by (repeat (first | (with_reducible assumption) | (with_reducible apply QAt.s; (with_reducible assumption)) | (with_reducible apply QAt.kq; (with_reducible assumption); (focus (repeat (first | (with_reducible assumption) | (with_reducible apply HandAt.s; (with_reducible assumption)) | (with_reducible apply HandAt.u; (with_reducible assumption)))))) | (with_reducible apply QAt.u; (with_reducible assumption)))); done) (by decide +kernel) (by decide +kernel) ?_ | refine meth_l (by (repeat (first | (with_reducible assumption) | (with_reducible apply LadAt.s; (with_reducible assumption)) | (with_reducible apply LadAt.kq; (with_reducible assumption); (focus (repeat (first | (with_reducible assumption) | (with_reducible apply HandAt.s; (with_reducible assumption)) | (with_reducible apply HandAt.u; (with_reducible assumption)))))) | (with_reducible apply LadAt.u; (with_reducible assumption)))); done) (by decide +kernel) (by decide +kernel) (by decide +kernel) (by decide +kernel) ?_ | apply @Exists.intro V | apply @Exists.intro Int | apply @Exists.intro Addr | apply @Exists.intro Bool | apply @Exists.intro (List V) | apply @Exists.intro Str | apply @Exists.intro Nat | apply @Exists.intro (List (Str × V)) | apply @Exists.intro Q2 | apply @Exists.intro (List Q2) | apply @Exists.intro (Option Q2) | (apply And.intro; (focus (first | (with_reducible apply eq_id; apply Eq.refl) | (with_reducible assumption) | ((with_reducible apply TQ_id); first | ((repeat (first | (with_reducible assumption) | (with_reducible apply TQ.s; (with_reducible assumption)) | (with_reducible apply TQ.kq; (with_reducible assumption); (focus (repeat (first | (with_reducible assumption) | (with_reducible apply HandAt.s; (with_reducible assumption)) | (with_reducible apply HandAt.u; (with_reducible assumption)))))) | (with_reducible apply TQ.u; (with_reducible assumption)))); done) | (with_reducible apply TQ.lit; (focus (repeat (first | (with_reducible exact upd_same) | (with_reducible assumption) | (with_reducible apply hp_u; (with_reducible assumption)) | (with_reducible apply hp_s; (with_reducible assumption)) | (with_reducible apply hp_l; (with_reducible assumption); (with_reducible assumption)) | (with_reducible apply hp_k; (with_reducible assumption); (focus (repeat (first | (with_reducible assumption) | (with_reducible apply HandAt.s; (with_reducible assumption)) | (with_reducible apply HandAt.u; (with_reducible assumption))))); (with_unfolding_all exact rfl))))); decide; decide; decide) | (with_reducible apply TQ.mono; with_reducible apply TQ.lit; (focus (repeat (first | (with_reducible exact upd_same) | (with_reducible assumption) | (with_reducible apply hp_u; (with_reducible assumption)) | (with_reducible apply hp_s; (with_reducible assumption)) | (with_reducible apply hp_l; (with_reducible assumption); (with_reducible assumption)) | (with_reducible apply hp_k; (with_reducible assumption); (focus (repeat (first | (with_reducible assumption) | (with_reducible apply HandAt.s; (with_reducible assumption)) | (with_reducible apply HandAt.u; (with_reducible assumption))))); (with_unfolding_all exact rfl))))); decide; decide; decide; omega) | (with_reducible apply TQ.mono; (focus (repeat (first | (with_reducible assumption) | (with_reducible apply TQ.s; (with_reducible assumption)) | (with_reducible apply TQ.kq; (with_reducible assumption); (focus (repeat (first | (with_reducible assumption) | (with_reducible apply HandAt.s; (with_reducible assumption)) | (with_reducible apply HandAt.u; (with_reducible assumption)))))) | (with_reducible apply TQ.u; (with_reducible assumption))))); omega)) | ((with_reducible apply Tqs_id); first | ((repeat (first | (with_reducible assumption) | (with_reducible apply Tqs.s; (with_reducible assumption)) | (with_reducible apply Tqs.kq; (with_reducible assumption); (focus (repeat (first | (with_reducible assumption) | (with_reducible apply HandAt.s; (with_reducible assumption)) | (with_reducible apply HandAt.u; (with_reducible assumption)))))) | (with_reducible apply Tqs.u; (with_reducible assumption)))); done) | (with_reducible apply Tqs.mono; (focus (repeat (first | (with_reducible assumption) | (with_reducible apply Tqs.s; (with_reducible assumption)) | (with_reducible apply Tqs.kq; (with_reducible assumption); (focus (repeat (first | (with_reducible assumption) | (with_reducible apply HandAt.s; (with_reducible assumption)) | (with_reducible apply HandAt.u; (with_reducible assumption)))))) | (with_reducible apply Tqs.u; (with_reducible assumption))))); omega)) | ((with_reducible apply QAt_id); first | ((repeat (first | (with_reducible assumption) | (with_reducible apply QAt.s; (with_reducible assumption)) | (with_reducible apply QAt.kq; (with_reducible assumption); (focus (repeat (first | (with_reducible assumption) | (with_reducible apply HandAt.s; (with_reducible assumption)) | (with_reducible apply HandAt.u; (with_reducible assumption)))))) | (with_reducible apply QAt.u; (with_reducible assumption)))); done) | (with_reducible apply QAt.mono; (focus (repeat (first | (with_reducible assumption) | (with_reducible apply QAt.s; (with_reducible assumption)) | (with_reducible apply QAt.kq; (with_reducible assumption); (focus (repeat (first | (with_reducible assumption) | (with_reducible apply HandAt.s; (with_reducible assumption)) | (with_reducible apply HandAt.u; (with_reducible assumption)))))) | (with_reducible apply QAt.u; (with_reducible assumption))))); omega) | ((repeat (first | assumption | (apply QAt.s; assumption) | (apply QAt.kq; assumption; (focus (repeat (first | (with_reducible assumption) | (with_reducible apply HandAt.s; (with_reducible assumption)) | (with_reducible apply HandAt.u; (with_reducible assumption)))))) | (with_reducible apply QAt.u; assumption))); done)) | ((with_reducible apply Mks_id); first | ((repeat (first | (with_reducible assumption) | (with_reducible apply Mks.s; (with_reducible assumption)) | (with_reducible apply Mks.kq; (with_reducible assumption); (focus (repeat (first | (with_reducible assumption) | (with_reducible apply HandAt.s; (with_reducible assumption)) | (with_reducible apply HandAt.u; (with_reducible assumption)))))) | (with_reducible apply Mks.u; (with_reducible assumption)))); done)) | ((with_reducible apply QO_id); first | ((repeat (first | (with_reducible assumption) | (with_reducible apply QO.s; (with_reducible assumption)) | (with_reducible apply QO.kq; (with_reducible assumption); (focus (repeat (first | (with_reducible assumption) | (with_reducible apply HandAt.s; (with_reducible assumption)) | (with_reducible apply HandAt.u; (with_reducible assumption)))))) | (with_reducible apply QO.u; (with_reducible assumption)))); done) | (with_reducible apply QO.monoR; (focus (repeat (first | (with_reducible assumption) | (with_reducible apply QO.s; (with_reducible assumption)) | (with_reducible apply QO.kq; (with_reducible assumption); (focus (repeat (first | (with_reducible assumption) | (with_reducible apply HandAt.s; (with_reducible assumption)) | (with_reducible apply HandAt.u; (with_reducible assumption)))))) | (with_reducible apply QO.u; (with_reducible assumption))))); omega)) | ((with_reducible apply TOq_id); first | ((repeat (first | (with_reducible assumption) | (with_reducible apply TOq.s; (with_reducible assumption)) | (with_reducible apply TOq.kq; (with_reducible assumption); (focus (repeat (first | (with_reducible assumption) | (with_reducible apply HandAt.s; (with_reducible assumption)) | (with_reducible apply HandAt.u; (with_reducible assumption)))))) | (with_reducible apply TOq.u; (with_reducible assumption)))); done) | (with_reducible apply TOq.monoR; (focus (repeat (first | (with_reducible assumption) | (with_reducible apply TOq.s; (with_reducible assumption)) | (with_reducible apply TOq.kq; (with_reducible assumption); (focus (repeat (first | (with_reducible assumption) | (with_reducible apply HandAt.s; (with_reducible assumption)) | (with_reducible apply HandAt.u; (with_reducible assumption)))))) | (with_reducible apply TOq.u; (with_reducible assumption))))); omega)) | ((with_reducible apply LadAt_id); first | ((repeat (first | (with_reducible assumption) | (with_reducible apply LadAt.s; (with_reducible assumption)) | (with_reducible apply LadAt.kq; (with_reducible assumption); (focus (repeat (first | (with_reducible assumption) | (with_reducible apply HandAt.s; (with_reducible assumption)) | (with_reducible apply HandAt.u; (with_reducible assumption)))))) | (with_reducible apply LadAt.u; (with_reducible assumption)))); done) | (with_reducible apply LadAt.mono; (focus (repeat (first | (with_reducible assumption) | (with_reducible apply LadAt.s; (with_reducible assumption)) | (with_reducible apply LadAt.kq; (with_reducible assumption); (focus (repeat (first | (with_reducible assumption) | (with_reducible apply HandAt.s; (with_reducible assumption)) | (with_reducible apply HandAt.u; (with_reducible assumption)))))) | (with_reducible apply LadAt.u; (with_reducible assumption))))); omega) | ((repeat (first | assumption | (apply LadAt.s; assumption) | (apply LadAt.kq; assumption; (focus (repeat (first | (with_reducible assumption) | (with_reducible apply HandAt.s; (with_reducible assumption)) | (with_reducible apply HandAt.u; (with_reducible assumption)))))) | (with_reducible apply LadAt.u; assumption))); done)) | ((with_reducible apply GrdAt_id); first | ((repeat (first | (with_reducible assumption) | (with_reducible apply GrdAt.s; (with_reducible assumption)) | (with_reducible apply GrdAt.kq; (with_reducible assumption); (focus (repeat (first | (with_reducible assumption) | (with_reducible apply HandAt.s; (with_reducible assumption)) | (with_reducible apply HandAt.u; (with_reducible assumption)))))) | (with_reducible apply GrdAt.u; (with_reducible assumption)))); done) | ((repeat (first | assumption | (apply GrdAt.s; assumption) | (apply GrdAt.kq; assumption; (focus (repeat (first | (with_reducible assumption) | (with_reducible apply HandAt.s; (with_reducible assumption)) | (with_reducible apply HandAt.u; (with_reducible assumption)))))) | (with_reducible apply GrdAt.u; assumption))); done)) | ((with_reducible apply SidesAt_id); first | ((repeat (first | (with_reducible assumption) | (with_reducible apply SidesAt.s; (with_reducible assumption)) | (with_reducible apply SidesAt.kq; (with_reducible assumption); (focus (repeat (first | (with_reducible assumption) | (with_reducible apply HandAt.s; (with_reducible assumption)) | (with_reducible apply HandAt.u; (with_reducible assumption)))))) | (with_reducible apply SidesAt.u; (with_reducible assumption)))); done)) | ((with_reducible apply ChartAt_id); first | ((repeat (first | (with_reducible assumption) | (with_reducible apply ChartAt.s; (with_reducible assumption)) | (with_reducible apply ChartAt.kq; (with_reducible assumption); (focus (repeat (first | (with_reducible assumption) | (with_reducible apply HandAt.s; (with_reducible assumption)) | (with_reducible apply HandAt.u; (with_reducible assumption)))))) | (with_reducible apply ChartAt.u; (with_reducible assumption)))); done)) | ((with_reducible apply HandAt_id); first | ((focus (repeat (first | (with_reducible assumption) | (with_reducible apply HandAt.s; (with_reducible assumption)) | (with_reducible apply HandAt.u; (with_reducible assumption))))); done) | (with_reducible apply HandAt.mono; (focus (focus (repeat (first | (with_reducible assumption) | (with_reducible apply HandAt.s; (with_reducible assumption)) | (with_reducible apply HandAt.u; (with_reducible assumption)))))); omega)) | ((with_reducible apply SqT_id); first | ((first | (with_reducible apply SqT.of; (repeat (first | (with_reducible exact upd_same) | (with_reducible assumption) | (with_reducible apply hp_u; (with_reducible assumption)) | (with_reducible apply hp_s; (with_reducible assumption)) | (with_reducible apply hp_l; (with_reducible assumption); (with_reducible assumption)) | (with_reducible apply hp_k; (with_reducible assumption); (focus (repeat (first | (with_reducible assumption) | (with_reducible apply HandAt.s; (with_reducible assumption)) | (with_reducible apply HandAt.u; (with_reducible assumption))))); (with_unfolding_all exact rfl)))); done) | (repeat (first | (with_reducible assumption) | (with_reducible apply sqt_s; (with_reducible assumption)) | (with_reducible apply sqt_k; (with_reducible assumption); (focus (repeat (first | (with_reducible assumption) | (with_reducible apply HandAt.s; (with_reducible assumption)) | (with_reducible apply HandAt.u; (with_reducible assumption)))))) | (with_reducible apply sqt_u; (with_reducible assumption))))); done)) | ((with_reducible apply SqL_id); first | ((first | (with_reducible apply SqL.of; (repeat (first | (with_reducible exact upd_same) | (with_reducible assumption) | (with_reducible apply hp_u; (with_reducible assumption)) | (with_reducible apply hp_s; (with_reducible assumption)) | (with_reducible apply hp_l; (with_reducible assumption); (with_reducible assumption)) | (with_reducible apply hp_k; (with_reducible assumption); (focus (repeat (first | (with_reducible assumption) | (with_reducible apply HandAt.s; (with_reducible assumption)) | (with_reducible apply HandAt.u; (with_reducible assumption))))); (with_unfolding_all exact rfl)))); done) | (repeat (first | (with_reducible assumption) | (with_reducible apply sql_s; (with_reducible assumption)) | (with_reducible apply sql_k; (with_reducible assumption); (with_reducible assumption)) | (with_reducible apply sql_u; (with_reducible assumption))))); done)) | ((with_reducible apply ho_id); first | ((repeat (first | (with_reducible exact upd_same) | (with_reducible assumption) | (with_reducible apply hp_u; (with_reducible assumption)) | (with_reducible apply hp_s; (with_reducible assumption)) | (with_reducible apply hp_l; (with_reducible assumption); (with_reducible assumption)) | (with_reducible apply hp_k; (with_reducible assumption); (focus (repeat (first | (with_reducible assumption) | (with_reducible apply HandAt.s; (with_reducible assumption)) | (with_reducible apply HandAt.u; (with_reducible assumption))))); (with_unfolding_all exact rfl)))); done)) | ((with_reducible apply Kp_id); walk_at "k") | ((with_reducible apply Same_id); walk_at "s") | ((with_reducible apply sq2_id); first | (apply Or.inl; (first | (with_reducible apply SqL.of; (repeat (first | (with_reducible exact upd_same) | (with_reducible assumption) | (with_reducible apply hp_u; (with_reducible assumption)) | (with_reducible apply hp_s; (with_reducible assumption)) | (with_reducible apply hp_l; (with_reducible assumption); (with_reducible assumption)) | (with_reducible apply hp_k; (with_reducible assumption); (focus (repeat (first | (with_reducible assumption) | (with_reducible apply HandAt.s; (with_reducible assumption)) | (with_reducible apply HandAt.u; (with_reducible assumption))))); (with_unfolding_all exact rfl)))); done) | (repeat (first | (with_reducible assumption) | (with_reducible apply sql_s; (with_reducible assumption)) | (with_reducible apply sql_k; (with_reducible assumption); (with_reducible assumption)) | (with_reducible apply sql_u; (with_reducible assumption))))); done) | (apply Or.inr; (first | (with_reducible apply SqT.of; (repeat (first | (with_reducible exact upd_same) | (with_reducible assumption) | (with_reducible apply hp_u; (with_reducible assumption)) | (with_reducible apply hp_s; (with_reducible assumption)) | (with_reducible apply hp_l; (with_reducible assumption); (with_reducible assumption)) | (with_reducible apply hp_k; (with_reducible assumption); (focus (repeat (first | (with_reducible assumption) | (with_reducible apply HandAt.s; (with_reducible assumption)) | (with_reducible apply HandAt.u; (with_reducible assumption))))); (with_unfolding_all exact rfl)))); done) | (repeat (first | (with_reducible assumption) | (with_reducible apply sqt_s; (with_reducible assumption)) | (with_reducible apply sqt_k; (with_reducible assumption); (focus (repeat (first | (with_reducible assumption) | (with_reducible apply HandAt.s; (with_reducible assumption)) | (with_reducible apply HandAt.u; (with_reducible assumption)))))) | (with_reducible apply sqt_u; (with_reducible assumption))))); done)) | ((with_reducible apply AllTQ_id); walk_at "all") | ((with_reducible apply exT_id); exact ⟨_, by first | assumption | (apply SqT.of; (repeat (first | (with_reducible exact upd_same) | (with_reducible assumption) | (with_reducible apply hp_u; (with_reducible assumption)) | (with_reducible apply hp_s; (with_reducible assumption)) | (with_reducible apply hp_l; (with_reducible assumption); (with_reducible assumption)) | (with_reducible apply hp_k; (with_reducible assumption); (focus (repeat (first | (with_reducible assumption) | (with_reducible apply HandAt.s; (with_reducible assumption)) | (with_reducible apply HandAt.u; (with_reducible assumption))))); (with_unfolding_all exact rfl)))); done)⟩) | ((with_reducible apply exL_id); exact ⟨_, by first | assumption | (apply SqL.of; (repeat (first | (with_reducible exact upd_same) | (with_reducible assumption) | (with_reducible apply hp_u; (with_reducible assumption)) | (with_reducible apply hp_s; (with_reducible assumption)) | (with_reducible apply hp_l; (with_reducible assumption); (with_reducible assumption)) | (with_reducible apply hp_k; (with_reducible assumption); (focus (repeat (first | (with_reducible assumption) | (with_reducible apply HandAt.s; (with_reducible assumption)) | (with_reducible apply HandAt.u; (with_reducible assumption))))); (with_unfolding_all exact rfl)))); done)⟩) | with_reducible exact gf_lengths _ _ _ | with_reducible exact gf_breadths _ _ _ | with_reducible exact gf_grade _ _ _ | (first | (with_reducible apply eq_id; apply Eq.refl) | ((with_reducible apply ile_id); omega) | ((with_reducible apply ilt_id); omega) | ((with_reducible apply nle_id); omega) | ((with_reducible apply nlt_id); omega) | with_reducible assumption | with_reducible exact lf_marks _ _ _ _ | with_reducible exact lf_rule _ _ _ _ | with_reducible exact lf_least _ _ _ _ | with_reducible exact lf_most _ _ _ _ | with_reducible exact mf_top _ _ | with_reducible exact mf_bottom _ _ | with_reducible exact sf_low _ _ _ _ | with_reducible exact sf_high _ _ _ _ | with_reducible exact sf_low_in _ _ _ _ | with_reducible exact sf_high_in _ _ _ _ | exact SqL.of (by assumption) | exact SqT.of (by assumption) | exact Or.inl (SqL.of (by assumption)) | exact Or.inr (SqT.of (by assumption)) | exact Or.inr (by assumption) | exact Or.inl (by assumption) | omega | exact atI_nat (by assumption) | exact atI_of (n := 0) rfl (by assumption) | exact logS (by omega) | exact Or.inl (Or.inl ⟨by omega, by omega⟩) | exact Or.inl (Or.inr ⟨by omega, by omega⟩) | exact szb rfl | exact szs (by omega) | exact szl (by omega) | exact Or.inl ⟨Eq.refl _, _, SqL.of (by assumption)⟩ | exact ⟨_, SqT.of (by assumption)⟩ | exact ⟨_, SqL.of (by assumption)⟩ | exact ⟨by omega, by omega, by omega, by omega⟩) | (apply Eq.refl; done)))) | (with_reducible apply iteT) | (with_reducible apply iteF) | refine iteDT (by omega) ?_ | refine iteDF (by omega) ?_ | refine iteNS (by omega) ?_ | refine iteNT (by omega) ?_)
local macro_rules | `(tactic| walk_at "y") => `(tactic| repeat (walk_at "y1"))
local macro_rules | `(tactic| walk_at "pick") => `(tactic| (show sp_of _ [_, _] _ _ E0); refine of_tq (by (focus (repeat (first | (with_reducible assumption) | (with_reducible apply HandAt.s; (with_reducible assumption)) | (with_reducible apply HandAt.u; (with_reducible assumption)))))) (by omega) (by (first | (with_reducible apply SqL.of; (repeat (first | (with_reducible exact upd_same) | (with_reducible assumption) | (with_reducible apply hp_u; (with_reducible assumption)) | (with_reducible apply hp_s; (with_reducible assumption)) | (with_reducible apply hp_l; (with_reducible assumption); (with_reducible assumption)) | (with_reducible apply hp_k; (with_reducible assumption); (focus (repeat (first | (with_reducible assumption) | (with_reducible apply HandAt.s; (with_reducible assumption)) | (with_reducible apply HandAt.u; (with_reducible assumption))))); (with_unfolding_all exact rfl)))); done) | (repeat (first | (with_reducible assumption) | (with_reducible apply sql_s; (with_reducible assumption)) | (with_reducible apply sql_k; (with_reducible assumption); (with_reducible assumption)) | (with_reducible apply sql_u; (with_reducible assumption))))); done) (by first | with_reducible assumption | (with_reducible apply hand_ne; (with_reducible assumption); (focus (repeat (first | (with_reducible assumption) | (with_reducible apply HandAt.s; (with_reducible assumption)) | (with_reducible apply HandAt.u; (with_reducible assumption))))))) (Nat.le_of_ble_eq_true rfl) (Nat.le_of_ble_eq_true rfl) (by walk_at "all") ?_)


def sp_widthP : Sp := fun vs H Q _ => ∃ (h l : Addr) (n k : Nat) (us : List V) (zs : List Q2), vs = [.ref h, .ref l] ∧ HandAt H h n ∧ n < 10000 ∧ l ≠ h ∧ H l = some (.lst us) ∧ Tqs H k us zs ∧ 20 ≤ k ∧ k ≤ 1000 ∧ 0 < zs.length ∧ zs.length ≤ 24 ∧ RiseQ zs ∧
  ∀ (v : V) (z : Q2) (H' : Hp), HandAt H' h (n + 3) → Kp h H H' → TQ H' v (2 * k + 4) z → 0 ≤ z.1 → Q v H'
def sp_foot : Sp := fun vs H Q _ => ∃ (h l : Addr) (a b : V) (n k : Nat) (us : List V) (zs : List Q2) (x y : Q2), vs = [.ref h, .ref l, a, b] ∧ HandAt H h n ∧ n < 10000 ∧ l ≠ h ∧ H l = some (.lst us) ∧ Tqs H k us zs ∧ 20 ≤ k ∧ k ≤ 1000 ∧ 0 < zs.length ∧ zs.length ≤ 24 ∧ TQ H a (2 * k + 4) x ∧ TQ H b (2 * k + 4) y ∧
  ∀ (v : V) (z : Q2) (H' : Hp), HandAt H' h (n + 6) → Kp h H H' → TQ H' v (3 * k + 40) z → Q v H'
/-- pairs of a foot and whether the mark i fits it -/
def EdgeAt (H : Hp) (D : Addr) (k : Nat) (zs : List Q2) (x y : Q2) (i : Nat) : Prop := ∃ ts : List V, H D = some (.lst ts) ∧ ts.length = 4 ∧ ∀ v ∈ ts, ∃ (T : Addr) (w : V) (z : Q2) (b : Bool), v = .ref T ∧ H T = some (.tup [w, .bl b]) ∧ TQ H w k z ∧ fitQ zs z x y i = b
theorem EdgeAt.same {H H' : Hp} {D : Addr} {k : Nat} {zs : List Q2} {x y : Q2} {i : Nat} (a : EdgeAt H D k zs x y i) (s : Same H H') : EdgeAt H' D k zs x y i := by
  obtain ⟨ts, h1, h2, h3⟩ := a
  refine ⟨ts, s _ _ h1, h2, fun v hv => ?_⟩
  obtain ⟨T, w, z, b, e1, e2, e3, e4⟩ := h3 v hv
  exact ⟨T, w, z, b, e1, s _ _ e2, e3.same s, e4⟩
def sp_edge : Sp := fun vs H Q _ => ∃ (h l : Addr) (a b : V) (n k : Nat) (us : List V) (zs : List Q2) (x y : Q2), vs = [.ref h, .ref l, a, b] ∧ HandAt H h n ∧ n < 10000 ∧ l ≠ h ∧ H l = some (.lst us) ∧ Tqs H k us zs ∧ 20 ≤ k ∧ k ≤ 1000 ∧ 0 < zs.length ∧ zs.length ≤ 24 ∧ RiseQ zs ∧ TQ H a (2 * k + 4) x ∧ TQ H b (2 * k + 4) y ∧ 0 ≤ x.1 ∧ 0 ≤ y.1 ∧
  ∀ (T D : Addr) (i : Nat) (H' : Hp), HandAt H' h (n + 2) → Kp h H H' → D ≠ h → H' T = some (.tup [.int (i : Int), .ref D]) → EdgeAt H' D (3 * k + 60) zs x y i → i < zs.length → Q (.ref T) H'
def sp_fitsr (K : PySem.W.Frag) (CM CL : Addr) : Sp := fun vs H Q _ => ∃ (p D : Addr) (i : Nat) (a b : V) (k j : Nat) (zs : List Q2) (r : Str) (lo hi : Option Q2) (x y : Q2), vs = [.ref p, .int (i : Int), .ref D, a, b] ∧ LadAt K CM CL H p k zs r lo hi ∧ EdgeAt H D j zs x y i ∧ i < zs.length ∧ TQ H a j x ∧ TQ H b j y ∧ 0 < k ∧ k ≤ 4000 ∧ 0 < j ∧ j ≤ 4000 ∧ ∀ H', Same H H' → Q (.bl true) H'
def sp_neverr (K : PySem.W.Frag) (CM CL : Addr) : Sp := fun vs H Q _ => ∃ (p l S : Addr) (a b : V) (k j m : Nat) (us fs : List V) (zs xs : List Q2) (r : Str) (lo hi : Option Q2) (x y : Q2), vs = [.ref p, .ref l, .ref S, a, b] ∧ LadAt K CM CL H p k zs r lo hi ∧ H l = some (.lst us) ∧ Tqs H m us zs ∧ H S = some (.lst fs) ∧ Tqs H j fs xs ∧ xs.length ≤ 20 ∧ TQ H a j x ∧ TQ H b j y ∧ 0 < k ∧ k ≤ 1000 ∧ 0 < j ∧ j ≤ 3500 ∧ 0 < m ∧ m ≤ 1000 ∧ ∀ H', Same H H' → Q (.bl true) H'
theorem inV_idx {n k : Nat} {c : Nat → Bool} (hk : k < n) : inV (.int (k : Int)) ((idx n c).map V.int) = c k := by
  rw [Bool.eq_iff_iff]
  have e : inV (.int (k : Int)) ((idx n c).map V.int) = true ↔ (k : Int) ∈ idx n c := by
    unfold inV
    rw [List.any_eq_true]
    constructor
    · rintro ⟨v, hv, q⟩
      obtain ⟨z, hz, rfl⟩ := List.mem_map.mp hv
      have : z = (k : Int) := by
        have q : eqV (.int z) (.int (k : Int)) = true := q
        simpa [eqV] using q
      rw [← this]; exact hz
    · intro h
      exact ⟨.int (k : Int), List.mem_map.mpr ⟨_, h, rfl⟩, by simp [eqV]⟩
  rw [e, idx_mem]
  constructor
  · rintro ⟨j, _, cj, ej⟩
    have : k = j := by omega
    rw [this]; exact cj
  · intro h
    exact ⟨k, hk, h, rfl⟩

def sp_lfits : Sp := fun vs H Q _ => ∃ (l : Addr) (va vb vc : V) (k j : Nat) (us : List V) (zs : List Q2) (x s t : Q2), vs = [.ref l, va, vb, vc] ∧ H l = some (.lst us) ∧ Tqs H k us zs ∧ TQ H va j x ∧ TQ H vb j s ∧ TQ H vc j t ∧ 0 < k ∧ 0 < j ∧ k ≤ 1000 ∧ j ≤ 3500 ∧ zs.length ≤ 24 ∧
  ∀ (T : Addr) (H' : Hp), Same H H' → H' T = some (.tup ((idx zs.length (fitQ zs x s t)).map V.int)) → Q (.ref T) H'
def sp_same0 : Sp := fun vs H Q _ => ∃ a b : Int, vs = [.int a, .int b] ∧ Q (.bl (decide (a = b))) H
def sp_same1 (K : PySem.W.Frag) : Sp := fun vs H Q _ => ∃ (p q : Addr) (as : List Int), vs = [.ref p, .ref q] ∧ SqT K H p (as.map V.int) ∧ SqT K H q (as.map V.int) ∧ as.length ≤ 900 ∧ ∀ H', Same H H' → Q (.bl true) H'
def sp_right42 (K : PySem.W.Frag) (CM CL : Addr) : Sp := fun vs H Q _ => ∃ (c l : Addr) (va vb vc : V) (k j : Nat) (cs us : List V) (zs : List Q2) (x s t : Q2), vs = [.ref c, .ref l, va, vb, vc] ∧ H c = some (.lst cs) ∧ (∀ y ∈ cs, ∃ p r lo hi, y = .ref p ∧ LadAt K CM CL H p (k + 4) zs r lo hi) ∧ cs.length ≤ 10 ∧ H l = some (.lst us) ∧ Tqs H k us zs ∧ TQ H va j x ∧ TQ H vb j s ∧ TQ H vc j t ∧ 0 < k ∧ 0 < j ∧ k ≤ 1000 ∧ j ≤ 3500 ∧ zs.length ≤ 24 ∧
  ∀ H', Same H H' → Q (.bl true) H'
theorem qadd_neg (x t : Q2) : qadd x (0 - t.1, t.2) = qsub x t := by
  unfold qadd qsub
  show (x.1 * t.2 + (0 - t.1) * x.2, x.2 * t.2) = _
  rw [Int.zero_sub, Int.neg_mul, ← Int.sub_eq_add_neg]

def sp_fitting (K : PySem.W.Frag) (CM CL : Addr) : Sp := fun vs H Q _ => ∃ (p F s : Addr) (t : V) (k j : Nat) (fs : List V) (zs : List Q2) (r : Str) (lo hi : Option Q2) (xs : List Q2) (y : Q2) (e : Option Q2), vs = [.ref p, .ref F, .ref s, t] ∧ LadAt K CM CL H p k zs r lo hi ∧ SqT K H F fs ∧ Mks CM H j fs xs ∧ QAt CM H s j y ∧ QO CM H j t e ∧ 0 < k ∧ k ≤ 4000 ∧ 0 < j ∧ j ≤ 4000 ∧ xs.length ≤ 100 ∧
  ∀ (D : Addr) (H' : Hp), Same H H' → FitsL H' D (fitL zs xs y (e.getD (0, 1))) → Q (.ref D) H'
def sp_bare : Sp := fun vs H Q _ => ∃ (D : Addr) (ls : List (List Int)), vs = [.ref D] ∧ FitsL H D ls ∧ ls.length ≤ 100 ∧ (∀ l ∈ ls, l.length ≤ 24) ∧ ∀ o H', Same H H' → BareAt ls o → Q (optI o) H'
def sp_few : Sp := fun vs H Q _ => ∃ (D : Addr) (ls : List (List Int)), vs = [.ref D] ∧ FitsL H D ls ∧ ls.length ≤ 60 ∧ (∀ l ∈ ls, l.length ≤ 24) ∧ RunsI ls ∧
  ∀ (T S A : Addr) (ss as : List Int) (H' : Hp), Same H H' → H' T = some (.tup [.ref S, .ref A]) → H' S = some (.tup (ss.map V.int)) → H' A = some (.tup (as.map V.int)) → Few ls ss as → Q (.ref T) H'
/-- what stock_for tells -/
def StockV (H : Hp) (T : Addr) (ls : List (List Int)) : Prop :=
  (∃ n : Nat, BareAt ls (some n) ∧ H T = some (.tup [.str "never", .int (n : Int)])) ∨ (BareAt ls none ∧ ∃ (S A : Addr) (ss as : List Int), H T = some (.tup [.str "stock", .ref S, .ref A]) ∧ H S = some (.tup (ss.map V.int)) ∧ H A = some (.tup (as.map V.int)) ∧ Few ls ss as)
theorem StockV.same {H H' : Hp} {T : Addr} {ls : List (List Int)} (a : StockV H T ls) (s : Same H H') : StockV H' T ls := by
  rcases a with ⟨n, h1, h2⟩ | ⟨h0, S, A, ss, as, h1, h2, h3, h4⟩
  · exact .inl ⟨n, h1, s _ _ h2⟩
  · exact .inr ⟨h0, S, A, ss, as, s _ _ h1, s _ _ h2, s _ _ h3, h4⟩
def sp_stockfor (K : PySem.W.Frag) (CM CL : Addr) : Sp := fun vs H Q _ => ∃ (p F s : Addr) (t : V) (k j : Nat) (fs : List V) (zs : List Q2) (r : Str) (lo hi : Option Q2) (xs : List Q2) (y : Q2) (e : Option Q2), vs = [.ref p, .ref F, .ref s, t] ∧ LadAt K CM CL H p k zs r lo hi ∧ SqT K H F fs ∧ Mks CM H j fs xs ∧ QAt CM H s j y ∧ QO CM H j t e ∧ 0 < k ∧ k ≤ 4000 ∧ 0 < j ∧ j ≤ 4000 ∧ xs.length ≤ 60 ∧
  ∀ (T : Addr) (H' : Hp), Same H H' → StockV H' T (fitL zs xs y (e.getD (0, 1))) → Q (.ref T) H'
/-- the pair that stands there -/
def kPr (H : Hp) : V → Int × Int
  | .ref t => match H t with
    | some (.tup [.int a, .int b]) => (a, b)
    | _ => (0, 0)
  | _ => (0, 0)
theorem kPr_eq {H : Hp} {t : Addr} {a b : Int} (h : H t = some (.tup [.int a, .int b])) : kPr H (.ref t) = (a, b) := by
  simp only [kPr, h]
theorem fitL_len {zs xs : List Q2} {s t : Q2} : ∀ l ∈ fitL zs xs s t, l.length ≤ zs.length := fun l hl => by
  unfold fitL at hl
  obtain ⟨x, _, rfl⟩ := List.mem_map.mp hl
  exact idx_len
theorem getD_get {α : Type} {ls : List (List α)} {i : Nat} {l : List α} (h : ls[i]? = some l) : ls.getD i [] = l := by
  rw [List.getD_eq_getElem?_getD, h]; rfl
theorem first_at {ls : List (List Int)} {i : Nat} {x : Int} {l : List Int} (h : ls[i]? = some (x :: l)) : firstI ls (i : Int) = x := by
  unfold firstI
  rw [Int.toNat_natCast, getD_get h]; rfl
theorem last_at {ls : List (List Int)} {i : Nat} {l : List Int} {x : Int} (h : ls[i]? = some l) (g : l.getLast? = some x) : lastI ls (i : Int) = x := by
  unfold lastI
  rw [Int.toNat_natCast, getD_get h, g]; rfl

def sp_istup (K : PySem.W.Frag) : Sp := fun vs H Q _ => ∃ (a : Addr) (xs : List V) (n : Int), vs = [.ref a, .int n] ∧ SqT K H a xs ∧ Q (.bl (decide ((xs.length : Int) = n))) H
def sp_isnum : Sp := fun vs H Q _ => ∃ a b : Int, vs = [.int a, .int b] ∧ Q (.bl (decide (a = b))) H
def sp_isword : Sp := fun vs H Q _ => ∃ a b : Str, vs = [.str a, .str b] ∧ Q (.bl (decide (a = b))) H
def sp_arew (K : PySem.W.Frag) : Sp := fun vs H Q _ => ∃ (a : Addr) (ns : List Int), vs = [.ref a] ∧ SqT K H a (ns.map V.int) ∧ ns.length ≤ 900 ∧ ∀ H', Same H H' → Q (.bl true) H'
theorem allT (n : Nat) : (List.replicate n true).all _root_.id = true := by
  induction n with
  | zero => rfl
  | succ n ih => rw [List.replicate_succ]; simpa using ih
theorem filT (n : Nat) : (List.replicate n (some (V.bl true))).filterMap _root_.id = (List.replicate n true).map V.bl := by
  induction n with
  | zero => rfl
  | succ n ih => rw [List.replicate_succ, List.replicate_succ]; simpa using ih

def lotsL : Nat → List (List Int)
  | 0 => [[]]
  | n + 1 => lotsL n ++ (lotsL n).map (· ++ [(n : Int)])
theorem lots_len : ∀ n, (lotsL n).length = 2 ^ n
  | 0 => rfl
  | n + 1 => by
    show (lotsL n ++ (lotsL n).map (· ++ [(n : Int)])).length = 2 ^ (n + 1)
    rw [List.length_append, List.length_map, lots_len n, Nat.pow_succ]
    omega
theorem lots_mem : ∀ n, ∀ l ∈ lotsL n, l.length ≤ n
  | 0, l, h => by
    have : l = [] := by simpa [lotsL] using h
    rw [this]; exact Nat.le_refl _
  | n + 1, l, h => by
    have h : l ∈ lotsL n ++ (lotsL n).map (· ++ [(n : Int)]) := h
    rcases List.mem_append.mp h with h | h
    · have := lots_mem n l h
      omega
    · obtain ⟨l', h', rfl⟩ := List.mem_map.mp h
      have := lots_mem n l' h'
      rw [List.length_append, List.length_singleton]
      omega
theorem FitsL.app {H : Hp} {D : Addr} {ls ms : List (List Int)} {ts ws : List V} (h : H D = some (.lst (ts ++ ws))) (l1 : ts.length = ls.length) (l2 : ws.length = ms.length) (a : ∀ (i : Nat) (v : V) (l : List Int), ts[i]? = some v → ls[i]? = some l → ∃ T, v = .ref T ∧ H T = some (.tup (l.map V.int))) (b : ∀ (i : Nat) (v : V) (l : List Int), ws[i]? = some v → ms[i]? = some l → ∃ T, v = .ref T ∧ H T = some (.tup (l.map V.int))) : FitsL H D (ls ++ ms) := by
  refine ⟨ts ++ ws, h, by rw [List.length_append, List.length_append, l1, l2], fun i v l e1 e2 => ?_⟩
  by_cases q : i < ts.length
  · rw [List.getElem?_append_left q] at e1
    rw [List.getElem?_append_left (by omega)] at e2
    exact a i v l e1 e2
  · rw [List.getElem?_append_right (by omega)] at e1
    rw [List.getElem?_append_right (by omega), ← l1] at e2
    exact b _ v l e1 e2
theorem apart_le {ls : List (List Int)} : ∀ {as lot : List Int}, as.Pairwise (fun a b => lastI ls a < firstI ls b ∨ lastI ls b < firstI ls a) → (∀ a ∈ as, ∃ s ∈ lot, firstI ls a ≤ s ∧ s ≤ lastI ls a) → as.length ≤ lot.length
  | [], _, _, _ => Nat.zero_le _
  | a :: as, lot, hp, hh => by
    obtain ⟨s, hs, h1, h2⟩ := hh a (by simp)
    obtain ⟨ha, hp'⟩ := List.pairwise_cons.mp hp
    have ih := apart_le (ls := ls) (as := as) (lot := lot.erase s) hp' fun b hb => by
      obtain ⟨s', hs', g1, g2⟩ := hh b (by simp [hb])
      refine ⟨s', ?_, g1, g2⟩
      have ne : s' ≠ s := fun q => by
        subst q
        rcases ha b hb with z | z <;> omega
      exact (List.mem_erase_of_ne ne).mpr hs'
    rw [List.length_erase_of_mem hs] at ih
    have : 0 < lot.length := List.length_pos_of_mem hs
    rw [List.length_cons]
    omega
/-- no lot that hits all runs is of fewer sizes -/
theorem Few.le {ls : List (List Int)} {ss as lot : List Int} (f : Few ls ss as) (h : ∀ i : Nat, i < ls.length → ∃ s ∈ lot, firstI ls i ≤ s ∧ s ≤ lastI ls i) : ss.length ≤ lot.length := by
  rw [f.len]
  refine apart_le (ls := ls) (List.pairwise_iff_getElem.mpr fun i j hi hj hij => ?_) fun a ha => ?_
  · refine f.apart _ (List.getElem_mem hi) _ (List.getElem_mem hj) fun q => ?_
    have := f.arise.lt hij (List.getElem?_eq_getElem hi) (List.getElem?_eq_getElem hj)
    omega
  · obtain ⟨i, rfl, hi⟩ := f.mem a ha
    exact h i hi
theorem rise_last {ss : List Int} (h : RiseI ss) {m : Int} (hm : ss.getLast? = some m) : ∀ (j : Nat) (s : Int), ss[j]? = some s → s ≤ m := fun j s hs => by
  have l := (List.getElem?_eq_some_iff.mp hs).1
  have hl : ss[ss.length - 1]? = some m := by rw [← List.getLast?_eq_getElem?]; exact hm
  by_cases q : j = ss.length - 1
  · rw [q, hl] at hs
    cases hs
    exact Int.le_refl _
  · exact Int.le_of_lt (h.lt (show j < ss.length - 1 by omega) hs hl)
/-- rising sizes are one of all lots -/
theorem lots_has : ∀ (n : Nat) (ss : List Int), RiseI ss → (∀ s ∈ ss, 0 ≤ s ∧ s < (n : Int)) → ss ∈ lotsL n
  | 0, ss, _, hb => by
    cases ss with
    | nil => simp [lotsL]
    | cons s ss => have := hb s (by simp); omega
  | n + 1, ss, hr, hb => by
    show ss ∈ lotsL n ++ (lotsL n).map (· ++ [(n : Int)])
    cases e : ss.getLast? with
    | none =>
      have : ss = [] := List.getLast?_eq_none_iff.mp e
      subst this
      exact List.mem_append.mpr (.inl (lots_has n [] (fun i a b h => by simp at h) fun s h => by simp at h))
    | some m =>
      have hm := hb m (List.mem_of_getLast? e)
      have le := rise_last hr e
      by_cases q : m = (n : Int)
      · subst q
        obtain ⟨pre, epre⟩ : ∃ pre, ss = pre ++ [(n : Int)] := by
          have := List.getLast?_eq_some_iff.mp e
          exact this
        subst epre
        refine List.mem_append.mpr (.inr (List.mem_map.mpr ⟨pre, lots_has n pre (fun i a b h1 h2 => ?_) (fun s hs => ?_), rfl⟩))
        · have l2 := (List.getElem?_eq_some_iff.mp h2).1
          exact hr i a b (by rw [List.getElem?_append_left (by omega)]; exact h1) (by rw [List.getElem?_append_left l2]; exact h2)
        · obtain ⟨j, hj⟩ := List.mem_iff_getElem?.mp hs
          have lj := (List.getElem?_eq_some_iff.mp hj).1
          have h1 : (pre ++ [(n : Int)])[j]? = some s := by rw [List.getElem?_append_left lj]; exact hj
          have h2 : (pre ++ [(n : Int)])[pre.length]? = some (n : Int) := by simp
          have := hr.lt lj h1 h2
          exact ⟨(hb s (by simp [hs])).1, this⟩
      · refine List.mem_append.mpr (.inl (lots_has n ss hr fun s hs => ?_))
        obtain ⟨j, hj⟩ := List.mem_iff_getElem?.mp hs
        have := le j s hj
        have := hb s hs
        omega
theorem flat_ints (l : List Int) : (l.map V.int).all flatV = true := by
  rw [List.all_eq_true]
  intro v hv
  obtain ⟨z, _, rfl⟩ := List.mem_map.mp hv
  rfl
theorem inV_ints (s : Int) (l : List Int) : inV (.int s) (l.map V.int) = decide (s ∈ l) := by
  rw [Bool.eq_iff_iff, decide_eq_true_iff]
  unfold inV
  rw [List.any_eq_true]
  constructor
  · rintro ⟨v, hv, q⟩
    obtain ⟨z, hz, rfl⟩ := List.mem_map.mp hv
    have : z = s := by
      have q : eqV (.int z) (.int s) = true := q
      simpa [eqV] using q
    rw [← this]; exact hz
  · intro h
    exact ⟨.int s, List.mem_map.mpr ⟨_, h, rfl⟩, by simp [eqV]⟩
/-- each is a run of numbers below n -/
def RunsC (ls : List (List Int)) (n : Nat) : Prop := ∀ (i : Nat) (l : List Int), ls[i]? = some l → ∃ a m : Nat, a + m + 1 ≤ n ∧ l = (List.range' a (m + 1)).map (fun k : Nat => (k : Int))
theorem RunsC.at {ls : List (List Int)} {n i : Nat} {l : List Int} (h : RunsC ls n) (e : ls[i]? = some l) : 0 ≤ firstI ls i ∧ lastI ls i < (n : Int) ∧ firstI ls i ≤ lastI ls i ∧ ∀ x : Int, x ∈ l ↔ firstI ls i ≤ x ∧ x ≤ lastI ls i := by
  obtain ⟨a, m, h1, rfl⟩ := h i l e
  have f : firstI ls (i : Int) = (a : Int) := first_at (l := (List.range' (a + 1) m).map (fun k : Nat => (k : Int))) (by rw [e, List.range'_succ]; rfl)
  have g : lastI ls (i : Int) = ((a + m : Nat) : Int) := last_at e (by rw [List.getLast?_eq_getElem?, List.length_map, List.length_range', List.getElem?_map, List.getElem?_range' (by omega)]; simp)
  rw [f, g]
  refine ⟨by omega, by omega, by omega, fun x => ?_⟩
  rw [List.mem_map]
  constructor
  · rintro ⟨k, hk, rfl⟩
    have := List.mem_range'_1.mp hk
    omega
  · rintro ⟨h2, h3⟩
    exact ⟨x.toNat, List.mem_range'_1.mpr (by omega), by omega⟩
/-- a lot that hits all -/
def goodB (ls : List (List Int)) (lot : List Int) : Bool := ls.all fun l => lot.any fun s => decide (s ∈ l)
theorem good_iff {ls : List (List Int)} {n : Nat} (h : RunsC ls n) {lot : List Int} : goodB ls lot = true ↔ ∀ i : Nat, i < ls.length → ∃ s ∈ lot, firstI ls i ≤ s ∧ s ≤ lastI ls i := by
  unfold goodB
  rw [List.all_eq_true]
  constructor
  · intro g i hi
    have e : ls[i]? = some ls[i] := List.getElem?_eq_getElem hi
    have := g _ (List.mem_of_getElem? e)
    rw [List.any_eq_true] at this
    obtain ⟨s, hs, q⟩ := this
    exact ⟨s, hs, ((h.at e).2.2.2 s).mp (of_decide_eq_true q)⟩
  · intro g l hl
    obtain ⟨i, e⟩ := List.mem_iff_getElem?.mp hl
    obtain ⟨s, hs, q⟩ := g i (List.getElem?_eq_some_iff.mp e).1
    rw [List.any_eq_true]
    exact ⟨s, hs, decide_eq_true (((h.at e).2.2.2 s).mpr q)⟩
def keepV (p : List Int → Bool) (ts : List V) (ls : List (List Int)) : List (Option V) := List.zipWith (fun (t : V) (l : List Int) => if p l then some t else none) ts ls
theorem keepV_at {p : List Int → Bool} {ts : List V} {ls : List (List Int)} {i : Nat} {t : V} {l : List Int} (h1 : ts[i]? = some t) (h2 : ls[i]? = some l) : (keepV p ts ls)[i]? = some (if p l then some t else none) := by
  unfold keepV
  rw [List.getElem?_zipWith, h1, h2]
theorem keepV_len {p : List Int → Bool} {ts : List V} {ls : List (List Int)} (h : ts.length = ls.length) : (keepV p ts ls).length = ts.length := by
  unfold keepV
  rw [List.length_zipWith]; omega
theorem keep_all {H : Hp} (p : List Int → Bool) : ∀ {ts : List V} {ls : List (List Int)}, ts.length = ls.length → (∀ (i : Nat) (v : V) (l : List Int), ts[i]? = some v → ls[i]? = some l → ∃ T, v = .ref T ∧ H T = some (.tup (l.map V.int))) →
    ((keepV p ts ls).filterMap _root_.id).length = (ls.filter p).length ∧ ∀ (i : Nat) (v : V) (l : List Int), ((keepV p ts ls).filterMap _root_.id)[i]? = some v → (ls.filter p)[i]? = some l → ∃ T, v = .ref T ∧ H T = some (.tup (l.map V.int))
  | [], [], _, _ => ⟨rfl, fun i v l e1 e2 => by simp at e2⟩
  | [], _ :: _, h, _ => by simp at h
  | _ :: _, [], h, _ => by simp at h
  | t :: ts, l :: ls, h, hh => by
    obtain ⟨g1, g2⟩ := keep_all (H := H) p (ts := ts) (ls := ls) (by simpa using h) fun i v l e1 e2 => hh (i + 1) v l (by simpa using e1) (by simpa using e2)
    have e : keepV p (t :: ts) (l :: ls) = (if p l then some t else none) :: keepV p ts ls := rfl
    rw [e, List.filter_cons]
    by_cases q : p l = true
    · rw [if_pos q, if_pos q, List.filterMap_cons]
      refine ⟨by show (_ :: _).length = _; rw [List.length_cons, List.length_cons, g1], fun i v l' e1 e2 => ?_⟩
      cases i with
      | zero => exact hh 0 v l' e1 e2
      | succ i => exact g2 i v l' e1 (by simpa using e2)
    · rw [if_neg q, if_neg q, List.filterMap_cons]
      exact ⟨g1, g2⟩
theorem FitsL.filt {H : Hp} {D : Addr} (p : List Int → Bool) {ts : List V} {ls : List (List Int)} (lt : ts.length = ls.length) (hts : ∀ (i : Nat) (v : V) (l : List Int), ts[i]? = some v → ls[i]? = some l → ∃ T, v = .ref T ∧ H T = some (.tup (l.map V.int))) (h : H D = some (.lst ((keepV p ts ls).filterMap _root_.id))) : FitsL H D (ls.filter p) :=
  ⟨_, h, (keep_all p lt hts).1, (keep_all p lt hts).2⟩
theorem any_list (ls : List (List Int)) (x : List Int) : ((ls.map fun l => intsD l).any fun z => PyData.eqv z (intsD x)) = decide (x ∈ ls) := by
  rw [Bool.eq_iff_iff, decide_eq_true_iff, List.any_eq_true]
  constructor
  · rintro ⟨z, hz, e⟩
    obtain ⟨l, hl, rfl⟩ := List.mem_map.mp hz
    rw [eqv_intsD] at e
    rw [← of_decide_eq_true e]; exact hl
  · intro h
    exact ⟨intsD x, List.mem_map.mpr ⟨x, h, rfl⟩, by rw [eqv_intsD]; exact decide_eq_true rfl⟩
theorem few_good {ls : List (List Int)} {ss as : List Int} {n : Nat} (C : RunsC ls n) (f : Few ls ss as) : ss ∈ (lotsL n).filter (goodB ls) := by
  rw [List.mem_filter]
  refine ⟨lots_has n ss f.rise fun s hs => ?_, (good_iff C).mpr f.hit⟩
  obtain ⟨i, hi, e⟩ := f.own s hs
  have := C.at (List.getElem?_eq_getElem hi)
  omega
theorem few_min {ls : List (List Int)} {ss as : List Int} {n : Nat} (C : RunsC ls n) (f : Few ls ss as) {m : Int} (hm : m ∈ ((lotsL n).filter (goodB ls)).map fun l => (l.length : Int)) (hmin : ∀ y, y ∈ ((lotsL n).filter (goodB ls)).map (fun l => (l.length : Int)) → m ≤ y) : m = (ss.length : Int) := by
  have h1 := hmin _ (List.mem_map.mpr ⟨ss, few_good C f, rfl⟩)
  obtain ⟨l, hl, rfl⟩ := List.mem_map.mp hm
  have h2 := Few.le f ((good_iff C).mp (List.mem_filter.mp hl).2)
  omega
theorem rise_pw : ∀ {l : List Int}, RiseI l → l.Pairwise (· < ·) := fun {l} h => List.pairwise_iff_getElem.mpr fun i j hi hj hij => h.lt hij (List.getElem?_eq_getElem hi) (List.getElem?_eq_getElem hj)
theorem pw_eq : ∀ {a b : List Int}, a.Pairwise (· < ·) → b.Pairwise (· < ·) → (∀ x, x ∈ a ↔ x ∈ b) → a = b
  | [], [], _, _, _ => rfl
  | [], y :: b, _, _, h => by have := (h y).mpr (by simp); simp at this
  | x :: a, [], _, _, h => by have := (h x).mp (by simp); simp at this
  | x :: a, y :: b, ha, hb, h => by
    obtain ⟨xa, ha2⟩ := List.pairwise_cons.mp ha
    obtain ⟨yb, hb2⟩ := List.pairwise_cons.mp hb
    have e : x = y := by
      have h1 := (h x).mp (by simp)
      have h2 := (h y).mpr (by simp)
      rcases List.mem_cons.mp h1 with q | q
      · exact q
      · rcases List.mem_cons.mp h2 with q2 | q2
        · exact q2.symm
        · have := yb x q; have := xa y q2; omega
    subst e
    refine congrArg (List.cons x) (pw_eq ha2 hb2 fun z => ?_)
    constructor
    · intro hz
      rcases List.mem_cons.mp ((h z).mp (by simp [hz])) with q | q
      · subst q; have := xa z hz; omega
      · exact q
    · intro hz
      rcases List.mem_cons.mp ((h z).mpr (by simp [hz])) with q | q
      · subst q; have := yb z hz; omega
      · exact q
theorem apart_no {ls : List (List Int)} {n i j : Nat} {l m : List Int} (C : RunsC ls n) (h1 : ls[i]? = some l) (h2 : ls[j]? = some m) (h : lastI ls i < firstI ls j ∨ lastI ls j < firstI ls i) : (l.any fun s => decide (s ∈ m)) = false := by
  rw [Bool.eq_false_iff]
  intro q
  rw [List.any_eq_true] at q
  obtain ⟨s, hs, q⟩ := q
  have a1 := ((C.at h1).2.2.2 s).mp hs
  have a2 := ((C.at h2).2.2.2 s).mp (of_decide_eq_true q)
  omega
theorem map_any (l : List Int) (p : Int → Bool) : (l.map p).any _root_.id = l.any p := by
  rw [List.any_map]; rfl
theorem fmap_some {α β : Type} (f : α → β) (l : List α) : (l.map fun x => some (f x)).filterMap _root_.id = l.map f := by
  rw [List.filterMap_map]
  induction l with
  | nil => rfl
  | cons x l ih => rw [List.filterMap_cons, List.map_cons, ← ih]; rfl
theorem fit_conv {zs : List Q2} (ri : RiseQ zs) (hp : ∀ z ∈ zs, 0 < z.2) {w x y : Q2} (pw : 0 < w.2) (px : 0 < x.2) (py : 0 < y.2) : ∀ a b d, a < b → b < d → d < zs.length → fitQ zs w x y a = true → fitQ zs w x y d = true → fitQ zs w x y b = true := fun a b d h1 h2 h3 fa fd => by
  have ea : zs[a]? = some zs[a] := List.getElem?_eq_getElem (by omega)
  have eb : zs[b]? = some zs[b] := List.getElem?_eq_getElem (by omega)
  have ed : zs[d]? = some zs[d] := List.getElem?_eq_getElem h3
  have pa := hp _ (List.mem_of_getElem? ea)
  have pb := hp _ (List.mem_of_getElem? eb)
  have pd := hp _ (List.mem_of_getElem? ed)
  have l1 := (ltq_R pa pb).mp (rise_ltq ri hp h1 ea eb)
  have l2 := (ltq_R pb pd).mp (rise_ltq ri hp h2 eb ed)
  have ga := (fitQ_R ea pa pw px py).mp fa
  have gd := (fitQ_R ed pd pw px py).mp fd
  refine (fitQ_R eb pb pw px py).mpr ⟨?_, ?_⟩ <;> grind
theorem fit_runs {zs xs : List Q2} (ri : RiseQ zs) (hp : ∀ z ∈ zs, 0 < z.2) (hx : ∀ z ∈ xs, 0 < z.2) {x y : Q2} (px : 0 < x.2) (py : 0 < y.2) (fit : ∀ z ∈ xs, ∃ i, i < zs.length ∧ fitQ zs z x y i = true) : RunsC (fitL zs xs x y) zs.length := fun i l h => by
  unfold fitL at h
  rw [List.getElem?_map] at h
  cases e : xs[i]? with
  | none => rw [e] at h; cases h
  | some w =>
    rw [e] at h
    cases h
    have hw := List.mem_of_getElem? e
    rcases idx_run (n := zs.length) (c := fitQ zs w x y) (fit_conv ri hp (hx w hw) px py) with q | ⟨a, m, h1, h2, h3⟩
    · obtain ⟨i, hi, f⟩ := fit w hw
      have : (i : Int) ∈ idx zs.length (fitQ zs w x y) := (idx_mem).mpr ⟨i, hi, f, rfl⟩
      rw [q] at this
      cases this
    · exact ⟨a, m, h1, h2⟩

def belB (ns : List Int) (n : Int) : Bool := ns.all fun z => decide (0 ≤ z) && decide (z < n)
def risB : List Int → Bool
  | [] => true
  | [_] => true
  | x :: y :: r => decide (x < y) && risB (y :: r)
def shrB (xs ys : List Int) : Bool := xs.any fun z => decide (z ∈ ys)
/-- each is a run of numbers below n -/
def sp_abel (K : PySem.W.Frag) : Sp := fun vs H Q _ => ∃ (a : Addr) (ns : List Int) (n : Int), vs = [.ref a, .int n] ∧ SqT K H a (ns.map V.int) ∧ ns.length ≤ 900 ∧ ∀ H', Same H H' → Q (.bl (belB ns n)) H'
def sp_rising (K : PySem.W.Frag) : Sp := fun vs H Q _ => ∃ (a : Addr) (ns : List Int) (n : Int), vs = [.ref a, .int n] ∧ SqT K H a (ns.map V.int) ∧ ns.length ≤ 900 ∧ ∀ H', Same H H' → Q (.bl (belB ns n && risB ns)) H'
def sp_shares (K : PySem.W.Frag) : Sp := fun vs H Q _ => ∃ (a b : Addr) (xs ys : List Int), vs = [.ref a, .ref b] ∧ SqT K H a (xs.map V.int) ∧ SqT K H b (ys.map V.int) ∧ xs.length ≤ 900 ∧ ys.length ≤ 900 ∧ ∀ H', Same H H' → Q (.bl (shrB xs ys)) H'
theorem getDI {α : Type} {l : List α} {i : Nat} {x d : α} (h : l[i]? = some x) : l.getD i d = x := by rw [List.getD_eq_getElem?_getD, h]; rfl
theorem risB_at : ∀ ns : List Int, risB ns = (List.range (ns.length - 1)).all fun i => decide (ns.getD i 0 < ns.getD (i + 1) 0)
  | [] => rfl
  | [_] => rfl
  | x :: y :: r => by
    have ih := risB_at (y :: r)
    show (decide (x < y) && risB (y :: r)) = _
    rw [ih]
    show _ = (List.range (r.length + 1)).all _
    rw [List.range_succ_eq_map, List.all_cons, List.all_map]
    rfl
theorem shr_comm (xs ys : List Int) : shrB xs ys = shrB ys xs := by
  rw [Bool.eq_iff_iff]
  unfold shrB
  rw [List.any_eq_true, List.any_eq_true]
  constructor <;> (rintro ⟨z, h1, h2⟩; exact ⟨z, of_decide_eq_true h2, decide_eq_true h1⟩)
def sizB (N : Nat) (ls : List (List Int)) (ns : List Int) : Bool := belB ns (N : Int) && risB ns && ls.all fun l => shrB l ns
def aptZ (ls : List (List Int)) (ns : List Int) (i j : Nat) : Option Bool := if ns.getD i 0 < ns.getD j 0 then some (shrB (ls.getD (ns.getD i 0).toNat []) (ls.getD (ns.getD j 0).toNat [])) else none
def anyP (ls : List (List Int)) (ns : List Int) : List Bool := (List.range (ns.length * ns.length)).filterMap fun c => aptZ ls ns (c / ns.length) (c % ns.length)
def aptB (ls : List (List Int)) (ns : List Int) : Bool := belB ns (ls.length : Int) && risB ns && !((anyP ls ns).any _root_.id)
theorem anyP_tell (ls : List (List Int)) (ns : List Int) : tell2 ns.length (fun i j => (aptZ ls ns i j).map V.bl) (ns.length * ns.length) = (anyP ls ns).map V.bl := by
  unfold tell2 anyP
  rw [List.map_filterMap]
theorem siz_good {N : Nat} {ls : List (List Int)} {ns : List Int} : (ls.all fun l => shrB l ns) = goodB ls ns := by
  unfold goodB
  congr 1
  funext l
  rw [shr_comm]
  rfl
theorem bel_of {ns : List Int} {n : Int} (h : ∀ s ∈ ns, 0 ≤ s ∧ s < n) : belB ns n = true := by
  unfold belB
  rw [List.all_eq_true]
  intro s hs
  rw [Bool.and_eq_true]
  exact ⟨decide_eq_true (h s hs).1, decide_eq_true (h s hs).2⟩
theorem ris_of {ns : List Int} (h : RiseI ns) : risB ns = true := by
  rw [risB_at, List.all_eq_true]
  intro i hi
  have hi := List.mem_range.mp hi
  refine decide_eq_true ?_
  have e1 : ns[i]? = some ns[i] := List.getElem?_eq_getElem (by omega)
  have e2 : ns[i + 1]? = some ns[i + 1] := List.getElem?_eq_getElem (by omega)
  rw [getDI e1, getDI e2]
  exact h i _ _ e1 e2
theorem siz_few {N : Nat} {ls : List (List Int)} {ss as : List Int} (C : RunsC ls N) (f : Few ls ss as) : sizB N ls ss = true := by
  unfold sizB
  rw [bel_of (fun s hs => by
    obtain ⟨i, hi, e⟩ := f.own s hs
    have := C.at (List.getElem?_eq_getElem hi)
    omega), ris_of f.rise, siz_good (N := N), (good_iff C).mpr f.hit]
  rfl
theorem apt_few {N : Nat} {ls : List (List Int)} {ss as : List Int} (C : RunsC ls N) (f : Few ls ss as) : aptB ls as = true := by
  unfold aptB
  rw [bel_of (fun s hs => by obtain ⟨i, e, h⟩ := f.mem s hs; omega), ris_of f.arise]
  have : (anyP ls as).any _root_.id = false := by
    rw [List.any_eq_false]
    intro b hb
    unfold anyP at hb
    obtain ⟨c, hc, e⟩ := List.mem_filterMap.mp hb
    have hc := List.mem_range.mp hc
    unfold aptZ at e
    split at e
    · rename_i lt
      cases e
      have l0 : 0 < as.length := by
        rcases Nat.eq_zero_or_pos as.length with z | z
        · rw [z] at hc; omega
        · exact z
      have q1 : c / as.length < as.length := Nat.div_lt_of_lt_mul hc
      have q2 : c % as.length < as.length := Nat.mod_lt _ l0
      have e1 : as[c / as.length]? = some as[c / as.length] := List.getElem?_eq_getElem q1
      have e2 : as[c % as.length]? = some as[c % as.length] := List.getElem?_eq_getElem q2
      rw [getDI e1, getDI e2] at lt
      show ¬ shrB _ _ = true
      rw [getDI e1, getDI e2]
      have m1 := List.mem_of_getElem? e1
      have m2 := List.mem_of_getElem? e2
      obtain ⟨i, ei, hi⟩ := f.mem _ m1
      obtain ⟨j, ej, hj⟩ := f.mem _ m2
      have ap := f.apart _ m1 _ m2 (by omega)
      rw [ei, ej] at ap
      rw [ei, ej]
      have h1 : ls[i]? = some ls[i] := List.getElem?_eq_getElem hi
      have h2 : ls[j]? = some ls[j] := List.getElem?_eq_getElem hj
      rw [Int.toNat_natCast, Int.toNat_natCast, getDI h1, getDI h2]
      have := apart_no C h1 h2 ap
      intro q
      unfold shrB at q
      rw [this] at q
      cases q
    · cases e
  rw [this]
  rfl
theorem siz_all {N : Nat} {ls : List (List Int)} (C : RunsC ls N) : sizB N ls ((List.range N).map fun k : Nat => (k : Int)) = true := by
  have h : ∀ (i : Nat) (z : Int), ((List.range N).map fun k : Nat => (k : Int))[i]? = some z → z = (i : Int) ∧ i < N := fun i z e => by
    rw [List.getElem?_map] at e
    by_cases q : i < N
    · rw [List.getElem?_range q] at e
      cases e
      exact ⟨rfl, q⟩
    · rw [List.getElem?_eq_none (by rw [List.length_range]; omega)] at e
      cases e
  unfold sizB
  rw [bel_of (fun s hs => by
    obtain ⟨i, e⟩ := List.mem_iff_getElem?.mp hs
    have := h i s e
    omega), ris_of (fun i a b h1 h2 => by have := h i a h1; have := h (i + 1) b h2; omega), siz_good (N := N), (good_iff C).mpr (fun i hi => by
    have q := C.at (List.getElem?_eq_getElem hi)
    refine ⟨firstI ls i, List.mem_map.mpr ⟨(firstI ls i).toNat, List.mem_range.mpr (by omega), by omega⟩, Int.le_refl _, q.2.2.1⟩)]
  rfl
theorem siz_less {N : Nat} {ls : List (List Int)} {ss as ms : List Int} (C : RunsC ls N) (f : Few ls ss as) (h : ms.length < ss.length) : sizB N ls ms = false := by
  rw [Bool.eq_false_iff]
  intro q
  unfold sizB at q
  rw [Bool.and_eq_true, siz_good (N := N)] at q
  have := Few.le f ((good_iff C).mp q.2)
  omega
def sp_arsz (K : PySem.W.Frag) (CM CL : Addr) : Sp := fun vs H Q _ => ∃ (T p D : Addr) (ns : List Int) (ls : List (List Int)) (k : Nat) (zs : List Q2) (r : Str) (lo hi : Option Q2), vs = [.ref T, .ref p, .ref D] ∧ SqT K H T (ns.map V.int) ∧ LadAt K CM CL H p k zs r lo hi ∧ FitsL H D ls ∧ ns.length ≤ 900 ∧ ls.length ≤ 900 ∧ (∀ l ∈ ls, l.length ≤ 24) ∧ ∀ H', Same H H' → Q (.bl (sizB zs.length ls ns)) H'
def sp_arap (K : PySem.W.Frag) : Sp := fun vs H Q _ => ∃ (T D : Addr) (ns : List Int) (ls : List (List Int)), vs = [.ref T, .ref D] ∧ SqT K H T (ns.map V.int) ∧ FitsL H D ls ∧ ns.length ≤ 30 ∧ ls.length ≤ 900 ∧ (∀ l ∈ ls, l.length ≤ 24) ∧ ∀ H', Same H H' → Q (.bl (aptB ls ns)) H'
def ThS (H : Hp) (T : Addr) : (Nat ⊕ (List Int × List Int)) → Prop
  | .inl n => H T = some (.tup [.str "never", .int (n : Int)])
  | .inr q => ∃ S A, H T = some (.tup [.str "stock", .ref S, .ref A]) ∧ H S = some (.tup (q.1.map V.int)) ∧ H A = some (.tup (q.2.map V.int)) ∧ q.1.length ≤ 30 ∧ q.2.length ≤ 30
theorem ThS.same {H H' : Hp} {T : Addr} : ∀ {q : Nat ⊕ (List Int × List Int)}, ThS H T q → Same H H' → ThS H' T q
  | .inl _, h, s => s _ _ h
  | .inr _, ⟨S, A, h1, h2, h3, l1, l2⟩, s => ⟨S, A, s _ _ h1, s _ _ h2, s _ _ h3, l1, l2⟩
def shwB (N : Nat) (ls : List (List Int)) : Option Nat → (Nat ⊕ (List Int × List Int)) → Bool
  | some m, .inl n => decide (m = n)
  | some _, .inr _ => false
  | none, .inl _ => false
  | none, .inr q => sizB N ls q.1 && aptB ls q.2 && decide (q.1.length = q.2.length)
def sp_shst (K : PySem.W.Frag) (CM CL : Addr) : Sp := fun vs H Q _ => ∃ (p F s T : Addr) (t : V) (k j : Nat) (fs : List V) (zs : List Q2) (r : Str) (lo hi : Option Q2) (xs : List Q2) (y : Q2) (e : Option Q2) (o : Option Nat) (th : Nat ⊕ (List Int × List Int)), vs = [.ref p, .ref F, .ref s, t, .ref T] ∧ LadAt K CM CL H p k zs r lo hi ∧ SqT K H F fs ∧ Mks CM H j fs xs ∧ QAt CM H s j y ∧ QO CM H j t e ∧ 0 < k ∧ k ≤ 4000 ∧ 0 < j ∧ j ≤ 4000 ∧ xs.length ≤ 60 ∧ ThS H T th ∧ BareAt (fitL zs xs y (e.getD (0, 1))) o ∧
  ∀ (H' : Hp), Same H H' → Q (.bl (shwB zs.length (fitL zs xs y (e.getD (0, 1))) o th)) H'

theorem bare_ex : ∀ ls : List (List Int), ∃ o, BareAt ls o
  | [] => ⟨none, fun l h => by simp at h⟩
  | l :: ls => by
    by_cases e : l = []
    · exact ⟨some 0, by rw [e]; rfl, fun j l' h => by omega⟩
    · obtain ⟨o, h⟩ := bare_ex ls
      cases o with
      | none =>
        refine ⟨none, fun l' hl => ?_⟩
        rcases List.mem_cons.mp hl with q | q
        · rw [q]; exact e
        · exact h l' q
      | some n =>
        refine ⟨some (n + 1), by simpa using h.1, fun j l' hj hl => ?_⟩
        cases j with
        | zero =>
          have : l = l' := by simpa using hl
          rw [← this]; exact e
        | succ j => exact h.2 j l' (by omega) (by simpa using hl)
def sp_lruns : Sp := fun vs H Q _ => ∃ (l S : Addr) (a b : V) (j m : Nat) (us fs : List V) (zs xs : List Q2) (x y : Q2), vs = [.ref l, .ref S, a, b] ∧ H l = some (.lst us) ∧ Tqs H m us zs ∧ H S = some (.lst fs) ∧ Tqs H j fs xs ∧ xs.length ≤ 60 ∧ zs.length ≤ 24 ∧ TQ H a j x ∧ TQ H b j y ∧ 0 < j ∧ j ≤ 3500 ∧ 0 < m ∧ m ≤ 1000 ∧ ∀ (D : Addr) (H' : Hp), Same H H' → FitsL H' D (fitL zs xs x y) → Q (.ref D) H'
theorem eqv_nil (l : List Int) : PyData.eqv (.list (l.map PyData.int)) (.list []) = decide (l = []) := by
  cases l with
  | nil => rfl
  | cons x l => rfl
theorem fmap_if (c : Int → Bool) (l : List Int) : (l.map fun z => if c z = true then some (V.int z) else none).filterMap _root_.id = (l.filter c).map V.int := by
  induction l with
  | nil => rfl
  | cons x l ih =>
    rw [List.map_cons, List.filterMap_cons, List.filter_cons]
    by_cases h : c x = true
    · rw [if_pos h, if_pos h, List.map_cons, ← ih]; rfl
    · rw [if_neg h, if_neg h, ← ih]; rfl
structure GL (ls : List (List Int)) (left ss as : List Int) : Prop where
  lf : ∀ k ∈ left, ∃ i : Nat, k = (i : Int) ∧ i < ls.length
  ln : ss.length = as.length
  ct : ss.length + left.length ≤ ls.length
  hit : ∀ i : Nat, i < ls.length → (i : Int) ∈ left ∨ ∃ s ∈ ss, firstI ls i ≤ s ∧ s ≤ lastI ls i
  am : ∀ a ∈ as, ∃ i : Nat, a = (i : Int) ∧ i < ls.length
  ap : ∀ a ∈ as, ∀ k ∈ left, lastI ls a < firstI ls k
  pw : as.Pairwise fun a b => lastI ls a < firstI ls b
def inRun (ls : List (List Int)) (s k : Int) : Bool := decide (s ∈ ls.getD k.toNat [])
theorem GL.init (ls : List (List Int)) : GL ls ((List.range ls.length).map fun k : Nat => (k : Int)) [] [] := by
  refine ⟨fun k hk => ?_, rfl, by rw [List.length_map, List.length_range]; simp, fun i hi => .inl (List.mem_map.mpr ⟨i, List.mem_range.mpr hi, rfl⟩), fun a h => by simp at h, fun a h => by simp at h, List.Pairwise.nil⟩
  obtain ⟨i, hi, e⟩ := List.mem_map.mp hk
  exact ⟨i, e.symm, List.mem_range.mp hi⟩
theorem inRun_iff {ls : List (List Int)} {n : Nat} (C : RunsC ls n) {i : Nat} (hi : i < ls.length) {s : Int} : inRun ls s (i : Int) = true ↔ firstI ls i ≤ s ∧ s ≤ lastI ls i := by
  have e : ls[i]? = some ls[i] := List.getElem?_eq_getElem hi
  unfold inRun
  rw [decide_eq_true_iff, Int.toNat_natCast, getDI e]
  exact (C.at e).2.2.2 s
theorem GL.step {ls : List (List Int)} {n : Nat} (C : RunsC ls n) {left ss as : List Int} (g : GL ls left ss as) {b : Int} (hb : b ∈ left) (hmin : ∀ k ∈ left, lastI ls b ≤ lastI ls k) :
    GL ls (left.filter fun k => !inRun ls (lastI ls b) k) (ss ++ [lastI ls b]) (as ++ [b]) := by
  obtain ⟨ib, rfl, hib⟩ := g.lf b hb
  have self : inRun ls (lastI ls ib) (ib : Int) = true := by
    rw [inRun_iff C hib]
    have := C.at (List.getElem?_eq_getElem hib)
    omega
  refine ⟨fun k hk => g.lf k (List.mem_filter.mp hk).1, by rw [List.length_append, List.length_append, g.ln]; rfl, ?_, fun i hi => ?_, fun a ha => ?_, fun a ha k hk => ?_, ?_⟩
  · have lt : (left.filter fun k => !inRun ls (lastI ls ib) k).length < left.length := by
      refine List.length_filter_lt_length_iff_exists.mpr ⟨(ib : Int), hb, ?_⟩
      rw [self]
      decide
    have := g.ct
    rw [List.length_append, List.length_singleton]
    omega
  · rcases g.hit i hi with h | ⟨s, hs, q⟩
    · cases e : inRun ls (lastI ls ib) (i : Int) with
      | true =>
        refine .inr ⟨lastI ls ib, by simp, (inRun_iff C hi).mp e⟩
      | false =>
        refine .inl (List.mem_filter.mpr ⟨h, by rw [e]; rfl⟩)
    · exact .inr ⟨s, List.mem_append.mpr (.inl hs), q⟩
  · rcases List.mem_append.mp ha with h | h
    · exact g.am a h
    · rw [List.mem_singleton.mp h]
      exact ⟨ib, rfl, hib⟩
  · obtain ⟨hk1, hk2⟩ := List.mem_filter.mp hk
    rcases List.mem_append.mp ha with h | h
    · exact g.ap a h k hk1
    · rw [List.mem_singleton.mp h]
      obtain ⟨ik, rfl, hik⟩ := g.lf k hk1
      have le := hmin _ hk1
      have nr : ¬ (firstI ls ik ≤ lastI ls ib ∧ lastI ls ib ≤ lastI ls ik) := fun z => by
        rw [(inRun_iff C hik).mpr z] at hk2
        cases hk2
      omega
  · refine List.pairwise_append.mpr ⟨g.pw, List.pairwise_singleton _ _, fun a ha b' hb' => ?_⟩
    rw [List.mem_singleton.mp hb']
    exact g.ap a ha _ hb
theorem GL.len {ls : List (List Int)} {ss as ss' as' : List Int} (g : GL ls [] ss as) (f : Few ls ss' as') : ss.length = ss'.length := by
  have h : ∀ i : Nat, i < ls.length → ∃ s ∈ ss, firstI ls i ≤ s ∧ s ≤ lastI ls i := fun i hi => by
    rcases g.hit i hi with q | q
    · cases q
    · exact q
  have h1 := Few.le f h
  have h2 := apart_le (ls := ls) (as := as) (lot := ss') (g.pw.imp fun q => .inl q) fun a ha => by
    obtain ⟨i, rfl, hi⟩ := g.am a ha
    exact f.hit i hi
  rw [← g.ln] at h2
  omega
def sp_lstock : Sp := fun vs H Q _ => ∃ (D : Addr) (ls : List (List Int)) (n : Nat), vs = [.ref D] ∧ FitsL H D ls ∧ ls.length ≤ 60 ∧ n ≤ 24 ∧ RunsC ls n ∧ ∀ (T S A : Addr) (ss as : List Int) (H' : Hp), Same H H' → H' T = some (.tup [.str "stock", .ref S, .ref A]) → H' S = some (.tup (ss.map V.int)) → (∀ ss' as', Few ls ss' as' → ss.length = ss'.length) → Q (.ref T) H'

theorem SameV.two {K : PySem.W.Frag} {H : Hp} {p q : Addr} {a b : V} (hp : H p = some (.tup [a, b])) (hq : H q = some (.tup [a, b])) (A : AtomV a) (B : AtomV b) : SameV K H 1 (.ref p) (.ref q) :=
  .inr ⟨p, q, _, _, rfl, rfl, SqT.of hp, SqT.of hq, rfl, Nat.le_of_ble_eq_true rfl, fun i x y hx hy => by
    rw [hx] at hy
    cases hy
    have h : x = a ∨ x = b := by simpa using List.mem_of_getElem? hx
    rcases h with rfl | rfl
    · exact ⟨rfl, A⟩
    · exact ⟨rfl, B⟩⟩
theorem sh_never (n : Int) : SeqAt.shaped (.tuple [.str "never", .int n]) = true := by
  unfold SeqAt.shaped
  simp [PyData.depth, PyData.depthAll, PyData.canLay0, PyData.canLayAll0]
  decide +kernel
/-- what stock_for tells -/
def StkV (H : Hp) (T : Addr) (ls : List (List Int)) : Option Nat → Prop
  | some n => H T = some (.tup [.str "never", .int (n : Int)])
  | none => ∃ S A ss as, H T = some (.tup [.str "stock", .ref S, .ref A]) ∧ H S = some (.tup (ss.map V.int)) ∧ H A = some (.tup (as.map V.int)) ∧ Few ls ss as
theorem StkV.same {H H' : Hp} {T : Addr} {ls : List (List Int)} : ∀ {o : Option Nat}, StkV H T ls o → Same H H' → StkV H' T ls o
  | some _, h, s => s _ _ h
  | none, ⟨S, A, ss, as, h1, h2, h3, h4⟩, s => ⟨S, A, ss, as, s _ _ h1, s _ _ h2, s _ _ h3, h4⟩
def sp_larise (K : PySem.W.Frag) : Sp := fun vs H Q _ => ∃ (T : Addr) (ns : List Int) (n : Int), vs = [.ref T, .int n] ∧ H T = some (.tup (ns.map V.int)) ∧ ns.length ≤ 30 ∧ (∀ s ∈ ns, 0 ≤ s ∧ s < n) ∧ RiseI ns ∧ ∀ H', Same H H' → Q (.bl true) H'
def sp_lisst (K : PySem.W.Frag) : Sp := fun vs H Q _ => ∃ (T D : Addr) (ls : List (List Int)) (n : Nat) (o : Option Nat), vs = [.ref T, .ref D, .int (n : Int)] ∧ FitsL H D ls ∧ ls.length ≤ 30 ∧ n ≤ 24 ∧ BareAt ls o ∧ StkV H T ls o ∧ (o = none → RunsC ls n) ∧ ∀ H', Same H H' → Q (.bl true) H'
def sp_lfeet : Sp := fun vs H Q _ => ∃ (h l : Addr) (a b : V) (n k mm : Nat) (us : List V) (zs : List Q2) (x y : Q2), vs = [.ref h, .ref l, a, b, .int (mm : Int)] ∧ HandAt H h n ∧ n < 5000 ∧ l ≠ h ∧ H l = some (.lst us) ∧ Tqs H k us zs ∧ 20 ≤ k ∧ k ≤ 1000 ∧ 0 < zs.length ∧ zs.length ≤ 24 ∧ TQ H a (2 * k + 4) x ∧ TQ H b (2 * k + 4) y ∧ 0 < mm ∧ mm ≤ 24 ∧
  ∀ (S : Addr) (fs : List V) (xs : List Q2) (H' : Hp), HandAt H' h (n + 300) → Kp h H H' → S ≠ h → H' S = some (.lst fs) → Tqs H' (3 * k + 40) fs xs → 0 < xs.length → xs.length ≤ 24 → Q (.ref S) H'
def sp_lright43 (K : PySem.W.Frag) (CM CL : Addr) : Sp := fun vs H Q _ => ∃ (p l S T : Addr) (a b : V) (k j m : Nat) (us fs : List V) (zs xs : List Q2) (r : Str) (lo hi : Option Q2) (x y : Q2), vs = [.ref p, .ref l, .ref S, a, b, .ref T] ∧ LadAt K CM CL H p k zs r lo hi ∧ H l = some (.lst us) ∧ Tqs H m us zs ∧ H S = some (.lst fs) ∧ Tqs H j fs xs ∧ xs.length ≤ 24 ∧ 0 < xs.length ∧ TQ H a j x ∧ TQ H b j y ∧ 0 < k ∧ k ≤ 1000 ∧ 0 < j ∧ j ≤ 3500 ∧ 0 < m ∧ m ≤ 1000 ∧ StockV H T (fitL zs xs x y) ∧ ∀ H', Same H H' → Q (.bl true) H'


theorem b_is_whole_1 {K : PySem.W.Frag} {mg : Str → Option Value} {φ : Fds} (T : Txt K mg φ) : ∃ ds, Vals ([] : List V) ds ∧ Binds K φ.is_whole p_is_whole ds :=
  ⟨[], .nil, T.f_is_whole.bindsN fun _ _ _ _ _ _ us hl => match us, hl with | [_], _ => rfl⟩
theorem b_common_part_2 {K : PySem.W.Frag} {mg : Str → Option Value} {φ : Fds} (T : Txt K mg φ) : ∃ ds, Vals ([] : List V) ds ∧ Binds K φ.common_part p_common_part ds :=
  ⟨[], .nil, T.f_common_part.bindsN fun _ _ _ _ _ _ us hl => match us, hl with | [_, _], _ => rfl⟩
theorem b_Measure_is_below_2 {K : PySem.W.Frag} {mg : Str → Option Value} {φ : Fds} (T : Txt K mg φ) : ∃ ds, Vals ([V.bl false] : List V) ds ∧ Binds K φ.Measure_is_below p_Measure_is_below ds :=
  T.f_Measure_is_below.binds1 2 0 (by simp) rfl fun _ _ _ _ _ _ _ us its h1 h2 => match us, its, h1, h2 with | [_, _], [_], _, _ => ⟨_, rfl, rfl⟩
theorem b_Measure_is_below_3 {K : PySem.W.Frag} {mg : Str → Option Value} {φ : Fds} (T : Txt K mg φ) : ∃ ds, Vals ([] : List V) ds ∧ Binds K φ.Measure_is_below p_Measure_is_below ds :=
  T.f_Measure_is_below.binds1 3 1 (by simp) rfl fun _ _ _ _ _ _ _ us its h1 h2 => match us, its, h1, h2 with | [_, _, _], [_], _, _ => ⟨_, rfl, rfl⟩
theorem b_are_marks_1 {K : PySem.W.Frag} {mg : Str → Option Value} {φ : Fds} (T : Txt K mg φ) : ∃ ds, Vals ([] : List V) ds ∧ Binds K φ.are_marks p_are_marks ds :=
  ⟨[], .nil, T.f_are_marks.bindsN fun _ _ _ _ _ _ us hl => match us, hl with | [_], _ => rfl⟩
theorem b_is_rule_1 {K : PySem.W.Frag} {mg : Str → Option Value} {φ : Fds} (T : Txt K mg φ) : ∃ ds, Vals ([] : List V) ds ∧ Binds K φ.is_rule p_is_rule ds :=
  ⟨[], .nil, T.f_is_rule.bindsN fun _ _ _ _ _ _ us hl => match us, hl with | [_], _ => rfl⟩
theorem b_is_measure_or_none_1 {K : PySem.W.Frag} {mg : Str → Option Value} {φ : Fds} (T : Txt K mg φ) : ∃ ds, Vals ([] : List V) ds ∧ Binds K φ.is_measure_or_none p_is_measure_or_none ds :=
  ⟨[], .nil, T.f_is_measure_or_none.bindsN fun _ _ _ _ _ _ us hl => match us, hl with | [_], _ => rfl⟩
theorem b_is_span_2 {K : PySem.W.Frag} {mg : Str → Option Value} {φ : Fds} (T : Txt K mg φ) : ∃ ds, Vals ([] : List V) ds ∧ Binds K φ.is_span p_is_span ds :=
  ⟨[], .nil, T.f_is_span.bindsN fun _ _ _ _ _ _ us hl => match us, hl with | [_, _], _ => rfl⟩
theorem b_slip_of_1 {K : PySem.W.Frag} {mg : Str → Option Value} {φ : Fds} (T : Txt K mg φ) : ∃ ds, Vals ([] : List V) ds ∧ Binds K φ.slip_of p_slip_of ds :=
  ⟨[], .nil, T.f_slip_of.bindsN fun _ _ _ _ _ _ us hl => match us, hl with | [_], _ => rfl⟩
theorem b_l_take_2 {K : PySem.W.Frag} {mg : Str → Option Value} {φ : Fds} (T : Txt K mg φ) : ∃ ds, Vals ([] : List V) ds ∧ Binds K φ.l_take p_l_take ds :=
  ⟨[], .nil, T.f_l_take.bindsN fun _ _ _ _ _ _ us hl => match us, hl with | [_, _], _ => rfl⟩
theorem b_l_plain_2 {K : PySem.W.Frag} {mg : Str → Option Value} {φ : Fds} (T : Txt K mg φ) : ∃ ds, Vals ([] : List V) ds ∧ Binds K φ.l_plain p_l_plain ds :=
  ⟨[], .nil, T.f_l_plain.bindsN fun _ _ _ _ _ _ us hl => match us, hl with | [_, _], _ => rfl⟩
theorem b_Measure_init_3 {K : PySem.W.Frag} {mg : Str → Option Value} {φ : Fds} (T : Txt K mg φ) : ∃ ds, Vals ([] : List V) ds ∧ Binds K φ.Measure_init p_Measure_init ds :=
  T.f_Measure_init.binds1 3 1 (by simp) rfl fun _ _ _ _ _ _ _ us its h1 h2 => match us, its, h1, h2 with | [_, _, _], [_], _, _ => ⟨_, rfl, rfl⟩
theorem b_l_pick_2 {K : PySem.W.Frag} {mg : Str → Option Value} {φ : Fds} (T : Txt K mg φ) : ∃ ds, Vals ([] : List V) ds ∧ Binds K φ.l_pick p_l_pick ds :=
  ⟨[], .nil, T.f_l_pick.bindsN fun _ _ _ _ _ _ us hl => match us, hl with | [_, _], _ => rfl⟩
theorem b_l_part_1 {K : PySem.W.Frag} {mg : Str → Option Value} {φ : Fds} (T : Txt K mg φ) : ∃ ds, Vals ([] : List V) ds ∧ Binds K φ.l_part p_l_part ds :=
  ⟨[], .nil, T.f_l_part.bindsN fun _ _ _ _ _ _ us hl => match us, hl with | [_], _ => rfl⟩
theorem b_l_sum_2 {K : PySem.W.Frag} {mg : Str → Option Value} {φ : Fds} (T : Txt K mg φ) : ∃ ds, Vals ([] : List V) ds ∧ Binds K φ.l_sum p_l_sum ds :=
  ⟨[], .nil, T.f_l_sum.bindsN fun _ _ _ _ _ _ us hl => match us, hl with | [_, _], _ => rfl⟩
theorem b_Measure_init_2 {K : PySem.W.Frag} {mg : Str → Option Value} {φ : Fds} (T : Txt K mg φ) : ∃ ds, Vals ([V.int 1] : List V) ds ∧ Binds K φ.Measure_init p_Measure_init ds :=
  T.f_Measure_init.binds1 2 0 (by simp) rfl fun _ _ _ _ _ _ _ us its h1 h2 => match us, its, h1, h2 with | [_, _], [_], _, _ => ⟨_, rfl, rfl⟩
theorem b_Measure_minus_2 {K : PySem.W.Frag} {mg : Str → Option Value} {φ : Fds} (T : Txt K mg φ) : ∃ ds, Vals ([] : List V) ds ∧ Binds K φ.Measure_minus p_Measure_minus ds :=
  ⟨[], .nil, T.f_Measure_minus.bindsN fun _ _ _ _ _ _ us hl => match us, hl with | [_, _], _ => rfl⟩
theorem b_measure_or_2 {K : PySem.W.Frag} {mg : Str → Option Value} {φ : Fds} (T : Txt K mg φ) : ∃ ds, Vals ([] : List V) ds ∧ Binds K φ.measure_or p_measure_or ds :=
  ⟨[], .nil, T.f_measure_or.bindsN fun _ _ _ _ _ _ us hl => match us, hl with | [_, _], _ => rfl⟩
theorem b_Measure_plus_2 {K : PySem.W.Frag} {mg : Str → Option Value} {φ : Fds} (T : Txt K mg φ) : ∃ ds, Vals ([] : List V) ds ∧ Binds K φ.Measure_plus p_Measure_plus ds :=
  ⟨[], .nil, T.f_Measure_plus.bindsN fun _ _ _ _ _ _ us hl => match us, hl with | [_, _], _ => rfl⟩
theorem b_Ladder_init_5 {K : PySem.W.Frag} {mg : Str → Option Value} {φ : Fds} (T : Txt K mg φ) : ∃ ds, Vals ([] : List V) ds ∧ Binds K φ.Ladder_init p_Ladder_init ds :=
  T.f_Ladder_init.binds1 5 3 (by simp) rfl fun _ _ _ _ _ _ _ us its h1 h2 => match us, its, h1, h2 with | [_, _, _, _, _], [_, _, _], _, _ => ⟨_, rfl, rfl⟩
theorem b_l_measures_1 {K : PySem.W.Frag} {mg : Str → Option Value} {φ : Fds} (T : Txt K mg φ) : ∃ ds, Vals ([] : List V) ds ∧ Binds K φ.l_measures p_l_measures ds :=
  ⟨[], .nil, T.f_l_measures.bindsN fun _ _ _ _ _ _ us hl => match us, hl with | [_], _ => rfl⟩
theorem b_l_less_2 {K : PySem.W.Frag} {mg : Str → Option Value} {φ : Fds} (T : Txt K mg φ) : ∃ ds, Vals ([] : List V) ds ∧ Binds K φ.l_less p_l_less ds :=
  ⟨[], .nil, T.f_l_less.bindsN fun _ _ _ _ _ _ us hl => match us, hl with | [_, _], _ => rfl⟩
theorem b_fits_4 {K : PySem.W.Frag} {mg : Str → Option Value} {φ : Fds} (T : Txt K mg φ) : ∃ ds, Vals ([] : List V) ds ∧ Binds K φ.fits p_fits ds :=
  T.f_fits.binds1 4 1 (by simp) rfl fun _ _ _ _ _ _ _ us its h1 h2 => match us, its, h1, h2 with | [_, _, _, _], [_], _, _ => ⟨_, rfl, rfl⟩
theorem b_fitting_of_4 {K : PySem.W.Frag} {mg : Str → Option Value} {φ : Fds} (T : Txt K mg φ) : ∃ ds, Vals ([] : List V) ds ∧ Binds K φ.fitting_of p_fitting_of ds :=
  ⟨[], .nil, T.f_fitting_of.bindsN fun _ _ _ _ _ _ us hl => match us, hl with | [_, _, _, _], _ => rfl⟩
theorem b_first_bare_1 {K : PySem.W.Frag} {mg : Str → Option Value} {φ : Fds} (T : Txt K mg φ) : ∃ ds, Vals ([] : List V) ds ∧ Binds K φ.first_bare p_first_bare ds :=
  ⟨[], .nil, T.f_first_bare.bindsN fun _ _ _ _ _ _ us hl => match us, hl with | [_], _ => rfl⟩
theorem b_fewest_of_1 {K : PySem.W.Frag} {mg : Str → Option Value} {φ : Fds} (T : Txt K mg φ) : ∃ ds, Vals ([] : List V) ds ∧ Binds K φ.fewest_of p_fewest_of ds :=
  ⟨[], .nil, T.f_fewest_of.bindsN fun _ _ _ _ _ _ us hl => match us, hl with | [_], _ => rfl⟩
theorem b_all_below_2 {K : PySem.W.Frag} {mg : Str → Option Value} {φ : Fds} (T : Txt K mg φ) : ∃ ds, Vals ([] : List V) ds ∧ Binds K φ.all_below p_all_below ds :=
  ⟨[], .nil, T.f_all_below.bindsN fun _ _ _ _ _ _ us hl => match us, hl with | [_, _], _ => rfl⟩
theorem b_are_wholes_1 {K : PySem.W.Frag} {mg : Str → Option Value} {φ : Fds} (T : Txt K mg φ) : ∃ ds, Vals ([] : List V) ds ∧ Binds K φ.are_wholes p_are_wholes ds :=
  ⟨[], .nil, T.f_are_wholes.bindsN fun _ _ _ _ _ _ us hl => match us, hl with | [_], _ => rfl⟩
theorem b_shares_2 {K : PySem.W.Frag} {mg : Str → Option Value} {φ : Fds} (T : Txt K mg φ) : ∃ ds, Vals ([] : List V) ds ∧ Binds K φ.shares p_shares ds :=
  ⟨[], .nil, T.f_shares.bindsN fun _ _ _ _ _ _ us hl => match us, hl with | [_, _], _ => rfl⟩
theorem b_are_rising_2 {K : PySem.W.Frag} {mg : Str → Option Value} {φ : Fds} (T : Txt K mg φ) : ∃ ds, Vals ([] : List V) ds ∧ Binds K φ.are_rising p_are_rising ds :=
  ⟨[], .nil, T.f_are_rising.bindsN fun _ _ _ _ _ _ us hl => match us, hl with | [_, _], _ => rfl⟩
theorem b_Ladder_len_1 {K : PySem.W.Frag} {mg : Str → Option Value} {φ : Fds} (T : Txt K mg φ) : ∃ ds, Vals ([] : List V) ds ∧ Binds K φ.Ladder_len p_Ladder_len ds :=
  ⟨[], .nil, T.f_Ladder_len.bindsN fun _ _ _ _ _ _ us hl => match us, hl with | [_], _ => rfl⟩
theorem b_is_number_2 {K : PySem.W.Frag} {mg : Str → Option Value} {φ : Fds} (T : Txt K mg φ) : ∃ ds, Vals ([] : List V) ds ∧ Binds K φ.is_number p_is_number ds :=
  ⟨[], .nil, T.f_is_number.bindsN fun _ _ _ _ _ _ us hl => match us, hl with | [_, _], _ => rfl⟩
theorem b_is_word_2 {K : PySem.W.Frag} {mg : Str → Option Value} {φ : Fds} (T : Txt K mg φ) : ∃ ds, Vals ([] : List V) ds ∧ Binds K φ.is_word p_is_word ds :=
  ⟨[], .nil, T.f_is_word.bindsN fun _ _ _ _ _ _ us hl => match us, hl with | [_, _], _ => rfl⟩
theorem b_is_tuple_of_2 {K : PySem.W.Frag} {mg : Str → Option Value} {φ : Fds} (T : Txt K mg φ) : ∃ ds, Vals ([] : List V) ds ∧ Binds K φ.is_tuple_of p_is_tuple_of ds :=
  ⟨[], .nil, T.f_is_tuple_of.bindsN fun _ _ _ _ _ _ us hl => match us, hl with | [_, _], _ => rfl⟩
theorem b_are_apart_2 {K : PySem.W.Frag} {mg : Str → Option Value} {φ : Fds} (T : Txt K mg φ) : ∃ ds, Vals ([] : List V) ds ∧ Binds K φ.are_apart p_are_apart ds :=
  ⟨[], .nil, T.f_are_apart.bindsN fun _ _ _ _ _ _ us hl => match us, hl with | [_, _], _ => rfl⟩
theorem b_are_sizes_3 {K : PySem.W.Frag} {mg : Str → Option Value} {φ : Fds} (T : Txt K mg φ) : ∃ ds, Vals ([] : List V) ds ∧ Binds K φ.are_sizes p_are_sizes ds :=
  ⟨[], .nil, T.f_are_sizes.bindsN fun _ _ _ _ _ _ us hl => match us, hl with | [_, _, _], _ => rfl⟩
theorem b_l_same_2 {K : PySem.W.Frag} {mg : Str → Option Value} {φ : Fds} (T : Txt K mg φ) : ∃ ds, Vals ([] : List V) ds ∧ Binds K φ.l_same p_l_same ds :=
  ⟨[], .nil, T.f_l_same.bindsN fun _ _ _ _ _ _ us hl => match us, hl with | [_, _], _ => rfl⟩
theorem b_l_fits_4 {K : PySem.W.Frag} {mg : Str → Option Value} {φ : Fds} (T : Txt K mg φ) : ∃ ds, Vals ([] : List V) ds ∧ Binds K φ.l_fits p_l_fits ds :=
  ⟨[], .nil, T.f_l_fits.bindsN fun _ _ _ _ _ _ us hl => match us, hl with | [_, _, _, _], _ => rfl⟩
theorem b_l_foot_4 {K : PySem.W.Frag} {mg : Str → Option Value} {φ : Fds} (T : Txt K mg φ) : ∃ ds, Vals ([] : List V) ds ∧ Binds K φ.l_foot p_l_foot ds :=
  ⟨[], .nil, T.f_l_foot.bindsN fun _ _ _ _ _ _ us hl => match us, hl with | [_, _, _, _], _ => rfl⟩
theorem b_l_are_rising_2 {K : PySem.W.Frag} {mg : Str → Option Value} {φ : Fds} (T : Txt K mg φ) : ∃ ds, Vals ([] : List V) ds ∧ Binds K φ.l_are_rising p_l_are_rising ds :=
  ⟨[], .nil, T.f_l_are_rising.bindsN fun _ _ _ _ _ _ us hl => match us, hl with | [_, _], _ => rfl⟩
theorem b_l_runs_4 {K : PySem.W.Frag} {mg : Str → Option Value} {φ : Fds} (T : Txt K mg φ) : ∃ ds, Vals ([] : List V) ds ∧ Binds K φ.l_runs p_l_runs ds :=
  ⟨[], .nil, T.f_l_runs.bindsN fun _ _ _ _ _ _ us hl => match us, hl with | [_, _, _, _], _ => rfl⟩
theorem b_l_is_stock_3 {K : PySem.W.Frag} {mg : Str → Option Value} {φ : Fds} (T : Txt K mg φ) : ∃ ds, Vals ([] : List V) ds ∧ Binds K φ.l_is_stock p_l_is_stock ds :=
  ⟨[], .nil, T.f_l_is_stock.bindsN fun _ _ _ _ _ _ us hl => match us, hl with | [_, _, _], _ => rfl⟩
theorem b_shows_stock_5 {K : PySem.W.Frag} {mg : Str → Option Value} {φ : Fds} (T : Txt K mg φ) : ∃ ds, Vals ([] : List V) ds ∧ Binds K φ.shows_stock p_shows_stock ds :=
  ⟨[], .nil, T.f_shows_stock.bindsN fun _ _ _ _ _ _ us hl => match us, hl with | [_, _, _, _, _], _ => rfl⟩
theorem b_l_stock_1 {K : PySem.W.Frag} {mg : Str → Option Value} {φ : Fds} (T : Txt K mg φ) : ∃ ds, Vals ([] : List V) ds ∧ Binds K φ.l_stock p_l_stock ds :=
  ⟨[], .nil, T.f_l_stock.bindsN fun _ _ _ _ _ _ us hl => match us, hl with | [_], _ => rfl⟩
theorem b_l_hand_2 {K : PySem.W.Frag} {mg : Str → Option Value} {φ : Fds} (T : Txt K mg φ) : ∃ ds, Vals ([] : List V) ds ∧ Binds K φ.l_hand p_l_hand ds :=
  ⟨[], .nil, T.f_l_hand.bindsN fun _ _ _ _ _ _ us hl => match us, hl with | [_, _], _ => rfl⟩
theorem b_l_marks_2 {K : PySem.W.Frag} {mg : Str → Option Value} {φ : Fds} (T : Txt K mg φ) : ∃ ds, Vals ([] : List V) ds ∧ Binds K φ.l_marks p_l_marks ds :=
  ⟨[], .nil, T.f_l_marks.bindsN fun _ _ _ _ _ _ us hl => match us, hl with | [_, _], _ => rfl⟩
theorem b_l_any_ladder_2 {K : PySem.W.Frag} {mg : Str → Option Value} {φ : Fds} (T : Txt K mg φ) : ∃ ds, Vals ([] : List V) ds ∧ Binds K φ.l_any_ladder p_l_any_ladder ds :=
  ⟨[], .nil, T.f_l_any_ladder.bindsN fun _ _ _ _ _ _ us hl => match us, hl with | [_, _], _ => rfl⟩
theorem b_l_width_2 {K : PySem.W.Frag} {mg : Str → Option Value} {φ : Fds} (T : Txt K mg φ) : ∃ ds, Vals ([] : List V) ds ∧ Binds K φ.l_width p_l_width ds :=
  ⟨[], .nil, T.f_l_width.bindsN fun _ _ _ _ _ _ us hl => match us, hl with | [_, _], _ => rfl⟩
theorem b_l_feet_5 {K : PySem.W.Frag} {mg : Str → Option Value} {φ : Fds} (T : Txt K mg φ) : ∃ ds, Vals ([] : List V) ds ∧ Binds K φ.l_feet p_l_feet ds :=
  ⟨[], .nil, T.f_l_feet.bindsN fun _ _ _ _ _ _ us hl => match us, hl with | [_, _, _, _, _], _ => rfl⟩
theorem b_stock_for_0_tight_slack_feet_ladder {K : PySem.W.Frag} {mg : Str → Option Value} {φ : Fds} (T : Txt K mg φ) : ∃ its : List Value, KBn K φ.stock_for p_stock_for 0 ["tight", "slack", "feet", "ladder"] (fun vs zs => (fun {α : Type} (vs ds zs : List α) => ((((vs ++ (zs.drop 3).take 1) ++ (zs.drop 2).take 1) ++ (zs.drop 1).take 1) ++ (zs.drop 0).take 1)) vs its zs) (fun vs zs => (fun {α : Type} (vs ds zs : List α) => ((((vs ++ (zs.drop 3).take 1) ++ (zs.drop 2).take 1) ++ (zs.drop 1).take 1) ++ (zs.drop 0).take 1)) vs ([V.non] : List V) zs) :=
  T.f_stock_for.kbindsD 0 ["tight", "slack", "feet", "ladder"] (fun {α : Type} (vs ds zs : List α) => ((((vs ++ (zs.drop 3).take 1) ++ (zs.drop 2).take 1) ++ (zs.drop 1).take 1) ++ (zs.drop 0).take 1)) (by simp) (fun a b c => ((((a.append ((c.drop 3).take 1)).append ((c.drop 2).take 1)).append ((c.drop 1).take 1)).append ((c.drop 0).take 1))) fun _ _ _ _ _ _ _ us its ws h1 h2 h3 => match us, its, ws, h1, h2, h3 with | [], [_], [_, _, _, _], _, _, _ => ⟨_, rfl, rfl⟩
theorem b_stock_for_4 {K : PySem.W.Frag} {mg : Str → Option Value} {φ : Fds} (T : Txt K mg φ) : ∃ ds, Vals ([] : List V) ds ∧ Binds K φ.stock_for p_stock_for ds :=
  T.f_stock_for.binds1 4 1 (by simp) rfl fun _ _ _ _ _ _ _ us its h1 h2 => match us, its, h1, h2 with | [_, _, _, _], [_], _, _ => ⟨_, rfl, rfl⟩
theorem b_l_right_6 {K : PySem.W.Frag} {mg : Str → Option Value} {φ : Fds} (T : Txt K mg φ) : ∃ ds, Vals ([] : List V) ds ∧ Binds K φ.l_right p_l_right ds :=
  ⟨[], .nil, T.f_l_right.bindsN fun _ _ _ _ _ _ us hl => match us, hl with | [_, _, _, _, _, _], _ => rfl⟩
theorem b_stock_for_2_tight_slack {K : PySem.W.Frag} {mg : Str → Option Value} {φ : Fds} (T : Txt K mg φ) : ∃ its : List Value, KBn K φ.stock_for p_stock_for 2 ["tight", "slack"] (fun vs zs => (fun {α : Type} (vs ds zs : List α) => ((vs ++ (zs.drop 1).take 1) ++ (zs.drop 0).take 1)) vs its zs) (fun vs zs => (fun {α : Type} (vs ds zs : List α) => ((vs ++ (zs.drop 1).take 1) ++ (zs.drop 0).take 1)) vs ([V.non] : List V) zs) :=
  T.f_stock_for.kbindsD 2 ["tight", "slack"] (fun {α : Type} (vs ds zs : List α) => ((vs ++ (zs.drop 1).take 1) ++ (zs.drop 0).take 1)) (by simp) (fun a b c => ((a.append ((c.drop 1).take 1)).append ((c.drop 0).take 1))) fun _ _ _ _ _ _ _ us its ws h1 h2 h3 => match us, its, ws, h1, h2, h3 with | [_, _], [_], [_, _], _, _, _ => ⟨_, rfl, rfl⟩
theorem b_stock_for_3 {K : PySem.W.Frag} {mg : Str → Option Value} {φ : Fds} (T : Txt K mg φ) : ∃ ds, Vals ([V.non] : List V) ds ∧ Binds K φ.stock_for p_stock_for ds :=
  T.f_stock_for.binds1 3 0 (by simp) rfl fun _ _ _ _ _ _ _ us its h1 h2 => match us, its, h1, h2 with | [_, _, _], [_], _, _ => ⟨_, rfl, rfl⟩
theorem ok_is_whole {P : Program} {w : World} {K : PySem.W.Frag} {mg : Str → Option Value} {base : Heap} {φ : Fds} (T : Txt K mg φ) : FnOk P w K mg base CX0 1 (He.fAd K ("is_whole", none)) φ.is_whole p_is_whole sp_whole := by
  refine T.f_is_whole.ok sc_is_whole (fun vs H Q E h => ?_) (fun cdv A outer s H vs Q E hr h => ?_)
  · obtain ⟨n, rfl, k⟩ := h; rfl
  · obtain ⟨n, rfl, k⟩ := h
    refine ⟨_, PSs.nox (pss_one (ps_ret (pe_and (pe_callB (id := "isinstance") (isi (K := K)) (by rfl) T.z_isinstance (by decide +kernel) (pa_cons (pv 0) (pa_cons (pe_bltn (v := .ty "int") rfl T.z_int (by decide +kernel) rfl) pa_nil))) (pe_one (pe_not (pe_callB (id := "isinstance") (isi (K := K)) (by rfl) T.z_isinstance (by decide +kernel) (pa_cons (pv 0) (pa_cons (pe_bltn (v := .ty "bool") rfl T.z_bool (by decide +kernel) rfl) pa_nil)))))))), ?_⟩
    refine ⟨_, rfl, _, _, _, _, _, rfl, .ty _, .base (.int _), kit_ty (r := true) (by decide +kernel), _, rfl, ?_⟩
    refine iteT ?_
    refine ⟨_, rfl, _, _, _, _, _, rfl, .ty _, .base (.int _), kit_ty (r := false) (by decide +kernel), _, rfl, ?_⟩
    exact k
theorem ok_common_part {P : Program} {w : World} {K : PySem.W.Frag} {mg : Str → Option Value} {base : Heap} {φ : Fds} (T : Txt K mg φ) : FnOk P w K mg base CX0 1 (He.fAd K ("common_part", none)) φ.common_part p_common_part sp_common := by
  refine T.f_common_part.ok sc_common_part (fun vs H Q E h => ?_) (fun cdv A outer s H vs Q E hr h => ?_)
  · obtain ⟨a, b, rfl, k⟩ := h; rfl
  · obtain ⟨a, b, rfl, k⟩ := h
    refine ⟨_, PSs.nox (pss_cons (ps_par (i := 2) (j := 3) rfl sc_common_part.nd rfl rfl (by decide) rfl rfl (pa_cons (pe_callB (id := "abs") call_abs (by rfl) T.z_abs (by decide +kernel) (pa_cons (pv 0) pa_nil)) (pa_cons (pe_callB (id := "abs") call_abs (by rfl) T.z_abs (by decide +kernel) (pa_cons (pv 1) pa_nil)) pa_nil)) (by rfl))
      (pss_cons (ps_while PassesOwn.never (pt_cmpR op_gt (pv 3) pe_int (nomark _))
      (pss_one (ps_par (i := 2) (j := 3) rfl sc_common_part.nd rfl rfl (by decide) rfl rfl (pa_cons (pv 3) (pa_cons (pe_op op_mod (pv 2) (pv 3)) pa_nil)) (by rfl))))
      (pss_one (ps_ret (pv 2))))), ?_⟩
    refine ⟨_, rfl, _, rfl, _, rfl, _, rfl, _, _, rfl, ?_⟩
    refine while_by (fun σ H' => H' = H ∧ ∃ g s : Int, σ = [some (.int a), some (.int b), some (.int g), some (.int s)] ∧ 0 ≤ g ∧ 0 ≤ s ∧ Int.gcd g s = Int.gcd a b)
      (fun σ _ => match σ with | [_, _, _, some (.int s)] => s.toNat | _ => 0) ⟨rfl, _, _, rfl, ?_, ?_, ?_⟩ ?_ (fun σ H Q Q' hQ ⟨v, e1, i, j, e2, e3, c, e4, q⟩ => ⟨v, e1, i, j, e2, e3, c, e4, hQ _ _ q⟩)
    · split <;> omega
    · split <;> omega
    · have e1 : (if a < 0 then -a else a) = (a.natAbs : Int) := by split <;> omega
      have e2 : (if b < 0 then -b else b) = (b.natAbs : Int) := by split <;> omega
      rw [e1, e2]
      rfl
    · rintro σ H' ⟨rfl, g, s, rfl, hg, hs, e⟩
      refine ⟨_, rfl, _, _, rfl, rfl, _, rfl, ?_⟩
      refine ite2 (fun c => ?_) (fun c => ?_)
      · have c0 : 0 < s := of_decide_eq_true c
        refine ⟨_, rfl, _, rfl, _, rfl, _, _, rfl, rfl, c0, _, _, rfl, ?_⟩
        refine ⟨⟨rfl, s, g % s, rfl, hs, Int.emod_nonneg _ (by omega), (gcd_step c0 hg).trans e⟩, ?_⟩
        show (g % s).toNat < s.toNat
        have h1 := Int.emod_nonneg g (show s ≠ 0 by omega)
        have h2 := Int.emod_lt_of_pos g c0
        omega
      · have c0 : ¬ 0 < s := fun z => c (decide_eq_true z)
        have s0 : s = 0 := by omega
        subst s0
        refine ⟨_, rfl, ?_⟩
        have eg : g = (Int.gcd a b : Int) := by
          rw [← e, Int.gcd_zero_right]
          omega
        rw [eg]
        exact k
theorem ok_Measure_init {P : Program} {w : World} {K : PySem.W.Frag} {mg : Str → Option Value} {base : Heap} {φ : Fds} (T : Txt K mg φ) : FnOk P w K mg base CX0 2 (He.fAd K ("Measure", some "__init__")) φ.Measure_init p_Measure_init (sp_minit (He.ga K "Measure")) := by
  obtain ⟨_, B0v, B0⟩ := b_is_whole_1 T
  obtain ⟨_, B1v, B1⟩ := b_common_part_2 T
  refine T.f_Measure_init.ok sc_Measure_init (fun vs H Q E h => ?_) (fun cdv A outer s H vs Q E hr h => ?_)
  · obtain ⟨p, dx, a, b, rfl, hp, hb, hl, k⟩ := h; rfl
  · obtain ⟨p, dx, a, b, rfl, hp, hb, hl, k⟩ := h
    refine ⟨_, PSs.nox (pss_cons (ps_if (PW.pt (pw_or (pt_not (pt_val (pe_call (ok_is_whole (K := K) T) (hr.mono (by decide)) rfl T.g_is_whole T.f_is_whole.kp B0 B0v pass0 (pa_cons (pv 1) pa_nil)))) (pw_or1 (pt_not (pt_val (pe_call (ok_is_whole (K := K) T) (hr.mono (by decide)) rfl T.g_is_whole T.f_is_whole.kp B0 B0v pass0 (pa_cons (pv 2) pa_nil)))))))
      (pss_one ps_never)
      pss_nil)
      (pss_cons (ps_if (pt_cmpR op_eq (pv 2) pe_int (nomark _))
      (pss_one ps_never)
      pss_nil)
      (pss_cons (ps_set (i := 3) sc_Measure_init.nd rfl (Or.inl rfl) (pe_call (ok_common_part (K := K) T) (hr.mono (by decide)) rfl T.g_common_part T.f_common_part.kp B1 B1v pass0 (pa_cons (pv 1) (pa_cons (pv 2) pa_nil))))
      (pss_cons (ps_cut (ps_if (pt_cmpR op_lt (pv 2) pe_int (nomark _))
      (pss_one (ps_set (i := 3) sc_Measure_init.nd rfl (Or.inl rfl) (pe_un un_neg (pv 3))))
      pss_nil))
      (pss_cons (ps_fld (pv 0) (pe_op op_fd (pv 1) (pv 3)) rfl)
      (pss_one (ps_fld (pv 0) (pe_op op_fd (pv 2) (pv 3)) rfl))))))), ?_⟩
    refine ⟨_, rfl, a, rfl, _, rfl, ?_⟩
    refine iteF ?_
    refine ⟨_, rfl, b, rfl, _, rfl, ?_⟩
    refine iteF ?_
    refine ⟨_, rfl, rfl, _, rfl, ?_⟩
    rw [dI]
    refine ite2 (fun e => absurd (of_decide_eq_true e) hb) (fun _ => ?_)
    refine ⟨_, rfl, _, rfl, a, b, rfl, ?_⟩
    refine ⟨fun σ' H' => H' = H ∧ ∃ c : Int, c = sgn b * (Int.gcd a b : Int) ∧ σ' = [some (.ref p), some (.int a), some (.int b), some (.int c)], ?_, ?_⟩
    · refine ⟨_, rfl, _, _, rfl, rfl, _, rfl, ?_⟩
      refine ite2 (fun e => ?_) (fun e => ?_)
      · have e0 : b < 0 := of_decide_eq_true e
        refine ⟨_, rfl, _, rfl, rfl, _, ?_, rfl⟩
        unfold sgn
        rw [if_neg (by omega), Int.neg_one_mul]
      · have e0 : ¬ b < 0 := fun z => e (decide_eq_true z)
        refine ⟨rfl, _, ?_, rfl⟩
        unfold sgn
        rw [if_pos (by omega), Int.one_mul]
    · rintro σ' H' ⟨rfl, c, hc, rfl⟩
      obtain ⟨c0, cl, fr⟩ := fr_mk hb hc
      have c9 : c.natAbs.log2 < 9000 := by
        refine Nat.lt_of_le_of_lt ?_ hl
        exact (Nat.le_log2 (by omega)).mpr (Nat.le_trans (Nat.log2_self_le (by omega)) cl)
      refine ⟨_, rfl, _, rfl, _, _, rfl, rfl, ⟨c0, c9⟩, _, rfl, p, _, dx, _, rfl, hp, T.cl_Measure, T.na_Measure_top, (by show 0 < 1000; decide), ?_⟩
      refine ⟨_, rfl, _, rfl, _, _, rfl, rfl, ⟨c0, c9⟩, _, rfl, p, _, dx, _, rfl, upd_same, T.cl_Measure, T.na_Measure_bottom, (by show 1 < 1000; decide), ?_⟩
      refine k _ _ _ fr ?_ fun q o e nq => ?_
      · rw [upd_same, mf_put]
      · rw [upd_ne nq, upd_ne nq]
        exact e
theorem ok_Measure_is_below {P : Program} {w : World} {K : PySem.W.Frag} {mg : Str → Option Value} {base : Heap} {φ : Fds} (T : Txt K mg φ) : FnOk P w K mg base CX0 1 (He.fAd K ("Measure", some "is_below")) φ.Measure_is_below p_Measure_is_below (sp_below (He.ga K "Measure")) := by
  refine T.f_Measure_is_below.ok sc_Measure_is_below (fun vs H Q E h => ?_) (fun cdv A outer s H vs Q E hr h => ?_)
  · obtain ⟨p, q, t, u, t', u', al, rfl, ⟨dp, hp⟩, ⟨dq, hq⟩, st, su, st', su', k⟩ := h; rfl
  · obtain ⟨p, q, t, u, t', u', al, rfl, ⟨dp, hp⟩, ⟨dq, hq⟩, st, su, st', su', k⟩ := h
    refine ⟨_, PSs.nox (pss_cons (ps_set (i := 3) sc_Measure_is_below.nd rfl (Or.inl rfl) (pe_op op_mulA (fldK (K := K) (pv 0) rfl) (fldK (K := K) (pv 1) rfl)))
      (pss_cons (ps_set (i := 4) sc_Measure_is_below.nd rfl (Or.inl rfl) (pe_op op_mulA (fldK (K := K) (pv 1) rfl) (fldK (K := K) (pv 0) rfl)))
      (pss_one (ps_ret (pe_or (pe_cmpR op_lt (pv 3) (pv 4) (nomark _)) (pe_one (pe_and (pv 2) (pe_one (pe_cmpR op_eq (pv 3) (pv 4) (nomark _)))))))))), ?_⟩
    refine ⟨_, rfl, _, _, _, _, _, rfl, hp, T.cl_Measure, T.na_Measure_top, mf_top _ _, _, rfl, _, _, _, _, _, rfl, hq, T.cl_Measure, T.na_Measure_bottom, mf_bottom _ _, _, _, rfl, rfl, st.cmul su' (by decide) (by decide) (by decide), ?_⟩
    refine ⟨_, rfl, _, _, _, _, _, rfl, hq, T.cl_Measure, T.na_Measure_top, mf_top _ _, _, rfl, _, _, _, _, _, rfl, hp, T.cl_Measure, T.na_Measure_bottom, mf_bottom _ _, _, _, rfl, rfl, st'.cmul su (by decide) (by decide) (by decide), ?_⟩
    refine ⟨_, rfl, _, rfl, _, _, rfl, rfl, _, rfl, ?_⟩
    have e : ∀ b : Bool, b = lessA t u t' u' al → Q (.bl b) H := fun b z => by rw [z]; exact k
    refine ite2 (fun c => e _ ?_) (fun c => ?_)
    · unfold lessA
      rw [c]
      rfl
    · have c0 : decide (t * u' < t' * u) = false := by simpa using c
      refine ⟨_, rfl, _, rfl, ?_⟩
      cases al with
      | false =>
        refine iteF (e _ ?_)
        unfold lessA
        rw [c0]
        rfl
      | true =>
        refine iteT ?_
        refine ⟨_, rfl, _, rfl, rfl, e _ ?_⟩
        unfold lessA
        rw [c0, dI]
        rfl
theorem ok_slip_of {P : Program} {w : World} {K : PySem.W.Frag} {mg : Str → Option Value} {base : Heap} {φ : Fds} (T : Txt K mg φ) : FnOk P w K mg base CX0 2 (He.fAd K ("slip_of", none)) φ.slip_of p_slip_of (sp_slip K (He.ga K "Measure")) := by
  obtain ⟨_, B0v, B0⟩ := b_Measure_is_below_2 T
  refine T.f_slip_of.ok sc_slip_of (fun vs H Q E h => ?_) (fun cdv A outer s H vs Q E hr h => ?_)
  · obtain ⟨T', k, ps, zs, rfl, hT, hm, hk, hl, kk⟩ := h; rfl
  · obtain ⟨T', k, ps, zs, rfl, hT, hm, hk, hl, kk⟩ := h
    refine ⟨_, PSs.nox (pss_cons (ps_for PassesOwn.never rfl (pi_range2 rfl T.z_range (pa_cons pe_int (pa_cons (pe_callB (id := "len") (lenS (K := K)) (by rfl) T.z_len PySem.boot_len (pa_cons (pv 0) pa_nil)) pa_nil))) (pg_name (i := 1) sc_slip_of.nd rfl (Or.inl rfl))
      (pss_one (ps_if (pt_not (pt_val (pe_meth (pe_ix (ixt (K := K)) (pv 0) (pe_op op_sub (pv 1) pe_int) (fun _ _ => rfl)) T.cl_Measure T.me_Measure_is_below (ok_Measure_is_below (K := K) T) (hr.mono (by decide)) B0 B0v pass0 (pa_cons (pe_ix (ixt (K := K)) (pv 0) (pv 1) (fun _ _ => rfl)) pa_nil))))
      (pss_one (ps_ret (pv 1)))
      pss_nil)))
      (pss_one (ps_ret pe_non))), ?_⟩
    have el : ((ps.length : Nat) : Int) = (zs.length : Int) := by rw [hm.len]
    walk_at "w"
    refine for_range (fun i σ H' => H' = H ∧ (∃ v, σ = [some (.ref T'), v]) ∧ ∀ j a b, j < i → zs[j]? = some a → zs[j + 1]? = some b → ltq a b = true) ⟨rfl, ⟨_, rfl⟩, fun j a b z => by omega⟩ ?_ ?_
    · rintro i σ H1 hi ⟨rfl, ⟨v, rfl⟩, hp⟩
      obtain ⟨a, ha⟩ := ge2 (zs := zs) (n := i) (by omega)
      obtain ⟨b, hb⟩ := ge2 (zs := zs) (n := i + 1) (by omega)
      obtain ⟨p, ep, qp⟩ := hm.at ha
      obtain ⟨q, eq, qq⟩ := hm.at hb
      walk_at "w"
      refine ⟨atI_of (n := i) (by omega) ep, ?_⟩
      walk_at "w"
      refine ⟨atI_of (n := i + 1) (by omega) eq, ?_⟩
      walk_at "w"
      cases e : ltq a b with
      | false =>
        refine iteT ⟨_, rfl, ?_⟩
        have z : (1 : Int) + i = ((i + 1 : Nat) : Int) := by omega
        rw [z]
        refine kk (some (i + 1)) ⟨by omega, by omega, fun a' b' h1 h2 => ?_, fun j a' b' hj h1 h2 => hp j a' b' (by omega) h1 h2⟩
        rw [Nat.add_sub_cancel, ha] at h1
        rw [hb] at h2
        cases h1; cases h2
        exact e
      | true =>
        refine iteF ⟨rfl, ⟨_, rfl⟩, fun j a' b' hj h1 h2 => ?_⟩
        by_cases hji : j < i
        · exact hp j a' b' hji h1 h2
        · have : j = i := by omega
          subst this
          rw [ha] at h1
          rw [hb] at h2
          cases h1; cases h2
          exact e
    · rintro σ H1 ⟨rfl, ⟨v, rfl⟩, hp⟩
      refine kk none fun j a b h1 h2 => hp j a b ?_ h1 h2
      have := (List.getElem?_eq_some_iff.mp h2).1
      omega
theorem ok_is_measure_or_none {P : Program} {w : World} {K : PySem.W.Frag} {mg : Str → Option Value} {base : Heap} {φ : Fds} (T : Txt K mg φ) : FnOk P w K mg base CX0 1 (He.fAd K ("is_measure_or_none", none)) φ.is_measure_or_none p_is_measure_or_none (sp_isendQ (He.ga K "Measure")) := by
  refine T.f_is_measure_or_none.ok sc_is_measure_or_none (fun vs H Q E h => ?_) (fun cdv A outer s H vs Q E hr h => ?_)
  · obtain ⟨v, k, e, rfl, he, kk⟩ := h; rfl
  · obtain ⟨v, k, e, rfl, he, kk⟩ := h
    refine ⟨_, PSs.nox (pss_one (ps_ret (pe_or (pe_cmpR op_isN (pv 0) pe_non (nomark _)) (pe_one (pe_callB (id := "isinstance") (isi (K := K)) (by rfl) T.z_isinstance (by decide +kernel) (pa_cons (pv 0) (pa_cons (pe_glob (v := .ref (He.ga K "Measure")) rfl T.g_Measure rfl) pa_nil))))))), ?_⟩
    cases e with
    | none =>
      cases he
      walk_at "w"
      exact kk
    | some z =>
      obtain ⟨p, rfl, qz⟩ := he
      obtain ⟨⟨t, u, ⟨dx, hp⟩, _⟩, _⟩ := qz
      refine ⟨_, rfl, rfl, _, rfl, ?_⟩
      walk_at "w"
      refine ⟨_, _, _, rfl, .own _, tyM hp T.cl_Measure T.ii_Measure, T.k_Measure_Measure, kk⟩
theorem ok_are_marks {P : Program} {w : World} {K : PySem.W.Frag} {mg : Str → Option Value} {base : Heap} {φ : Fds} (T : Txt K mg φ) : FnOk P w K mg base CX0 1 (He.fAd K ("are_marks", none)) φ.are_marks p_are_marks (sp_arem K (He.ga K "Measure")) := by
  refine T.f_are_marks.ok sc_are_marks (fun vs H Q E h => ?_) (fun cdv A outer s H vs Q E hr h => ?_)
  · obtain ⟨T', k, ps, zs, rfl, hT, hm, h0, h1, kk⟩ := h; rfl
  · obtain ⟨T', k, ps, zs, rfl, hT, hm, h0, h1, kk⟩ := h
    refine ⟨_, PSs.nox (pss_cons (ps_if (PW.pt (pw_or (pt_not (pt_val (pe_callB (id := "isinstance") (isi (K := K)) (by rfl) T.z_isinstance (by decide +kernel) (pa_cons (pv 0) (pa_cons (pe_bltn (v := .ty "tuple") rfl T.z_tuple (by decide +kernel) rfl) pa_nil))))) (pw_or1 (pt_not (pt_chain op_le op_le pe_int (pe_callB (id := "len") (lenS (K := K)) (by rfl) T.z_len PySem.boot_len (pa_cons (pv 0) pa_nil)) (C8.pe_gc (v := .int 24) rfl (T.v_MOST_MARKS.elim fun t e => ⟨_, e, ⟨t, rfl⟩⟩)))))))
      (pss_one (ps_ret pe_bl))
      pss_nil)
      (pss_one (ps_ret (pe_callB (id := "all") (allK (K := K)) (by rfl) T.z_all (by decide +kernel) (pa_cons (pe_lc (own := [("mark", 1)]) (g := gName 1) rfl sc_are_marks.nd (pi_tup (pv 0)) (blkOk_by (own := [("mark", 1)]) (N := N_are_marks) (sc := (defScope s_are_marks)) (by decide +kernel)) (fun _ _ _ _ _ => (pg_name (i := 1) sc_are_marks.nd rfl (Or.inl rfl))) (fun _ _ _ _ _ => pts_nil) (fun _ _ _ _ _ => (pe_callB (id := "isinstance") (isi (K := K)) (by rfl) T.z_isinstance (by decide +kernel) (pa_cons (pv 1) (pa_cons (pe_glob (v := .ref (He.ga K "Measure")) rfl T.g_Measure rfl) pa_nil))))) pa_nil))))), ?_⟩
    have el : ps.length = zs.length := hm.len
    refine ⟨_, rfl, _, _, _, _, _, rfl, .ty _, tyTup hT, kit_ty (r := true) (by decide +kernel), _, rfl, iteF ?_⟩
    walk_at "w"
    refine ⟨⟨_, hT⟩, fun D nD => ?_⟩
    refine lcz (n := ps.length) walk_tup (fun _ _ g s => s.sqt g) (List.replicate ps.length (some (V.bl true))) (by simp) (by rw [sizeLine_eq]; omega) hT nD (fun i x H1 H2 z N M hi hz s1 y hN hM => ?_) (fun H1 s1 hD => ?_)
    · obtain ⟨rfl, hx⟩ := y
      obtain ⟨p, z1, rfl, _, qz⟩ := (hm.same s1).of hx
      obtain ⟨⟨t, u, ⟨dx, hp⟩, _⟩, _⟩ := qz
      rw [List.getElem?_replicate, if_pos hi] at hz
      cases hz
      refine ⟨rfl, yesT ?_⟩
      exact ⟨_, rfl, _, _, _, _, _, rfl, .own _, tyM hp T.cl_Measure T.ii_Measure, T.k_Measure_Measure, hN _ _ rfl (Same.refl _)⟩
    have e : (List.replicate ps.length (some (V.bl true))).filterMap _root_.id = (List.replicate ps.length true).map V.bl := by
      generalize ps.length = n
      induction n with
      | zero => rfl
      | succ n ih => rw [List.replicate_succ, List.replicate_succ]; simpa using ih
    rw [e] at hD
    refine ⟨D, _, rfl, SqL.of hD, ?_⟩
    have e2 : (List.replicate ps.length true).all _root_.id = true := by
      generalize ps.length = n
      induction n with
      | zero => rfl
      | succ n ih => rw [List.replicate_succ]; simpa using ih
    rw [e2]
    exact kk _ s1
theorem ok_is_rule {P : Program} {w : World} {K : PySem.W.Frag} {mg : Str → Option Value} {base : Heap} {φ : Fds} (T : Txt K mg φ) : FnOk P w K mg base CX0 1 (He.fAd K ("is_rule", none)) φ.is_rule p_is_rule sp_isrule := by
  refine T.f_is_rule.ok sc_is_rule (fun vs H Q E h => ?_) (fun cdv A outer s H vs Q E hr h => ?_)
  · obtain ⟨r, rfl, hr', kk⟩ := h; rfl
  · obtain ⟨r, rfl, hr', kk⟩ := h
    refine ⟨_, PSs.nox (pss_one (ps_ret (pe_and (pe_callB (id := "isinstance") (isi (K := K)) (by rfl) T.z_isinstance (by decide +kernel) (pa_cons (pv 0) (pa_cons (pe_bltn (v := .ty "str") rfl T.z_str (by decide +kernel) rfl) pa_nil))) (pe_one (pe_cmpR (inK (K := K)) (pv 0) (pe_glob (v := .ref (He.ga K "RULES")) rfl T.g_RULES rfl) (by rfl)))))), ?_⟩
    refine ⟨_, rfl, _, _, _, _, _, rfl, .ty _, .base (.str _), kit_ty (r := true) (by decide +kernel), _, rfl, iteT ?_⟩
    refine ⟨_, rfl, _, _, rfl, .inr (T.tp_RULES H), rfl, rfl, ?_⟩
    have e : inV (.str r) (([Str.ofString "up", Str.ofString "down", Str.ofString "near"] : List Str).map V.str) = true := by
      rcases hr' with rfl | rfl | rfl <;> decide +kernel
    simp only [Bool.false_eq_true, if_false]
    rw [e]
    exact kk
theorem ok_is_span {P : Program} {w : World} {K : PySem.W.Frag} {mg : Str → Option Value} {base : Heap} {φ : Fds} (T : Txt K mg φ) : FnOk P w K mg base CX0 2 (He.fAd K ("is_span", none)) φ.is_span p_is_span (sp_span (He.ga K "Measure")) := by
  obtain ⟨_, B0v, B0⟩ := b_Measure_is_below_3 T
  refine T.f_is_span.ok sc_is_span (fun vs H Q E h => ?_) (fun cdv A outer s H vs Q E hr h => ?_)
  · obtain ⟨l, h, k, lo, hi, rfl, ql, qh, hk, kk⟩ := h; rfl
  · obtain ⟨l, h, k, lo, hi, rfl, ql, qh, hk, kk⟩ := h
    refine ⟨_, PSs.nox (pss_one (ps_ret (pe_or (pe_cmpR op_isN (pv 0) pe_non (nomark _)) (pe_or (pe_cmpR op_isN (pv 1) pe_non (nomark _)) (pe_one (pe_meth (pv 0) T.cl_Measure T.me_Measure_is_below (ok_Measure_is_below (K := K) T) (hr.mono (by decide)) B0 B0v pass0 (pa_cons (pv 1) (pa_cons pe_bl pa_nil)))))))), ?_⟩
    cases lo with
    | none =>
      cases ql
      walk_at "w"
      exact kk
    | some a =>
      obtain ⟨pl, rfl, qa⟩ := ql
      cases hi with
      | none =>
        cases qh
        walk_at "w"
        exact kk
      | some b =>
        obtain ⟨ph, rfl, qb⟩ := qh
        rw [span_leq] at kk
        walk_at "w"
        exact kk
theorem ok_Ladder_init {P : Program} {w : World} {K : PySem.W.Frag} {mg : Str → Option Value} {base : Heap} {φ : Fds} (T : Txt K mg φ) : FnOk P w K mg base CX0 3 (He.fAd K ("Ladder", some "__init__")) φ.Ladder_init p_Ladder_init (sp_linit K (He.ga K "Measure") (He.ga K "Ladder")) := by
  obtain ⟨_, B0v, B0⟩ := b_are_marks_1 T
  obtain ⟨_, B1v, B1⟩ := b_is_rule_1 T
  obtain ⟨_, B2v, B2⟩ := b_is_measure_or_none_1 T
  obtain ⟨_, B3v, B3⟩ := b_is_span_2 T
  obtain ⟨_, B4v, B4⟩ := b_slip_of_1 T
  refine T.f_Ladder_init.ok sc_Ladder_init (fun vs H Q E h => ?_) (fun cdv A outer s H vs Q E hr h => ?_)
  · obtain ⟨p, dx, T', k, ps, zs, r, l, h, lo, hi, rfl, hp, hT, hm, hk, h0, h1, hri, hru, ql, qh, hsp, kk⟩ := h; rfl
  · obtain ⟨p, dx, T', k, ps, zs, r, l, h, lo, hi, rfl, hp, hT, hm, hk, h0, h1, hri, hru, ql, qh, hsp, kk⟩ := h
    refine ⟨_, PSs.nox (pss_cons (ps_if (pt_not (pt_val (pe_call (ok_are_marks (K := K) T) (hr.mono (by decide)) rfl T.g_are_marks T.f_are_marks.kp B0 B0v pass0 (pa_cons (pv 1) pa_nil))))
      (pss_one ps_never)
      pss_nil)
      (pss_cons (ps_if (pt_not (pt_val (pe_call (ok_is_rule (K := K) T) (hr.mono (by decide)) rfl T.g_is_rule T.f_is_rule.kp B1 B1v pass0 (pa_cons (pv 2) pa_nil))))
      (pss_one ps_never)
      pss_nil)
      (pss_cons (ps_if (PW.pt (pw_or (pt_not (pt_val (pe_call (ok_is_measure_or_none (K := K) T) (hr.mono (by decide)) rfl T.g_is_measure_or_none T.f_is_measure_or_none.kp B2 B2v pass0 (pa_cons (pv 3) pa_nil)))) (pw_or1 (pt_not (pt_val (pe_call (ok_is_measure_or_none (K := K) T) (hr.mono (by decide)) rfl T.g_is_measure_or_none T.f_is_measure_or_none.kp B2 B2v pass0 (pa_cons (pv 4) pa_nil)))))))
      (pss_one ps_never)
      pss_nil)
      (pss_cons (ps_if (pt_not (pt_val (pe_call (ok_is_span (K := K) T) (hr.mono (by decide)) rfl T.g_is_span T.f_is_span.kp B3 B3v pass0 (pa_cons (pv 3) (pa_cons (pv 4) pa_nil)))))
      (pss_one ps_never)
      pss_nil)
      (pss_cons (ps_set (i := 5) sc_Ladder_init.nd rfl (Or.inl rfl) (pe_call (ok_slip_of (K := K) T) (hr.mono (by decide)) rfl T.g_slip_of T.f_slip_of.kp B4 B4v pass0 (pa_cons (pv 1) pa_nil)))
      (pss_cons (ps_if (pt_cmpR op_notN (pv 5) pe_non (nomark _))
      (pss_one ps_never)
      pss_nil)
      (pss_cons (ps_fld (pv 0) (pv 1) rfl)
      (pss_cons (ps_fld (pv 0) (pv 2) rfl)
      (pss_cons (ps_fld (pv 0) (pv 3) rfl)
      (pss_one (ps_fld (pv 0) (pv 4) rfl))))))))))), ?_⟩
    have cl_Ladder := T.cl_Ladder
    have na_Ladder_marks := T.na_Ladder_marks
    have na_Ladder_rule := T.na_Ladder_rule
    have na_Ladder_least := T.na_Ladder_least
    have na_Ladder_most := T.na_Ladder_most
    
    walk_at "w"
    refine ⟨zs, rfl, hT, hm, h0, h1, fun H1 s1 => ?_⟩
    walk_at "w"
    refine ⟨lo, rfl, ql.same s1, ?_⟩
    walk_at "w"
    refine ⟨hi, rfl, qh.same s1, ?_⟩
    have hT1 := s1.sqt hT
    have hm1 := hm.same s1
    replace ql := ql.same s1
    replace qh := qh.same s1
    have hp1 := s1 _ _ hp
    walk_at "w"
    refine ⟨lo, hi, rfl, ql, qh, by omega, ?_⟩
    rw [hsp]
    walk_at "w"
    refine ⟨zs, rfl, hT1, hm1, by omega, by omega, fun o ho => ?_⟩
    have eo : o = none := by
      cases o with
      | none => rfl
      | some n =>
        obtain ⟨n1, n2, n3, _⟩ := ho
        obtain ⟨a, ha⟩ := ge2 (zs := zs) (n := n - 1) (by omega)
        obtain ⟨b, hb⟩ := ge2 (zs := zs) (n := n) n2
        have z1 := n3 a b ha hb
        have z2 := hri (n - 1) a b ha (by rw [Nat.sub_add_cancel n1]; exact hb)
        rw [z1] at z2
        cases z2
    subst eo
    walk_at "w"
    refine ⟨by show 0 < 1000; decide, ?_⟩
    refine ⟨_, rfl, _, rfl, p, _, dx, _, rfl, upd_same, cl_Ladder, na_Ladder_rule, by show 1 < 1000; decide, ?_⟩
    refine ⟨_, rfl, _, rfl, p, _, dx, _, rfl, upd_same, cl_Ladder, na_Ladder_least, by show 2 < 1000; decide, ?_⟩
    refine ⟨_, rfl, _, rfl, p, _, dx, _, rfl, upd_same, cl_Ladder, na_Ladder_most, by show 3 < 1000; decide, ?_⟩
    refine kk _ ?_ fun c o ec nc => ?_
    · rw [upd_same, lf_put]
    · rw [upd_ne nc, upd_ne nc, upd_ne nc, upd_ne nc]
      exact s1 _ _ ec
theorem ok_l_hand {P : Program} {w : World} {K : PySem.W.Frag} {mg : Str → Option Value} {base : Heap} {φ : Fds} (T : Txt K mg φ) : FnOk P w K mg base CX0 1 (He.fAd K ("_law_hand", none)) φ.l_hand p_l_hand (sp_hand K) := by
  refine T.f_l_hand.ok sc_l_hand (fun vs H Q E h => ?_) (fun cdv A outer s H vs Q E hr h => ?_)
  · obtain ⟨a, ns, kk, rfl, hS, hk, k⟩ := h; rfl
  · obtain ⟨a, ns, kk, rfl, hS, hk, k⟩ := h
    refine ⟨_, PSs.nox (pss_cons (ps_set (i := 2) sc_l_hand.nd rfl (Or.inl rfl) pe_int)
      (pss_cons (ps_cut (ps_if (pt_cmpR op_lt (pv 1) (pe_callB (id := "len") (lenS (K := K)) (by rfl) T.z_len PySem.boot_len (pa_cons (pv 0) pa_nil)) (nomark _))
      (pss_one (ps_set (i := 2) sc_l_hand.nd rfl (Or.inl rfl) (pe_ix (ixl (K := K)) (pv 0) (pv 1) (fun _ _ => rfl))))
      pss_nil))
      (pss_cons (ps_set (i := 3) sc_l_hand.nd rfl (Or.inl rfl) (pe_op op_mulA (pe_callB (id := "abs") call_abs (by rfl) T.z_abs (by decide +kernel) (pa_cons (pv 2) pa_nil)) (pe_callTy (T := "int") call_int1 (by rfl) T.z_int (by decide +kernel) (pa_cons (pe_cmpR op_ge (pe_callB (id := "abs") call_abs (by rfl) T.z_abs (by decide +kernel) (pa_cons (pv 2) pa_nil)) (pe_op op_pow pe_int pe_int) (nomark _)) pa_nil))))
      (pss_one (ps_ret (pe_lst (pa_cons (pv 3) (pa_cons (pe_op op_mod (pe_op op_add (pe_op op_add (pe_op op_mod (pv 2) pe_int) (pe_op op_mulA pe_int (pv 1))) pe_int) pe_int) (pa_cons pe_int pa_nil))))))))), ?_⟩
    refine ⟨fun σ' H' => H' = H ∧ ∃ z : Int, σ' = [some (.ref a), some (.int kk), some (.int z), none], ?_, ?_⟩
    · refine ⟨_, rfl, _, rfl, a, _, rfl, .inl hS, _, _, rfl, rfl, _, rfl, ?_⟩
      refine ite2 (fun e => ?_) (fun e => ?_)
      · have e0 : (kk : Int) < ((ns.map V.int).length : Int) := of_decide_eq_true e
        rw [List.length_map] at e0
        have e1 : kk < ns.length := by omega
        refine ⟨_, rfl, _, rfl, a, _, _, V.int ns[kk], rfl, rfl, hS, atI_nat ?_, rfl, _, rfl⟩
        rw [List.getElem?_map, List.getElem?_eq_getElem e1]
        rfl
      · exact ⟨rfl, 0, rfl⟩
    · rintro σ' H' ⟨rfl, z, rfl⟩
      refine ⟨_, rfl, _, rfl, _, rfl, _, rfl, _, _, rfl, rfl, ⟨by decide, by decide, by decide⟩, _, _, rfl, rfl, .inr ⟨_, rfl, _, _, rfl, rfl, .inl (.inr ?_), ?_⟩⟩
      · cases decide ((10 : Int) ^ Int.toNat 18 ≤ (if z < 0 then -z else z)) <;> exact ⟨by decide, by decide⟩
      refine ⟨_, rfl, _, rfl, _, _, rfl, rfl, (by show (0 : Int) < 2305843009213693951; decide), _, rfl, _, _, rfl, rfl, .inl (.inl ⟨by decide, by decide⟩), _, _, rfl, rfl, _, _, rfl, rfl, _, _, rfl, rfl, (by show (0 : Int) < 2305843009213693951; decide), by show 3 ≤ sizeLine; decide, fun p hp => ?_⟩
      refine k p _ hp (same1 hp) ⟨_, _, _, upd_same, ?_, Int.emod_nonneg _ (by decide), Int.lt_trans (Int.emod_lt_of_pos _ (by decide)) (by decide), by decide, by decide⟩
      have ez : 0 ≤ (if z < 0 then -z else z) := by split <;> omega
      generalize (if z < 0 then -z else z) = y at *
      by_cases e : (10 : Int) ^ Int.toNat 18 ≤ y
      · rw [decide_eq_true e]
        show 0 ≤ y * 1
        omega
      · rw [decide_eq_false e]
        show 0 ≤ y * 0
        omega
theorem ok_l_take {P : Program} {w : World} {K : PySem.W.Frag} {mg : Str → Option Value} {base : Heap} {φ : Fds} (T : Txt K mg φ) : FnOk P w K mg base CX0 1 (He.fAd K ("_law_take", none)) φ.l_take p_l_take sp_take := by
  refine T.f_l_take.ok sc_l_take (fun vs H Q E h => ?_) (fun cdv A outer s H vs Q E hr h => ?_)
  · obtain ⟨hd, n, m, rfl, hh, hn, hm, hl, k⟩ := h; rfl
  · obtain ⟨hd, n, m, rfl, hh, hn, hm, hl, k⟩ := h
    refine ⟨_, PSs.nox (pss_cons (ps_if (pt_cmpR op_gt (pe_ix (ixl (K := K)) (pv 0) pe_int (fun _ _ => rfl)) pe_int (nomark _))
      (pss_cons (ps_set (i := 2) sc_l_take.nd rfl (Or.inl rfl) (pe_op op_mod (pe_ix (ixl (K := K)) (pv 0) pe_int (fun _ _ => rfl)) (pv 1)))
      (pss_cons (ps_asg (pe_op op_fd (pe_ix (ixl (K := K)) (pv 0) pe_int (fun _ _ => rfl)) (pv 1)) (pg_sub (pv 0) pe_int set_list))
      (pss_one (ps_ret (pv 2)))))
      pss_nil)
      (pss_cons (ps_asg (pe_op op_add (pe_ix (ixl (K := K)) (pv 0) pe_int (fun _ _ => rfl)) pe_int) (pg_sub (pv 0) pe_int set_list))
      (pss_cons (ps_set (i := 3) sc_l_take.nd rfl (Or.inl rfl) (pe_op op_mod (pe_op op_pow (pe_op op_add (pe_op op_add (pe_ix (ixl (K := K)) (pv 0) pe_int (fun _ _ => rfl)) (pe_op op_mulA (pe_op op_mulA pe_int (pe_ix (ixl (K := K)) (pv 0) pe_int (fun _ _ => rfl))) (pe_ix (ixl (K := K)) (pv 0) pe_int (fun _ _ => rfl)))) pe_int) pe_int) pe_int))
      (pss_cons (ps_set (i := 3) sc_l_take.nd rfl (Or.inl rfl) (pe_op op_mod (pe_op op_mulA (pv 3) (pe_op op_add (pe_op op_mod (pv 3) pe_int) (pe_op op_mulA pe_int (pe_ix (ixl (K := K)) (pv 0) pe_int (fun _ _ => rfl))))) pe_int))
      (pss_one (ps_ret (pe_op op_mod (pe_op op_fd (pv 3) pe_int) (pv 1)))))))), ?_⟩
    obtain ⟨a, b, c, h0, ha, hb, hb2, hc, hc2⟩ := hh
    refine ⟨_, rfl, _, _, _, _, rfl, rfl, SqL.of h0, rfl, _, _, rfl, rfl, _, rfl, ?_⟩
    refine ite2 (fun e => ?_) (fun e => ?_)
    · have e0 : 0 < a := of_decide_eq_true e
      refine ⟨_, rfl, _, _, _, _, rfl, rfl, SqL.of h0, rfl, _, rfl, _, _, rfl, rfl, hm, ?_⟩
      refine ⟨_, rfl, _, _, _, _, rfl, rfl, SqL.of h0, rfl, _, rfl, _, _, rfl, rfl, ⟨by omega, hl⟩, _, rfl, _, _, _, _, rfl, rfl, h0, rfl, ?_⟩
      refine ⟨_, rfl, k _ _ (Int.emod_nonneg _ (by omega)) (Int.emod_lt_of_pos _ hm) ⟨a.fdiv m, b, c, upd_same, ?_, hb, hb2, hc, by omega⟩ (Kp.refl _ _).set⟩
      rw [Int.fdiv_eq_ediv_of_nonneg a (by omega)]
      exact Int.ediv_nonneg ha (by omega)
    · have c9 : c ≤ 1000000 := by omega
      refine ⟨_, rfl, _, _, _, _, rfl, rfl, SqL.of h0, rfl, _, _, rfl, rfl, _, rfl, _, _, _, _, rfl, rfl, h0, rfl, ?_⟩
      have h1 : (upd H hd (.lst ([V.int a, V.int b, V.int c].set 2 (V.int (c + 1))))) hd = some (.lst [V.int a, V.int b, V.int (c + 1)]) := upd_same
      have hcc : 0 ≤ 7919 * (c + 1) * (c + 1) := Int.mul_nonneg (Int.mul_nonneg (by omega) (by omega)) (by omega)
      have hcd : 7919 * (c + 1) * (c + 1) ≤ 7919 * 1000001 * 1000001 := Int.mul_le_mul (Int.mul_le_mul_of_nonneg_left (by omega) (by omega)) (by omega) (by omega) (by omega)
      refine ⟨_, rfl, _, _, _, _, rfl, rfl, SqL.of h1, rfl, _, rfl, _, _, _, _, rfl, rfl, SqL.of h1, rfl, _, _, rfl, rfl, .inl (.inl ⟨by decide, by decide⟩), _, rfl, _, _, _, _, rfl, rfl, SqL.of h1, rfl, _, _, rfl, rfl, .inl (.inr ⟨by omega, by omega⟩), _, _, rfl, rfl, _, _, rfl, rfl, _, _, rfl, rfl, ⟨by decide, by decide, by omega⟩, _, _, rfl, rfl, (by show (0 : Int) < 2305843009213693921; decide), ?_⟩
      refine ⟨_, rfl, _, rfl, _, _, rfl, rfl, (by show (0 : Int) < 1000003; decide), _, rfl, _, _, _, _, rfl, rfl, SqL.of h1, rfl, _, _, rfl, rfl, .inl (.inl ⟨by decide, by decide⟩), _, _, rfl, rfl, _, _, rfl, rfl, .inl (.inr ?_), _, _, rfl, rfl, (by show (0 : Int) < 2305843009213693907; decide), ?_⟩
      · generalize (b + 7919 * (c + 1) * (c + 1) + 11) ^ Int.toNat 3 % 2305843009213693921 = z
        constructor <;> omega
      · generalize (b + 7919 * (c + 1) * (c + 1) + 11) ^ Int.toNat 3 % 2305843009213693921 = z
        generalize z * (z % 1000003 + 99991 * (c + 1)) % 2305843009213693907 = y
        refine ⟨_, rfl, _, _, rfl, rfl, ⟨by decide, by decide +kernel⟩, _, rfl, _, _, rfl, rfl, hm, ?_⟩
        exact k _ _ (Int.emod_nonneg _ (by omega)) (Int.emod_lt_of_pos _ hm) ⟨a, b, c + 1, upd_same, ha, hb, hb2, by omega, by omega⟩ (Kp.refl _ _).set
theorem ok_l_pick {P : Program} {w : World} {K : PySem.W.Frag} {mg : Str → Option Value} {base : Heap} {φ : Fds} (T : Txt K mg φ) : FnOk P w K mg base CX0 2 (He.fAd K ("_law_pick", none)) φ.l_pick p_l_pick (sp_of K) := by
  obtain ⟨_, B0v, B0⟩ := b_l_take_2 T
  refine T.f_l_pick.ok sc_l_pick (fun vs H Q E h => ?_) (fun cdv A outer s H vs Q E hr h => ?_)
  · obtain ⟨h, l, n, xs, rfl, hh, hn, hl, ne, l0, l1, k⟩ := h; rfl
  · obtain ⟨h, l, n, xs, rfl, hh, hn, hl, ne, l0, l1, k⟩ := h
    refine ⟨_, PSs.nox (pss_one (ps_ret (pe_ix (ixl (K := K)) (pv 1) (pe_call (ok_l_take (K := K) T) (hr.mono (by decide)) rfl T.g_l_take T.f_l_take.kp B0 B0v pass0 (pa_cons (pv 0) (pa_cons (pe_callB (id := "len") (lenS (K := K)) (by rfl) T.z_len PySem.boot_len (pa_cons (pv 1) pa_nil)) pa_nil))) (fun _ _ => rfl)))), ?_⟩
    refine ⟨_, rfl, _, rfl, _, rfl, l, xs, rfl, .inl hl, h, n, (xs.length : Int), rfl, hh, by omega, by omega, ?_, fun d H1 d0 d1 hh1 k1 => ?_⟩
    · have : (xs.length : Int).natAbs = xs.length := by omega
      rw [this]
      have : xs.length < 2 ^ 10 := by omega
      exact Nat.lt_of_lt_of_le (PySem.Flt.log2_lt_of (by decide) this) (by decide)
    obtain ⟨j, rfl⟩ := Int.eq_ofNat_of_zero_le d0
    have hj : j < xs.length := by omega
    exact ⟨l, xs, _, xs[j], rfl, rfl, k1.seq ne hl, atI_nat (List.getElem?_eq_getElem hj), k j _ _ (List.getElem?_eq_getElem hj) hh1 k1⟩
theorem ok_l_plain {P : Program} {w : World} {K : PySem.W.Frag} {mg : Str → Option Value} {base : Heap} {φ : Fds} (T : Txt K mg φ) : FnOk P w K mg base CX0 1 (He.fAd K ("_law_plain", none)) φ.l_plain p_l_plain sp_plain := by
  refine T.f_l_plain.ok sc_l_plain (fun vs H Q E h => ?_) (fun cdv A outer s H vs Q E hr h => ?_)
  · obtain ⟨a, b, k, rfl, hb, sa, sb, k0, k1, kk⟩ := h; rfl
  · obtain ⟨a, b, k, rfl, hb, sa, sb, k0, k1, kk⟩ := h
    refine ⟨_, PSs.nox (pss_cons (ps_par (i := 2) (j := 3) rfl sc_l_plain.nd rfl rfl (by decide) rfl rfl (pa_cons (pe_callB (id := "abs") call_abs (by rfl) T.z_abs (by decide +kernel) (pa_cons (pv 0) pa_nil)) (pa_cons (pv 1) pa_nil)) (by rfl))
      (pss_cons (ps_while PassesOwn.never (pt_cmpR op_gt (pv 3) pe_int (nomark _))
      (pss_one (ps_par (i := 2) (j := 3) rfl sc_l_plain.nd rfl rfl (by decide) rfl rfl (pa_cons (pv 3) (pa_cons (pe_op op_mod (pv 2) (pv 3)) pa_nil)) (by rfl))))
      (pss_one (ps_ret (pe_tup (pa_cons (pe_op op_fd (pv 0) (pv 2)) (pa_cons (pe_op op_fd (pv 1) (pv 2)) pa_nil))))))), ?_⟩
    refine ⟨_, rfl, _, rfl, _, rfl, _, _, rfl, ?_⟩
    refine while_by (fun σ H' => H' = H ∧ ∃ g s : Int, σ = [some (.int a), some (.int b), some (.int g), some (.int s)] ∧ 0 ≤ g ∧ 0 ≤ s ∧ Int.gcd g s = Int.gcd a b)
      (fun σ _ => match σ with | [_, _, _, some (.int s)] => s.toNat | _ => 0) ⟨rfl, _, _, rfl, ?_, ?_, ?_⟩ ?_ (fun σ H Q Q' hQ ⟨v, e1, i, j, e2, e3, c, e4, q⟩ => ⟨v, e1, i, j, e2, e3, c, e4, hQ _ _ q⟩)
    · split <;> omega
    · omega
    · have e1 : (if a < 0 then -a else a) = (a.natAbs : Int) := by split <;> omega
      rw [e1]
      show Nat.gcd (a.natAbs : Int).natAbs b.natAbs = _
      rw [Int.natAbs_natCast]
      rfl
    rintro σ H' ⟨rfl, g, s, rfl, hg, hs, e⟩
    refine ⟨_, rfl, _, _, rfl, rfl, _, rfl, ?_⟩
    refine ite2 (fun c => ?_) (fun c => ?_)
    · have c0 : 0 < s := of_decide_eq_true c
      refine ⟨_, rfl, _, rfl, _, rfl, _, _, rfl, rfl, c0, _, _, rfl, ?_⟩
      refine ⟨⟨rfl, s, g % s, rfl, hs, Int.emod_nonneg _ (by omega), (gcd_step c0 hg).trans e⟩, ?_⟩
      show (g % s).toNat < s.toNat
      have h1 := Int.emod_nonneg g (show s ≠ 0 by omega)
      have h2 := Int.emod_lt_of_pos g c0
      omega
    · have c0 : ¬ 0 < s := fun z => c (decide_eq_true z)
      have s0 : s = 0 := by omega
      subst s0
      have eg : g = (Int.gcd a b : Int) := by
        rw [← e, Int.gcd_zero_right]
        omega
      subst eg
      have es : (Int.gcd a b : Int) = sgn b * (Int.gcd a b : Int) := by
        unfold sgn
        rw [if_pos hb, Int.one_mul]
      obtain ⟨c0, cl, fr⟩ := fr_mk (a := a) (b := b) (by omega) es
      have c9 : (Int.gcd a b : Int).natAbs.log2 < 9000 := (sb.le cl).log k0 (by omega)
      refine ⟨_, rfl, _, rfl, _, _, rfl, rfl, ⟨c0, c9⟩, _, rfl, _, rfl, _, _, rfl, rfl, ⟨c0, c9⟩, by show 2 ≤ sizeLine; decide, fun p np => ?_⟩
      exact kk _ (a.fdiv (Int.gcd a b : Int), b.fdiv (Int.gcd a b : Int)) _ (same1 np) (TQ.mk upd_same fr.pos (sa.le fr.lt) (sb.le fr.lu)) ⟨fr.pos, hb, fr.eq⟩
theorem ok_l_sum {P : Program} {w : World} {K : PySem.W.Frag} {mg : Str → Option Value} {base : Heap} {φ : Fds} (T : Txt K mg φ) : FnOk P w K mg base CX0 2 (He.fAd K ("_law_sum", none)) φ.l_sum p_l_sum sp_sum := by
  obtain ⟨_, B0v, B0⟩ := b_l_plain_2 T
  refine T.f_l_sum.ok sc_l_sum (fun vs H Q E h => ?_) (fun cdv A outer s H vs Q E hr h => ?_)
  · obtain ⟨v, w, k, j, x, y, rfl, ⟨p, rfl, hp, px, x1, x2⟩, ⟨q, rfl, hq, py, y1, y2⟩, k0, j0, l, kk⟩ := h; rfl
  · obtain ⟨v, w, k, j, x, y, rfl, ⟨p, rfl, hp, px, x1, x2⟩, ⟨q, rfl, hq, py, y1, y2⟩, k0, j0, l, kk⟩ := h
    refine ⟨_, PSs.nox (pss_one (ps_ret (pe_call (ok_l_plain (K := K) T) (hr.mono (by decide)) rfl T.g_l_plain T.f_l_plain.kp B0 B0v pass0 (pa_cons (pe_op op_add (pe_op op_mulA (pe_ix (ixt (K := K)) (pv 0) pe_int (fun _ _ => rfl)) (pe_ix (ixt (K := K)) (pv 1) pe_int (fun _ _ => rfl))) (pe_op op_mulA (pe_ix (ixt (K := K)) (pv 1) pe_int (fun _ _ => rfl)) (pe_ix (ixt (K := K)) (pv 0) pe_int (fun _ _ => rfl)))) (pa_cons (pe_op op_mulA (pe_ix (ixt (K := K)) (pv 0) pe_int (fun _ _ => rfl)) (pe_ix (ixt (K := K)) (pv 1) pe_int (fun _ _ => rfl))) pa_nil))))), ?_⟩
    walk_at "w"
    refine ⟨x1.cmul y2 k0 j0 (by omega), ?_⟩
    walk_at "w"
    refine ⟨y1.cmul x2 j0 k0 (by omega), ?_⟩
    walk_at "w"
    refine ⟨x2.cmul y2 k0 j0 (by omega), ?_⟩
    refine ⟨_, _, k + j + 1, rfl, Int.mul_pos px py, (x1.mul y2).add ?_, (x2.mul y2).mono (by omega), by omega, by omega, fun v z H' s t r => kk v z H' s t r⟩
    have := y1.mul x2
    rw [Nat.add_comm j k] at this
    exact this
theorem ok_l_less {P : Program} {w : World} {K : PySem.W.Frag} {mg : Str → Option Value} {base : Heap} {φ : Fds} (T : Txt K mg φ) : FnOk P w K mg base CX0 1 (He.fAd K ("_law_less", none)) φ.l_less p_l_less sp_less := by
  refine T.f_l_less.ok sc_l_less (fun vs H Q E h => ?_) (fun cdv A outer s H vs Q E hr h => ?_)
  · obtain ⟨v, w, k, j, x, y, rfl, ⟨p, rfl, hp, px, x1, x2⟩, ⟨q, rfl, hq, py, y1, y2⟩, k0, j0, l, kk⟩ := h; rfl
  · obtain ⟨v, w, k, j, x, y, rfl, ⟨p, rfl, hp, px, x1, x2⟩, ⟨q, rfl, hq, py, y1, y2⟩, k0, j0, l, kk⟩ := h
    refine ⟨_, PSs.nox (pss_one (ps_ret (pe_cmpR op_lt (pe_op op_mulA (pe_ix (ixt (K := K)) (pv 0) pe_int (fun _ _ => rfl)) (pe_ix (ixt (K := K)) (pv 1) pe_int (fun _ _ => rfl))) (pe_op op_mulA (pe_ix (ixt (K := K)) (pv 1) pe_int (fun _ _ => rfl)) (pe_ix (ixt (K := K)) (pv 0) pe_int (fun _ _ => rfl))) (nomark _)))), ?_⟩
    walk_at "w"
    refine ⟨x1.cmul y2 k0 j0 (by omega), ?_⟩
    walk_at "w"
    refine ⟨y1.cmul x2 j0 k0 (by omega), ?_⟩
    walk_at "w"
    exact kk
theorem ok_l_measures {P : Program} {w : World} {K : PySem.W.Frag} {mg : Str → Option Value} {base : Heap} {φ : Fds} (T : Txt K mg φ) : FnOk P w K mg base CX0 4 (He.fAd K ("_law_measures", none)) φ.l_measures p_l_measures (sp_meass K (He.ga K "Measure")) := by
  obtain ⟨_, B0v, B0⟩ := b_Measure_init_3 T
  refine T.f_l_measures.ok sc_l_measures (fun vs H Q E h => ?_) (fun cdv A outer s H vs Q E hr h => ?_)
  · obtain ⟨p, k, us, zs, rfl, hq, hm, k0, k1, l1, kk⟩ := h; rfl
  · obtain ⟨p, k, us, zs, rfl, hq, hm, k0, k1, l1, kk⟩ := h
    refine ⟨_, PSs.nox (pss_one (ps_ret (pe_callTy (T := "tuple") (tupleL (K := K)) (by rfl) T.z_tuple (by decide +kernel) (pa_cons (pe_lc (own := [("_law_top", 1), ("_law_bottom", 2)]) (g := gTup K 2 (gCons (gName 1) (gCons (gName 2) (gNil)))) rfl sc_l_measures.nd (pi_seq (pv 0)) (blkOk_by (own := [("_law_top", 1), ("_law_bottom", 2)]) (N := N_l_measures) (sc := (defScope s_l_measures)) (by decide +kernel)) (fun _ _ _ _ _ => (pg_tup rfl (pgs_cons (pg_name (i := 1) sc_l_measures.nd rfl (Or.inl rfl)) (pgs_cons (pg_name (i := 2) sc_l_measures.nd rfl (Or.inl rfl)) pgs_nil)))) (fun _ _ _ _ _ => pts_nil) (fun _ _ _ _ _ => (pe_make T.mk_Measure (ok_Measure_init (K := K) T) (hr.mono (by decide)) rfl T.g_Measure B0 B0v pass0 (pa_cons (pv 1) (pa_cons (pv 2) pa_nil))))) pa_nil)))), ?_⟩
    have el : us.length = zs.length := hm.len
    have body : ∀ (i : Nat) (x : V) (H1 : Hp) (N : VK) (M : Hp → Prop), us[i]? = some x → Same H H1 → (∀ y H4, Same H1 H4 → (∃ q z, y = V.ref q ∧ zs[i]? = some z ∧ QAt (He.ga K "Measure") H4 q k z) → N y H4) → ∃ (q : Addr) (z : Q2), x = .ref q ∧ H1 q = some (.tup [.int z.1, .int z.2]) ∧ zs[i]? = some z ∧ 0 < z.2 ∧ Sz k z.1 ∧ Sz k z.2 := fun i x H1 N M hx s1 hN => by
      obtain ⟨z, hz, t⟩ := (hm.same s1).of hx
      obtain ⟨q, e, h2, h3, h4, h5⟩ := t
      exact ⟨q, z, e, h2, hz, h3, h4, h5⟩
    have fin : ∀ (D : Addr) (H1 : Hp) (ys : List V), Same H H1 → H1 D = some (.lst ys) → ys.length = us.length → (∀ (i : Nat) (y : V), ys[i]? = some y → ∃ q z, y = V.ref q ∧ zs[i]? = some z ∧ QAt (He.ga K "Measure") H1 q k z) → ∀ T2, H1 T2 = none → Q (.ref T2) (upd H1 T2 (.tup ys)) := fun D H1 ys s1 hD ly hy T2 nT2 => by
      refine kk T2 ys _ (s1.up nT2) upd_same ⟨by omega, fun i v z h1 h2 => ?_⟩
      obtain ⟨q, z', e1, e2, e3⟩ := hy i v h1
      rw [h2] at e2
      cases e2
      exact ⟨q, e1, e3.same (same1 nT2)⟩
    rcases hq with hq | hq
    · refine ⟨_, rfl, p, rfl, .inl ⟨⟨_, hq⟩, fun D nD => ?_⟩⟩
      refine lcr (n := us.length) walk_list (fun _ _ g s => s.seq g) (fun i H v => ∃ q z, v = .ref q ∧ zs[i]? = some z ∧ QAt (He.ga K "Measure") H q k z) (fun i H H' y ⟨q, m, e1, e2, e3⟩ n => ⟨q, m, e1, e2, e3.nl n⟩) (szs (by omega)) hq nD (fun i x H1 H2 N M hi s1 y hN => ?_) (fun H1 ys s1 hD ly hy => ?_)
      · obtain ⟨rfl, hx⟩ := y
        obtain ⟨q, z, rfl, h2, hz, h3, h4, h5⟩ := body i x _ N M hx s1 hN
        refine ⟨q, _, rfl, SqT.of h2, rfl, _, _, rfl, _, _, rfl, rfl, rfl, yesT ?_⟩
        walk_at "w"
        exact q_made (k := k) h3 h4 h5 k0 (by omega) fun q2 H3 s3 R => hN _ _ s3 ⟨q2, z, rfl, hz, R⟩
      · walk_at "w"
        exact fin D H1 ys s1 hD ly hy
    · refine ⟨_, rfl, p, rfl, .inr ⟨⟨_, hq⟩, fun D nD => ?_⟩⟩
      refine lcr (n := us.length) walk_tup (fun _ _ g s => s.sqt g) (fun i H v => ∃ q z, v = .ref q ∧ zs[i]? = some z ∧ QAt (He.ga K "Measure") H q k z) (fun i H H' y ⟨q, m, e1, e2, e3⟩ n => ⟨q, m, e1, e2, e3.nl n⟩) (szs (by omega)) hq nD (fun i x H1 H2 N M hi s1 y hN => ?_) (fun H1 ys s1 hD ly hy => ?_)
      · obtain ⟨rfl, hx⟩ := y
        obtain ⟨q, z, rfl, h2, hz, h3, h4, h5⟩ := body i x _ N M hx s1 hN
        refine ⟨q, _, rfl, SqT.of h2, rfl, _, _, rfl, _, _, rfl, rfl, rfl, yesT ?_⟩
        walk_at "w"
        exact q_made (k := k) h3 h4 h5 k0 (by omega) fun q2 H3 s3 R => hN _ _ s3 ⟨q2, z, rfl, hz, R⟩
      · walk_at "w"
        exact fin D H1 ys s1 hD ly hy
theorem ok_l_part {P : Program} {w : World} {K : PySem.W.Frag} {mg : Str → Option Value} {base : Heap} {φ : Fds} (T : Txt K mg φ) : FnOk P w K mg base CX0 3 (He.fAd K ("_law_part", none)) φ.l_part p_l_part sp_lpart := by
  obtain ⟨_, B0v, B0⟩ := b_l_plain_2 T
  obtain ⟨_, B1v, B1⟩ := b_l_pick_2 T
  obtain ⟨_, B2v, B2⟩ := b_l_take_2 T
  refine T.f_l_part.ok sc_l_part (fun vs H Q E h => ?_) (fun cdv A outer s H vs Q E hr h => ?_)
  · obtain ⟨h, n, rfl, hh, hn, kk⟩ := h; rfl
  · obtain ⟨h, n, rfl, hh, hn, kk⟩ := h
    refine ⟨_, PSs.nox (pss_one (ps_ret (pe_call (ok_l_plain (K := K) T) (hr.mono (by decide)) rfl T.g_l_plain T.f_l_plain.kp B0 B0v pass0 (pa_cons (pe_op op_add pe_int (pe_call (ok_l_take (K := K) T) (hr.mono (by decide)) rfl T.g_l_take T.f_l_take.kp B2 B2v pass0 (pa_cons (pv 0) (pa_cons pe_int pa_nil)))) (pa_cons (pe_call (ok_l_pick (K := K) T) (hr.mono (by decide)) rfl T.g_l_pick T.f_l_pick.kp B1 B1v pass0 (pa_cons (pv 0) (pa_cons (pe_lst (pa_cons pe_int (pa_cons pe_int (pa_cons pe_int (pa_cons pe_int (pa_cons pe_int (pa_cons pe_int (pa_cons pe_int pa_nil)))))))) pa_nil))) pa_nil))))), ?_⟩
    walk_at "w"
    intro d H1 d0 d1 hh1 k1
    walk_at "w"
    intro p1 np1
    refine ⟨h, p1, _, _, rfl, hh1.up np1, by omega, SqL.of upd_same, hh1.ne np1, by decide, by decide, fun i1 vb H2 hr1 hh2 k2 => ?_⟩
    have hb : ∃ b : Int, vb = .int b ∧ 0 < b ∧ b ≤ 1000003 := by
      have hm := List.mem_of_getElem? hr1
      simp at hm
      rcases hm with rfl | rfl | rfl | rfl | rfl | rfl <;> exact ⟨_, rfl, by decide, by decide⟩
    obtain ⟨b, rfl, b0, b1⟩ := hb
    refine ⟨1 + d, b, 20, rfl, b0, ?_, ?_, by decide, by decide, fun v z H3 s3 t r => ?_⟩
    · show (1 + d).natAbs < 2 ^ 20
      omega
    · show b.natAbs < 2 ^ 20
      omega
    exact kk v z H3 (hh2.same s3) (((k1.up np1).trans k2).trans (Kp.same s3)) t (r.pos1 (by show 0 < 1 + d; omega))
theorem ok_l_marks {P : Program} {w : World} {K : PySem.W.Frag} {mg : Str → Option Value} {base : Heap} {φ : Fds} (T : Txt K mg φ) : FnOk P w K mg base CX0 4 (He.fAd K ("_law_marks", none)) φ.l_marks p_l_marks sp_marks := by
  obtain ⟨_, B0v, B0⟩ := b_l_part_1 T
  obtain ⟨_, B1v, B1⟩ := b_l_take_2 T
  obtain ⟨_, B2v, B2⟩ := b_l_plain_2 T
  obtain ⟨_, B3v, B3⟩ := b_l_pick_2 T
  obtain ⟨_, B4v, B4⟩ := b_l_sum_2 T
  refine T.f_l_marks.ok sc_l_marks (fun vs H Q E h => ?_) (fun cdv A outer s H vs Q E hr h => ?_)
  · obtain ⟨h, n, m, rfl, hh, hn, m0, m1, kk⟩ := h; rfl
  · obtain ⟨h, n, m, rfl, hh, hn, m0, m1, kk⟩ := h
    refine ⟨_, PSs.nox (pss_cons (ps_par3 (i := 2) (j := 3) (l := 4) rfl sc_l_marks.nd rfl rfl rfl (by decide) (by decide) (by decide) rfl rfl rfl (pa_cons (pe_call (ok_l_take (K := K) T) (hr.mono (by decide)) rfl T.g_l_take T.f_l_take.kp B1 B1v pass0 (pa_cons (pv 0) (pa_cons pe_int pa_nil))) (pa_cons (pe_op op_add pe_int (pe_call (ok_l_take (K := K) T) (hr.mono (by decide)) rfl T.g_l_take T.f_l_take.kp B1 B1v pass0 (pa_cons (pv 0) (pa_cons (pv 1) pa_nil)))) (pa_cons (pe_call (ok_l_part (K := K) T) (hr.mono (by decide)) rfl T.g_l_part T.f_l_part.kp B0 B0v pass0 (pa_cons (pv 0) pa_nil)) pa_nil))) (by rfl))
      (pss_cons (ps_set (i := 5) sc_l_marks.nd rfl (Or.inl rfl) (pe_lst (pa_cons (pe_call (ok_l_plain (K := K) T) (hr.mono (by decide)) rfl T.g_l_plain T.f_l_plain.kp B2 B2v pass0 (pa_cons (pe_op op_sub (pe_call (ok_l_take (K := K) T) (hr.mono (by decide)) rfl T.g_l_take T.f_l_take.kp B1 B1v pass0 (pa_cons (pv 0) (pa_cons pe_int pa_nil))) pe_int) (pa_cons (pe_call (ok_l_pick (K := K) T) (hr.mono (by decide)) rfl T.g_l_pick T.f_l_pick.kp B3 B3v pass0 (pa_cons (pv 0) (pa_cons (pe_lst (pa_cons pe_int (pa_cons pe_int (pa_cons pe_int (pa_cons pe_int pa_nil))))) pa_nil))) pa_nil))) pa_nil)))
      (pss_cons (ps_for PassesOwn.never rfl (pi_range1 rfl T.z_range (pa_cons (pe_op op_sub (pv 3) pe_int) pa_nil)) (pg_name (i := 6) sc_l_marks.nd rfl (Or.inl rfl))
      (pss_one (ps_expr (pe_bm PySem.F.plainAttrs_list PySem.F.slot_list_append PySem.F.type_list_append mt_append (pv 5) (pa_cons (pe_call (ok_l_sum (K := K) T) (hr.mono (by decide)) rfl T.g_l_sum T.f_l_sum.kp B4 B4v pass0 (pa_cons (pe_ix (ixl (K := K)) (pv 5) (pe_un un_neg pe_int) (fun _ _ => rfl)) (pa_cons (pe_ifExp (pt_cmpR op_eq (pv 2) pe_int (nomark _)) (pv 4) (pe_call (ok_l_part (K := K) T) (hr.mono (by decide)) rfl T.g_l_part T.f_l_part.kp B0 B0v pass0 (pa_cons (pv 0) pa_nil))) pa_nil))) pa_nil)))))
      (pss_one (ps_ret (pv 5)))))), ?_⟩
    walk_at "w"
    intro al H1 al0 al1 hh1 k1
    walk_at "w"
    intro mn H2 mn0 mn1 hh2 k2
    obtain ⟨mn, rfl⟩ := Int.eq_ofNat_of_zero_le mn0
    walk_at "w"
    intro vs zs H3 hh3 k3 ts zs0
    walk_at "w"
    intro d H4 d0 d1 hh4 k4
    walk_at "w"
    intro p1 np1
    refine ⟨h, p1, _, _, rfl, hh4.up np1, by omega, SqL.of upd_same, hh4.ne np1, by decide, by decide, fun i1 vb H5 hr1 hh5 k5 => ?_⟩
    have hb : ∃ b : Int, vb = .int b ∧ 0 < b ∧ b ≤ 12 := by
      have hm := List.mem_of_getElem? hr1
      simp at hm
      rcases hm with rfl | rfl | rfl | rfl <;> exact ⟨_, rfl, by decide, by decide⟩
    obtain ⟨b, rfl, b0, b1⟩ := hb
    refine ⟨_, b, 12, rfl, b0, ?_, ?_, by decide, by decide, fun v z H6 s6 t r => ?_⟩
    · show (d - 40).natAbs < 2 ^ 12
      omega
    · show b.natAbs < 2 ^ 12
      omega
    have kA := ((((k1.trans k2).trans k3).trans (k4.up np1)).trans k5).trans (Kp.same s6 : Kp h _ _)
    replace ts := ((((ts.kp hh3 k4).same (same1 np1)).kp (hh4.up np1) k5).same s6)
    have hhA := hh5.same s6
    clear hh1 hh2 hh3 hh4 hh5 k1 k2 k3 k4 k5 hr1 np1 s6
    walk_at "w"
    intro l nl
    have nlh := hhA.ne nl
    have nlH : H l = none := kA.fresh nl nlh
    replace kA := kA.up (u := .lst [v]) nl
    replace ts := ts.same (same1 (u := .lst [v]) nl)
    replace t := t.same (same1 (u := .lst [v]) nl)
    replace hhA := hhA.up (u := .lst [v]) nl
    have hlA : upd H6 l (.lst [v]) l = some (.lst [v]) := upd_same
    generalize upd H6 l (.lst [v]) = HA at *
    walk_at "w"
    refine for_range (fun i σ H' => ∃ (us : List V) (qs : List Q2) (vk : Option V), σ = [some (.ref h), some (.int m), some (.int al), some (.int (1 + (mn : Int))), some vs, some (.ref l), vk] ∧ H' l = some (.lst us) ∧ us.length = i + 1 ∧ HandAt H' h (n + 6 + 2 * i) ∧ Kp h H H' ∧ TQ H' vs 20 zs ∧ Tqs H' (12 + 21 * i) us qs ∧ RiseQ qs) ?_ ?_ ?_
    · exact ⟨[v], [z], _, rfl, hlA, rfl, hhA, kA, ts, Tqs.one t, fun i a b h1 h2 => by simp at h2⟩
    · rintro i σ H7 hi ⟨us, qs, vk, rfl, hl, lus, hh7, k7, ts7, tq, ri⟩
      have hi2 : i < 24 := by omega
      have lq := tq.len
      obtain ⟨x, hx⟩ := ge2 (zs := qs) (n := i) (by omega)
      obtain ⟨vx, hvx, tx⟩ := tq.at hx
      have last : ∀ (vy : V) (y : Q2) (H8 : Hp), Nl H7 H8 → H8 l = some (.lst us) → HandAt H8 h (n + 6 + 2 * i + 2) → Kp h H H8 → TQ H8 vy 20 y → 0 < y.1 → TQ H8 vx (12 + 21 * i) x → Tqs H8 (12 + 21 * i) us qs → TQ H8 vs 20 zs → ∀ (v9 : V) (z9 : Q2) (H9 : Hp), Same H8 H9 → TQ H9 v9 (12 + 21 * i + 20 + 1) z9 → Re z9 (qadd x y) →
          (∃ (us' : List V) (qs' : List Q2) (vk' : Option V), [some (.ref h), some (.int m), some (.int al), some (.int (1 + (mn : Int))), some vs, some (.ref l), some (.int (0 + (i : Int)))] = [some (.ref h), some (.int m), some (.int al), some (.int (1 + (mn : Int))), some vs, some (.ref l), vk'] ∧ upd H9 l (.lst (us ++ [v9])) l = some (.lst us') ∧ us'.length = i + 1 + 1 ∧ HandAt (upd H9 l (.lst (us ++ [v9]))) h (n + 6 + 2 * (i + 1)) ∧ Kp h H (upd H9 l (.lst (us ++ [v9]))) ∧ TQ (upd H9 l (.lst (us ++ [v9]))) vs 20 zs ∧ Tqs (upd H9 l (.lst (us ++ [v9]))) (12 + 21 * (i + 1)) us' qs' ∧ RiseQ qs') := by
        intro vy y H8 _ hl8 hh8 k8 ty y0 tx8 tq8 ts8 v9 z9 H9 s9 t9 r9
        have pl : Nl H9 (upd H9 l (.lst (us ++ [v9]))) := Nl.put (s9 _ _ hl8)
        refine ⟨us ++ [v9], qs ++ [z9], _, rfl, upd_same, by rw [List.length_append, lus]; rfl, ((hh8.same s9).put nlh).mono (by omega), (k8.trans (Kp.same s9)).putN nlH, (ts8.same s9).nl pl, (((tq8.same s9).mono (by omega)).snoc (t9.mono (by omega))).nl pl, rise_snocQ ri fun n a ha hn => ?_⟩
        have en : n = i := by omega
        subst en
        rw [hx] at ha
        cases ha
        exact ltq_moreR tx8.pos ty.pos y0 r9
      walk_at "w"
      refine ⟨atI_end (n := i) (by omega) hvx, ?_⟩
      refine ⟨_, rfl, rfl, _, rfl, ?_⟩
      rw [dI]
      refine ite2 (fun e => ?_) (fun e => ?_)
      · refine ⟨_, rfl, vx, vs, _, _, x, zs, rfl, tx, ts7, by omega, by decide, by omega, fun v9 z9 H9 s9 t9 r9 => ?_⟩
        refine ⟨l, us, _, rfl, rfl, s9 _ _ hl, szs (by omega), ?_⟩
        exact last vs zs H7 (fun _ _ z _ => z) hl (hh7.mono (by omega)) k7 ts7 zs0 tx tq ts7 v9 z9 H9 s9 t9 r9
      · refine ⟨_, rfl, h, _, rfl, hh7, by omega, fun vy y H8 hh8 k8 ty y0 => ?_⟩
        refine ⟨vx, vy, _, _, x, y, rfl, tx.kp hh7 k8, ty, by omega, by decide, by omega, fun v9 z9 H9 s9 t9 r9 => ?_⟩
        refine ⟨l, us, _, rfl, rfl, s9 _ _ (k8 _ _ hl nlh), szs (by omega), ?_⟩
        exact last vy y H8 (fun c o e no => k8 _ _ e (hh7.apart e no)) (k8 _ _ hl nlh) hh8 (k7.trans k8) ty y0 (tx.kp hh7 k8) (tq.kp hh7 k8) (ts7.kp hh7 k8) v9 z9 H9 s9 t9 r9
    rintro σ H7 ⟨us, qs, vk, rfl, hl, lus, hh7, k7, ts7, tq, ri⟩
    have lq := tq.len
    refine ⟨_, rfl, kk l us qs H7 (hh7.mono (by omega)) k7 nlh hl (tq.mono (by omega)) (by omega) (by omega) ri⟩
theorem ok_Measure_plus {P : Program} {w : World} {K : PySem.W.Frag} {mg : Str → Option Value} {base : Heap} {φ : Fds} (T : Txt K mg φ) : FnOk P w K mg base CX0 4 (He.fAd K ("Measure", some "plus")) φ.Measure_plus p_Measure_plus (sp_bin2 (He.ga K "Measure") (fun t u t' u' => t * u' + t' * u) (fun t u t' u' => u * u')) := by
  obtain ⟨_, B0v, B0⟩ := b_Measure_init_3 T
  refine T.f_Measure_plus.ok sc_Measure_plus (fun vs H Q E h => ?_) (fun cdv A outer s H vs Q E hr h => ?_)
  · obtain ⟨p, q, t, u, t', u', rfl, ⟨dp, hp⟩, ⟨dq, hq⟩, hu, hu', st, su, st', su', sg, k⟩ := h; rfl
  · obtain ⟨p, q, t, u, t', u', rfl, ⟨dp, hp⟩, ⟨dq, hq⟩, hu, hu', st, su, st', su', sg, k⟩ := h
    refine ⟨_, PSs.nox (pss_one (ps_ret (pe_make T.mk_Measure (ok_Measure_init (K := K) T) (hr.mono (by decide)) rfl T.g_Measure B0 B0v pass0 (pa_cons (pe_op op_add (pe_op op_mulA (fldK (K := K) (pv 0) rfl) (fldK (K := K) (pv 1) rfl)) (pe_op op_mulA (fldK (K := K) (pv 1) rfl) (fldK (K := K) (pv 0) rfl))) (pa_cons (pe_op op_mulA (fldK (K := K) (pv 0) rfl) (fldK (K := K) (pv 1) rfl)) pa_nil))))), ?_⟩
    refine ⟨_, rfl, _, _, _, _, _, rfl, hp, T.cl_Measure, T.na_Measure_top, mf_top _ _, _, rfl, _, _, _, _, _, rfl, hq, T.cl_Measure, T.na_Measure_bottom, mf_bottom _ _, _, _, rfl, rfl, st.cmul su' (by decide) (by decide) (by decide), _, rfl, _, _, _, _, _, rfl, hq, T.cl_Measure, T.na_Measure_top, mf_top _ _, _, rfl, _, _, _, _, _, rfl, hp, T.cl_Measure, T.na_Measure_bottom, mf_bottom _ _, _, _, rfl, rfl, st'.cmul su (by decide) (by decide) (by decide), _, _, rfl, rfl, _, rfl, _, _, _, _, _, rfl, hp, T.cl_Measure, T.na_Measure_bottom, mf_bottom _ _, _, rfl, _, _, _, _, _, rfl, hq, T.cl_Measure, T.na_Measure_bottom, mf_bottom _ _, _, _, rfl, rfl, su.cmul su' (by decide) (by decide) (by decide), ?_⟩
    intro x dx nx nd ne
    refine ⟨x, dx, _, _, rfl, upd_same, Int.mul_ne_zero (by omega) (by omega), sg.log (by decide) (by decide), fun t2 u2 H' fr hx kp => ⟨rfl, ?_⟩⟩
    exact k x t2 u2 H' nx (made_same nx nd kp) ⟨_, hx⟩ fr
theorem ok_Measure_minus {P : Program} {w : World} {K : PySem.W.Frag} {mg : Str → Option Value} {base : Heap} {φ : Fds} (T : Txt K mg φ) : FnOk P w K mg base CX0 4 (He.fAd K ("Measure", some "minus")) φ.Measure_minus p_Measure_minus (sp_bin2 (He.ga K "Measure") (fun t u t' u' => t * u' - t' * u) (fun t u t' u' => u * u')) := by
  obtain ⟨_, B0v, B0⟩ := b_Measure_init_3 T
  refine T.f_Measure_minus.ok sc_Measure_minus (fun vs H Q E h => ?_) (fun cdv A outer s H vs Q E hr h => ?_)
  · obtain ⟨p, q, t, u, t', u', rfl, ⟨dp, hp⟩, ⟨dq, hq⟩, hu, hu', st, su, st', su', sg, k⟩ := h; rfl
  · obtain ⟨p, q, t, u, t', u', rfl, ⟨dp, hp⟩, ⟨dq, hq⟩, hu, hu', st, su, st', su', sg, k⟩ := h
    refine ⟨_, PSs.nox (pss_one (ps_ret (pe_make T.mk_Measure (ok_Measure_init (K := K) T) (hr.mono (by decide)) rfl T.g_Measure B0 B0v pass0 (pa_cons (pe_op op_sub (pe_op op_mulA (fldK (K := K) (pv 0) rfl) (fldK (K := K) (pv 1) rfl)) (pe_op op_mulA (fldK (K := K) (pv 1) rfl) (fldK (K := K) (pv 0) rfl))) (pa_cons (pe_op op_mulA (fldK (K := K) (pv 0) rfl) (fldK (K := K) (pv 1) rfl)) pa_nil))))), ?_⟩
    refine ⟨_, rfl, _, _, _, _, _, rfl, hp, T.cl_Measure, T.na_Measure_top, mf_top _ _, _, rfl, _, _, _, _, _, rfl, hq, T.cl_Measure, T.na_Measure_bottom, mf_bottom _ _, _, _, rfl, rfl, st.cmul su' (by decide) (by decide) (by decide), _, rfl, _, _, _, _, _, rfl, hq, T.cl_Measure, T.na_Measure_top, mf_top _ _, _, rfl, _, _, _, _, _, rfl, hp, T.cl_Measure, T.na_Measure_bottom, mf_bottom _ _, _, _, rfl, rfl, st'.cmul su (by decide) (by decide) (by decide), _, _, rfl, rfl, _, rfl, _, _, _, _, _, rfl, hp, T.cl_Measure, T.na_Measure_bottom, mf_bottom _ _, _, rfl, _, _, _, _, _, rfl, hq, T.cl_Measure, T.na_Measure_bottom, mf_bottom _ _, _, _, rfl, rfl, su.cmul su' (by decide) (by decide) (by decide), ?_⟩
    intro x dx nx nd ne
    refine ⟨x, dx, _, _, rfl, upd_same, Int.mul_ne_zero (by omega) (by omega), sg.log (by decide) (by decide), fun t2 u2 H' fr hx kp => ⟨rfl, ?_⟩⟩
    exact k x t2 u2 H' nx (made_same nx nd kp) ⟨_, hx⟩ fr
theorem ok_measure_or {P : Program} {w : World} {K : PySem.W.Frag} {mg : Str → Option Value} {base : Heap} {φ : Fds} (T : Txt K mg φ) : FnOk P w K mg base CX0 4 (He.fAd K ("measure_or", none)) φ.measure_or p_measure_or (sp_mor (He.ga K "Measure")) := by
  obtain ⟨_, B0v, B0⟩ := b_Measure_init_2 T
  refine T.f_measure_or.ok sc_measure_or (fun vs H Q E h => ?_) (fun cdv A outer s H vs Q E hr h => ?_)
  · obtain ⟨v, k, e, rfl, he, k0, k1, kk⟩ := h; rfl
  · obtain ⟨v, k, e, rfl, he, k0, k1, kk⟩ := h
    refine ⟨_, PSs.nox (pss_cons (ps_if (pt_cmpR op_isN (pv 0) pe_non (nomark _))
      (pss_one (ps_ret (pe_make T.mk_Measure (ok_Measure_init (K := K) T) (hr.mono (by decide)) rfl T.g_Measure B0 B0v pass0 (pa_cons (pv 1) pa_nil))))
      pss_nil)
      (pss_one (ps_ret (pv 0)))), ?_⟩
    cases e with
    | none =>
      cases he
      walk_at "w"
      refine q_made (k := k) (by decide) ?_ ?_ k0 (by omega) fun q H1 s1 R => kk q H1 s1 R
      · show (0 : Int).natAbs < 2 ^ k
        exact Nat.two_pow_pos k
      · show (1 : Int).natAbs < 2 ^ k
        exact Nat.one_lt_two_pow (by omega)
    | some z =>
      obtain ⟨p, rfl, qz⟩ := he
      walk_at "w"
      exact kk p H (Same.refl _) qz
theorem ok_fits {P : Program} {w : World} {K : PySem.W.Frag} {mg : Str → Option Value} {base : Heap} {φ : Fds} (T : Txt K mg φ) : FnOk P w K mg base CX0 5 (He.fAd K ("fits", none)) φ.fits p_fits (sp_fits K (He.ga K "Measure") (He.ga K "Ladder")) := by
  obtain ⟨_, B0v, B0⟩ := b_Measure_minus_2 T
  obtain ⟨_, B1v, B1⟩ := b_measure_or_2 T
  obtain ⟨_, B2v, B2⟩ := b_Measure_plus_2 T
  obtain ⟨_, B3v, B3⟩ := b_Measure_is_below_3 T
  refine T.f_fits.ok sc_fits (fun vs H Q E h => ?_) (fun cdv A outer s H vs Q E hr h => ?_)
  · obtain ⟨p, q, s, t, k, j, zs, r, lo, hi, x, y, e, rfl, hL, qx, qy, qt, k0, j0, k1, j1, kk⟩ := h; rfl
  · obtain ⟨p, q, s, t, k, j, zs, r, lo, hi, x, y, e, rfl, hL, qx, qy, qt, k0, j0, k1, j1, kk⟩ := h
    refine ⟨_, PSs.nox (pss_cons (ps_set (i := 4) sc_fits.nd rfl (Or.inr rfl) (pe_meth (pv 1) T.cl_Measure T.me_Measure_minus (ok_Measure_minus (K := K) T) (hr.mono (by decide)) B0 B0v pass0 (pa_cons (pe_call (ok_measure_or (K := K) T) (hr.mono (by decide)) rfl T.g_measure_or T.f_measure_or.kp B1 B1v pass0 (pa_cons (pv 3) (pa_cons pe_int pa_nil))) pa_nil)))
      (pss_cons (ps_set (i := 5) sc_fits.nd rfl (Or.inr rfl) (pe_meth (pv 1) T.cl_Measure T.me_Measure_plus (ok_Measure_plus (K := K) T) (hr.mono (by decide)) B2 B2v pass0 (pa_cons (pv 2) pa_nil)))
      (pss_one (ps_ret (pe_callTy (T := "tuple") (tupleL (K := K)) (by rfl) T.z_tuple (by decide +kernel) (pa_cons (pe_lc (own := [("number", 6), ("mark", 7)]) (g := gTup K 2 (gCons (gName 6) (gCons (gName 7) (gNil)))) rfl sc_fits.nd (pi_enumT (by rfl) T.z_enumerate (pa_cons (fldK (K := K) (pv 0) rfl) pa_nil)) (blkOk_by (own := [("number", 6), ("mark", 7)]) (N := N_fits) (sc := (defScope s_fits)) (by decide +kernel)) (fun _ _ _ _ _ => (pg_tup rfl (pgs_cons (pg_name (i := 6) sc_fits.nd rfl (Or.inl rfl)) (pgs_cons (pg_name (i := 7) sc_fits.nd rfl (Or.inl rfl)) pgs_nil)))) (fun _ _ _ _ _ => (pts_one (PW.pt (pw_and (pt_val (pe_meth (pv 4) T.cl_Measure T.me_Measure_is_below (ok_Measure_is_below (K := K) T) (hr.mono (by decide)) B3 B3v pass0 (pa_cons (pv 7) (pa_cons pe_bl pa_nil)))) (pw_and1 (pt_val (pe_meth (pv 7) T.cl_Measure T.me_Measure_is_below (ok_Measure_is_below (K := K) T) (hr.mono (by decide)) B3 B3v pass0 (pa_cons (pv 5) (pa_cons pe_bl pa_nil))))))))) (fun _ _ _ _ _ => (pv 6))) pa_nil)))))), ?_⟩
    have cl_Ladder := T.cl_Ladder
    have na_Ladder_marks := T.na_Ladder_marks
    have na_Ladder_rule := T.na_Ladder_rule
    have na_Ladder_least := T.na_Ladder_least
    have na_Ladder_most := T.na_Ladder_most
    
    have hL0 := hL
    obtain ⟨⟨dx, T', ps, l, h, hp, hT, hm, ql, qh⟩, l0, l1, hri, hru, hsp⟩ := hL
    have el : ps.length = zs.length := hm.len
    walk_at "w"
    refine ⟨e, rfl, qt, j0, by omega, fun pt H1 s1 qt1 => ?_⟩
    have qx1 := qx.same s1
    walk_at "w"
    intro m1 H2 s2 qm1
    have qx2 := qx1.same s2
    have qy2 := qy.same (s1.trans s2)
    refine ⟨_, rfl, meth_q qx2 (by decide +kernel) (by decide +kernel) ⟨_, rfl, q_addT qx2 qy2 (by omega) j0 j0 fun m2 H3 s3 qm2 => ?_⟩⟩
    have s13 := (s1.trans s2).trans s3
    have qm13 := qm1.same s3
    have hp3 := s13 _ _ hp
    have hT3 := s13.sqt hT
    have hm3 := hm.same s13
    walk_at "w"
    intro D nD
    refine lcz (n := ps.length) walk_enumT (fun _ _ g s => s.sqt g) (oIdx ps.length (fitQ zs x y (e.getD (0, 1)))) (oIdx_len _ _) (szs (by omega)) hT3 nD (fun i v H4 H5 o N M hi ho s4 yy hN hM => ?_) (fun H4 s4 hD => ?_)
    · obtain ⟨t4, a0, b0, rfl, nt, rfl, ha0, hb0⟩ := yy
      cases ha0
      obtain ⟨a, ha⟩ := ge2 (zs := zs) (n := i) (by omega)
      have eo := oIdx_get ho
      have ef : fitQ zs x y (e.getD (0, 1)) i = (leq (qsub x (e.getD (0, 1))) a && leq a (qadd x y)) := by
        unfold fitQ
        rw [ha]
      rw [ef] at eo
      replace hb0 : ps[i]? = some b0 := hb0
      obtain ⟨pm, z1, rfl, hz1, qa⟩ := (hm3.same s4).of hb0
      rw [ha] at hz1
      cases hz1
      have s5 : Same H4 (upd H4 t4 (.tup [.int (i : Int), .ref pm])) := same1 nt
      have qa5 := qa.same s5
      have qm15 := (qm13.same s4).same s5
      have qm25 := (qm2.same s4).same s5
      refine ⟨t4, _, rfl, SqT.of upd_same, rfl, _, _, rfl, _, _, rfl, rfl, rfl, ?_⟩
      walk_at "w"
      cases e1 : leq (qsub x (e.getD (0, 1))) a with
      | false =>
        have e1' : (ltq (qsub x (e.getD (0, 1))) a || eqq (qsub x (e.getD (0, 1))) a) = false := e1
        rw [e1']
        refine iteF ?_
        exact hM _ (by rw [eo, e1]; rfl) s5
      | true =>
        have e1' : (ltq (qsub x (e.getD (0, 1))) a || eqq (qsub x (e.getD (0, 1))) a) = true := e1
        rw [e1']
        refine iteT ?_
        walk_at "w"
        cases e2 : leq a (qadd x y) with
        | false =>
          have e2' : (ltq a (qadd x y) || eqq a (qadd x y)) = false := e2
          rw [e2']
          refine iteF ?_
          exact hM _ (by rw [eo, e1, e2]; rfl) s5
        | true =>
          have e2' : (ltq a (qadd x y) || eqq a (qadd x y)) = true := e2
          rw [e2']
          refine iteT ?_
          exact ⟨_, rfl, hN _ _ (by rw [eo, e1, e2]; rfl) s5⟩
    rw [oIdx_fm, el] at hD
    walk_at "w"
    intro T2 nT2
    exact kk T2 _ ((s13.trans s4).up nT2) upd_same
theorem ok_l_any_ladder {P : Program} {w : World} {K : PySem.W.Frag} {mg : Str → Option Value} {base : Heap} {φ : Fds} (T : Txt K mg φ) : FnOk P w K mg base CX0 5 (He.fAd K ("_law_any_ladder", none)) φ.l_any_ladder p_l_any_ladder (sp_anyl K (He.ga K "Measure") (He.ga K "Ladder")) := by
  obtain ⟨_, B0v, B0⟩ := b_l_pick_2 T
  obtain ⟨_, B1v, B1⟩ := b_l_sum_2 T
  obtain ⟨_, B2v, B2⟩ := b_Measure_init_3 T
  obtain ⟨_, B3v, B3⟩ := b_Ladder_init_5 T
  obtain ⟨_, B4v, B4⟩ := b_l_measures_1 T
  refine T.f_l_any_ladder.ok sc_l_any_ladder (fun vs H Q E h => ?_) (fun cdv A outer s H vs Q E hr h => ?_)
  · obtain ⟨h, l, n, k, us, zs, rfl, hh, hn, nlh, hl, tq, k0, k1, l0, l1, ri, kk⟩ := h; rfl
  · obtain ⟨h, l, n, k, us, zs, rfl, hh, hn, nlh, hl, tq, k0, k1, l0, l1, ri, kk⟩ := h
    refine ⟨_, PSs.nox (pss_cons (ps_set (i := 2) sc_l_any_ladder.nd rfl (Or.inl rfl) (pe_call (ok_l_pick (K := K) T) (hr.mono (by decide)) rfl T.g_l_pick T.f_l_pick.kp B0 B0v pass0 (pa_cons (pv 0) (pa_cons (pe_lst (pa_cons pe_str (pa_cons pe_str (pa_cons pe_str pa_nil)))) pa_nil))))
      (pss_cons (ps_par (i := 3) (j := 4) rfl sc_l_any_ladder.nd rfl rfl (by decide) rfl rfl (pa_cons (pe_call (ok_l_pick (K := K) T) (hr.mono (by decide)) rfl T.g_l_pick T.f_l_pick.kp B0 B0v pass0 (pa_cons (pv 0) (pa_cons (pe_lst (pa_cons pe_non (pa_cons (pe_ix (ixl (K := K)) (pv 1) pe_int (fun _ _ => rfl)) pa_nil))) pa_nil))) (pa_cons (pe_call (ok_l_pick (K := K) T) (hr.mono (by decide)) rfl T.g_l_pick T.f_l_pick.kp B0 B0v pass0 (pa_cons (pv 0) (pa_cons (pe_lst (pa_cons pe_non (pa_cons (pe_ix (ixl (K := K)) (pv 1) (pe_un un_neg pe_int) (fun _ _ => rfl)) (pa_cons (pe_call (ok_l_sum (K := K) T) (hr.mono (by decide)) rfl T.g_l_sum T.f_l_sum.kp B1 B1v pass0 (pa_cons (pe_ix (ixl (K := K)) (pv 1) (pe_un un_neg pe_int) (fun _ _ => rfl)) (pa_cons (pe_tup (pa_cons pe_int (pa_cons pe_int pa_nil))) pa_nil))) pa_nil)))) pa_nil))) pa_nil)) (by rfl))
      (pss_cons (ps_setLc (i := 5) (own := [("_law_one", 6)]) (g := gName 6) rfl sc_l_any_ladder.nd rfl rfl (sw_true rfl rfl rfl (by decide +kernel)) (pi_tup (pe_tup (pa_cons (pv 3) (pa_cons (pv 4) pa_nil)))) (blkOk_by (own := [("_law_one", 6)]) (N := N_l_any_ladder) (sc := (defScope s_l_any_ladder)) (by decide +kernel)) (fun _ _ _ _ _ => (pg_name (i := 6) sc_l_any_ladder.nd rfl (Or.inl rfl))) (fun _ _ _ _ _ => pts_nil) (fun _ _ _ _ _ => (pe_ifExp (pt_cmpR op_isN (pv 6) pe_non (nomark _)) pe_non (pe_make T.mk_Measure (ok_Measure_init (K := K) T) (hr.mono (by decide)) rfl T.g_Measure B2 B2v pass0 (pa_cons (pe_ix (ixt (K := K)) (pv 6) pe_int (fun _ _ => rfl)) (pa_cons (pe_ix (ixt (K := K)) (pv 6) pe_int (fun _ _ => rfl)) pa_nil))))))
      (pss_one (ps_ret (pe_make T.mk_Ladder (ok_Ladder_init (K := K) T) (hr.mono (by decide)) rfl T.g_Ladder B3 B3v pass0 (pa_cons (pe_call (ok_l_measures (K := K) T) (hr.mono (by decide)) rfl T.g_l_measures T.f_l_measures.kp B4 B4v pass0 (pa_cons (pv 1) pa_nil)) (pa_cons (pv 2) (pa_cons (pe_ix (ixl (K := K)) (pv 5) pe_int (fun _ _ => rfl)) (pa_cons (pe_ix (ixl (K := K)) (pv 5) pe_int (fun _ _ => rfl)) pa_nil)))))))))), ?_⟩
    have lq := tq.len
    walk_at "w"
    intro p1 np1
    refine ⟨h, p1, n, _, rfl, hh.up np1, by omega, SqL.of upd_same, hh.ne np1, by decide, by decide, fun i1 vr H1 hr1 hh1 k1' => ?_⟩
    have hru : ∃ r : Str, vr = .str r ∧ IsRule r := by
      have hm := List.mem_of_getElem? hr1
      simp at hm
      rcases hm with rfl | rfl | rfl
      · exact ⟨_, rfl, .inl rfl⟩
      · exact ⟨_, rfl, .inr (.inl rfl)⟩
      · exact ⟨_, rfl, .inr (.inr rfl)⟩
    obtain ⟨r, rfl, hru⟩ := hru
    have kA := ((Kp.refl h H).up (u := .lst [V.str "up", V.str "down", V.str "near"]) np1).trans k1'
    obtain ⟨z0, hz0⟩ := ge2 (zs := zs) (n := 0) l0
    obtain ⟨z1, hz1⟩ := ge2 (zs := zs) (n := zs.length - 1) (by omega)
    obtain ⟨v0, hv0, _⟩ := tq.at hz0
    obtain ⟨v1, hv1, _⟩ := tq.at hz1
    have hl1 := kA _ _ hl nlh
    replace tq := tq.kp hh kA
    have t0 := tq.all 0 v0 z0 hv0 hz0
    have t1 := tq.all _ v1 z1 hv1 hz1
    walk_at "w"
    intro p2 np2
    refine ⟨h, p2, _, _, rfl, hh1.up np2, by omega, SqL.of upd_same, hh1.ne np2, Nat.le_of_ble_eq_true rfl, Nat.le_of_ble_eq_true rfl, fun i2 vl H2 hr2 hh2 k2 => ?_⟩
    have kB := (k2.trans (Kp.refl _ _) : Kp h _ H2)
    have kC := (kA.up (u := .lst [V.non, v0]) np2).trans k2
    have hl2 := k2 _ _ (up1 np2 hl1) nlh
    have tqB := (tq.same (same1 (u := .lst [V.non, v0]) np2)).kp (hh1.up np2) k2
    have t0B := (t0.same (same1 (u := .lst [V.non, v0]) np2)).kp (hh1.up np2) k2
    have t1B := (t1.same (same1 (u := .lst [V.non, v0]) np2)).kp (hh1.up np2) k2
    have hvl : vl = .non ∨ vl = v0 := by
      have hm := List.mem_of_getElem? hr2
      simpa using hm
    walk_at "w"
    refine ⟨atI_end (n := zs.length - 1) (by omega) hv1, ?_⟩
    walk_at "w"
    refine ⟨atI_end (n := zs.length - 1) (by omega) hv1, ?_⟩
    walk_at "w"
    intro p3 np3
    have t1C := t1B.same (same1 (u := .tup [V.int 1, V.int 2]) np3)
    refine ⟨v1, .ref p3, k, 3, z1, (1, 2), rfl, t1C, TQ.mk upd_same (by decide) (by decide) (by decide), k0, by decide, by omega, fun v3 z3 H3 s3 t3 r3 => ?_⟩
    have s23 : Same H2 H3 := (same1 np3 : Same H2 _).trans s3
    walk_at "w"
    intro p4 np4
    have s24 := s23.up (u := .lst [V.non, v1, v3]) np4
    refine ⟨h, p4, _, _, rfl, (hh2.same s23).up np4, by omega, SqL.of upd_same, (hh2.same s23).ne np4, Nat.le_of_ble_eq_true rfl, Nat.le_of_ble_eq_true rfl, fun i4 vh H4 hr4 hh4 k4 => ?_⟩
    have kD := (kC.trans (Kp.same s24)).trans k4
    have hl4 := k4 _ _ (s24 _ _ hl2) nlh
    have tqD := (tqB.same s24).kp ((hh2.same s23).up np4) k4
    have t0D := (t0B.same s24).kp ((hh2.same s23).up np4) k4
    have t1D := (t1B.same s24).kp ((hh2.same s23).up np4) k4
    have t3D := (t3.same (same1 (u := .lst [V.non, v1, v3]) np4)).kp ((hh2.same s23).up np4) k4
    have hvh : vh = .non ∨ vh = v1 ∨ vh = v3 := by
      have hm := List.mem_of_getElem? hr4
      simpa using hm
    clear hr1 hr2 hr4
    have le01 : ltq z1 z0 = false := rise_ends ri tqD.posL hz0 hz1
    have lt13 : ltq z1 z3 = true := ltq_moreR t1D.pos (by decide) (by decide) r3
    have hlo : ∃ lo : Option Q2, (lo = none ∨ lo = some z0) ∧ TOq H4 (k + 4) vl lo := by
      rcases hvl with rfl | rfl
      · exact ⟨none, .inl rfl, rfl⟩
      · exact ⟨some z0, .inr rfl, t0D.mono (by omega)⟩
    have hhi : ∃ hi : Option Q2, (hi = none ∨ hi = some z1 ∨ hi = some z3) ∧ TOq H4 (k + 4) vh hi := by
      rcases hvh with rfl | rfl | rfl
      · exact ⟨none, .inl rfl, rfl⟩
      · exact ⟨some z1, .inr (.inl rfl), t1D.mono (by omega)⟩
      · exact ⟨some z3, .inr (.inr rfl), t3D.mono (by omega)⟩
    obtain ⟨lo, elo, tlo⟩ := hlo
    obtain ⟨hi, ehi, thi⟩ := hhi
    have span : spanB lo hi = true := by
      rcases elo with rfl | rfl
      · cases hi <;> rfl
      · rcases ehi with rfl | rfl | rfl
        · rfl
        · show (!ltq z1 z0) = true
          rw [le01]; rfl
        · show (!ltq z3 z0) = true
          have := ltq_notlt t1D.pos t3D.pos t0D.pos le01 lt13
          rw [this]; rfl
    walk_at "w"
    intro p5 np5
    refine ⟨p5, rfl, ⟨_, SqT.of upd_same⟩, fun D nD => ?_⟩
    have s45 : Same H4 (upd H4 p5 (.tup [vl, vh])) := same1 np5
    refine lcr (n := [vl, vh].length) walk_tup (fun _ _ g s => s.sqt g) (fun i H v => QO (He.ga K "Measure") H (k + 4) v (if i = 0 then lo else hi)) (fun i H H' y q nl => QO.nl nl q) (szs (Nat.le_of_ble_eq_true rfl)) (SqT.of upd_same) nD (fun i x H6 H7 N M hi' s6 y hN => ?_) (fun H6 ys s6 hD ly hy => ?_)
    · obtain ⟨rfl, hx⟩ := y
      have hi2 : i < 2 := hi'
      have ht : TOq H7 (k + 4) x (if i = 0 then lo else hi) := by
        obtain rfl | rfl : i = 0 ∨ i = 1 := by omega
        · cases hx
          exact (tlo.same s45).same s6
        · cases hx
          exact (thi.same s45).same s6
      refine ⟨rfl, yesT ?_⟩
      revert ht hN
      generalize (if i = 0 then lo else hi) = o
      intro hN ht
      cases o with
      | none =>
        cases ht
        walk_at "w"
        exact hN _ _ (Same.refl _) rfl
      | some z =>
        obtain ⟨q, rfl, hq, hz, sz1, sz2⟩ := ht
        refine ⟨_, rfl, rfl, _, rfl, iteF ?_⟩
        walk_at "w"
        exact q_made (k := k + 4) hz sz1 sz2 (by omega) (by omega) fun q2 H8 s8 R => hN _ _ s8 ⟨q2, rfl, R⟩
    have ly2 : ys.length = 2 := ly
    obtain ⟨y0, hy0⟩ := geV (xs := ys) (n := 0) (by omega)
    obtain ⟨y1, hy1⟩ := geV (xs := ys) (n := 1) (by omega)
    have q0 : QO (He.ga K "Measure") H6 (k + 4) y0 lo := hy 0 y0 hy0
    have q1 : QO (He.ga K "Measure") H6 (k + 4) y1 hi := hy 1 y1 hy1
    have s46 := s45.trans s6
    walk_at "w"
    refine ⟨zs, rfl, .inl (SqL.of (s46 _ _ hl4)), tqD.same s46, k0, by omega, l1, fun T2 ps H8 s8 hT2 hm => ?_⟩
    have hD8 := s8 _ _ hD
    walk_at "w"
    refine lad_made (k := k + 4) (SqT.of hT2) (hm.mono (by omega)) (by omega) l0 l1 ri hru (q0.same s8) (q1.same s8) span fun q H9 _ s9 L9 _ => kk q r lo hi H9 ?_ ?_ L9
    · exact ((hh4.same s46).same s8).same s9 |>.mono (by omega)
    · exact ((kD.trans (Kp.same s46)).trans (Kp.same s8)).trans (Kp.same s9)
theorem ok_l_width {P : Program} {w : World} {K : PySem.W.Frag} {mg : Str → Option Value} {base : Heap} {φ : Fds} (T : Txt K mg φ) : FnOk P w K mg base CX0 4 (He.fAd K ("_law_width", none)) φ.l_width p_l_width sp_widthP := by
  obtain ⟨_, B0v, B0⟩ := b_l_part_1 T
  obtain ⟨_, B1v, B1⟩ := b_l_sum_2 T
  obtain ⟨_, B2v, B2⟩ := b_l_pick_2 T
  obtain ⟨_, B3v, B3⟩ := b_l_plain_2 T
  refine T.f_l_width.ok sc_l_width (fun vs H Q E h => ?_) (fun cdv A outer s H vs Q E hr h => ?_)
  · obtain ⟨h, l, n, k, us, zs, rfl, hh, hn, nlh, hl, tq, k0, k1, l0, l1, ri, kk⟩ := h; rfl
  · obtain ⟨h, l, n, k, us, zs, rfl, hh, hn, nlh, hl, tq, k0, k1, l0, l1, ri, kk⟩ := h
    refine ⟨_, PSs.nox (pss_cons (ps_par (i := 2) (j := 3) rfl sc_l_width.nd rfl rfl (by decide) rfl rfl (pa_cons (pe_tup (pa_cons pe_int (pa_cons pe_int pa_nil))) (pa_cons (pe_call (ok_l_part (K := K) T) (hr.mono (by decide)) rfl T.g_l_part T.f_l_part.kp B0 B0v pass0 (pa_cons (pv 0) pa_nil)) pa_nil)) (by rfl))
      (pss_cons (ps_cut (ps_if (pt_cmpR op_gt (pe_callB (id := "len") (lenS (K := K)) (by rfl) T.z_len PySem.boot_len (pa_cons (pv 1) pa_nil)) pe_int (nomark _))
      (pss_one (ps_set (i := 2) sc_l_width.nd rfl (Or.inl rfl) (pe_call (ok_l_sum (K := K) T) (hr.mono (by decide)) rfl T.g_l_sum T.f_l_sum.kp B1 B1v pass0 (pa_cons (pe_ix (ixl (K := K)) (pv 1) pe_int (fun _ _ => rfl)) (pa_cons (pe_tup (pa_cons (pe_op op_sub pe_int (pe_ix (ixt (K := K)) (pe_ix (ixl (K := K)) (pv 1) pe_int (fun _ _ => rfl)) pe_int (fun _ _ => rfl))) (pa_cons (pe_ix (ixt (K := K)) (pe_ix (ixl (K := K)) (pv 1) pe_int (fun _ _ => rfl)) pe_int (fun _ _ => rfl)) pa_nil))) pa_nil)))))
      pss_nil))
      (pss_cons (ps_asg (pe_call (ok_l_pick (K := K) T) (hr.mono (by decide)) rfl T.g_l_pick T.f_l_pick.kp B2 B2v pass0 (pa_cons (pv 0) (pa_cons (pe_lst (pa_cons (pe_tup (pa_cons pe_int (pa_cons pe_int pa_nil))) (pa_cons (pv 2) (pa_cons (pe_tup (pa_cons (pe_ix (ixt (K := K)) (pv 2) pe_int (fun _ _ => rfl)) (pa_cons (pe_op op_mulA pe_int (pe_ix (ixt (K := K)) (pv 2) pe_int (fun _ _ => rfl))) pa_nil))) (pa_cons (pv 3) (pa_cons (pe_tup (pa_cons (pe_op op_mulA pe_int (pe_ix (ixt (K := K)) (pv 2) pe_int (fun _ _ => rfl))) (pa_cons (pe_ix (ixt (K := K)) (pv 2) pe_int (fun _ _ => rfl)) pa_nil))) (pa_cons (pe_tup (pa_cons pe_int (pa_cons pe_int pa_nil))) pa_nil))))))) pa_nil))) (pg_tup rfl (pgs_cons (pg_name (i := 4) sc_l_width.nd rfl (Or.inl rfl)) (pgs_cons (pg_name (i := 5) sc_l_width.nd rfl (Or.inl rfl)) pgs_nil))))
      (pss_one (ps_ret (pe_call (ok_l_plain (K := K) T) (hr.mono (by decide)) rfl T.g_l_plain T.f_l_plain.kp B3 B3v pass0 (pa_cons (pv 4) (pa_cons (pv 5) pa_nil)))))))), ?_⟩
    have lq := tq.len
    walk_at "w"
    intro p1 np1
    have s1 : Same H (upd H p1 (.tup [.int 1, .int 1])) := same1 np1
    have tg1 : TQ (upd H p1 (.tup [.int 1, .int 1])) (.ref p1) (2 * k + 1) (1, 1) := (TQ.mk (k := 2) upd_same (by decide) (by decide) (by decide)).mono (by omega)
    have hh1 := hh.same s1
    generalize upd H p1 (.tup [.int 1, .int 1]) = H1 at *
    replace tq := tq.same s1
    replace hl := s1 _ _ hl
    walk_at "w"
    intro vb zb H2 hh2 k2 tb zb0
    replace tq := tq.kp hh1 k2
    replace hl := k2 _ _ hl nlh
    replace tg1 := tg1.kp hh1 k2
    have kA : Kp h H H2 := (Kp.same s1).trans k2
    clear hh hh1 k2 s1 np1
    refine ⟨_, _, rfl, ?_⟩
    refine ⟨fun σ' H' => ∃ vg zg, σ' = [some (.ref h), some (.ref l), some vg, some vb, none, none] ∧ Same H2 H' ∧ TQ H' vg (2 * k + 1) zg ∧ 0 ≤ zg.1, ?_, ?_⟩
    · walk_at "w"
      refine ite2 (fun e => ?_) (fun e => ?_)
      · have e1 : 1 < us.length := by
          have := of_decide_eq_true e
          omega
        obtain ⟨v0, hv0⟩ := geV (xs := us) (n := 0) (by omega)
        obtain ⟨v1, hv1⟩ := geV (xs := us) (n := 1) e1
        obtain ⟨z0, hz0, q0, rfl, hq0, pz0, s01, s02⟩ := tq.of hv0
        obtain ⟨z1, hz1, t1⟩ := tq.of hv1
        have lt01 := ri 0 z0 z1 hz0 hz1
        have p1 := t1.pos
        walk_at "w"
        intro p2 np2
        refine ⟨v1, .ref p2, k, k, z1, (0 - z0.1, z0.2), rfl, t1.same (same1 np2), TQ.mk upd_same pz0 ?_ s02, by omega, by omega, by omega, fun v3 z3 H3 s3 t3 r3 => ?_⟩
        · rw [Int.zero_sub]
          exact s01.neg
        refine ⟨v3, z3, rfl, (same1 np2 : Same H2 _).trans s3, t3.mono (by omega), r3.nn ?_⟩
        show 0 ≤ z1.1 * z0.2 + (0 - z0.1) * z1.2
        have := of_decide_eq_true lt01
        rw [Int.zero_sub, Int.neg_mul]
        omega
      · exact ⟨.ref p1, (1, 1), rfl, Same.refl _, tg1, by decide⟩
    rintro σ' H3 ⟨vg, zg, rfl, s3, ⟨qg, rfl, hqg, pg, sg1, sg2⟩, ng⟩
    have hh3 := hh2.same s3
    have kB : Kp h H H3 := kA.trans (Kp.same s3)
    replace tb := tb.same s3
    clear hl tq tg1 kA s3 hh2
    have tg : TQ H3 (.ref qg) (2 * k + 1) zg := ⟨qg, rfl, hqg, pg, sg1, sg2⟩
    walk_at "w"
    intro p3 np3
    have sA : Same H3 (upd H3 p3 (.tup [.int 0, .int 1])) := same1 np3
    have t3 : TQ (upd H3 p3 (.tup [.int 0, .int 1])) (.ref p3) (2 * k + 4) (0, 1) := (TQ.mk (k := 2) upd_same (by decide) (by decide) (by decide)).mono (by omega)
    generalize upd H3 p3 (.tup [.int 0, .int 1]) = H4 at *
    have hqg4 := sA _ _ hqg
    walk_at "w"
    have s2g : Sz (2 * k + 4) (2 * zg.2) := ((show Sz 2 (2 : Int) by decide).mul sg2).mono (by omega)
    have s3g : Sz (2 * k + 4) (3 * zg.1) := ((show Sz 2 (3 : Int) by decide).mul sg1).mono (by omega)
    intro p4 np4
    have sB : Same H4 (upd H4 p4 (.tup [.int zg.1, .int (2 * zg.2)])) := same1 np4
    have t4 : TQ (upd H4 p4 (.tup [.int zg.1, .int (2 * zg.2)])) (.ref p4) (2 * k + 4) (zg.1, 2 * zg.2) := TQ.mk upd_same (by omega) (sg1.mono (by omega)) s2g
    generalize upd H4 p4 (.tup [.int zg.1, .int (2 * zg.2)]) = H5 at *
    have hqg5 := sB _ _ hqg4
    walk_at "w"
    intro p5 np5
    have sC : Same H5 (upd H5 p5 (.tup [.int (3 * zg.1), .int zg.2])) := same1 np5
    have t5 : TQ (upd H5 p5 (.tup [.int (3 * zg.1), .int zg.2])) (.ref p5) (2 * k + 4) (3 * zg.1, zg.2) := TQ.mk upd_same pg s3g (sg2.mono (by omega))
    generalize upd H5 p5 (.tup [.int (3 * zg.1), .int zg.2]) = H6 at *
    walk_at "w"
    intro p6 np6
    have sD : Same H6 (upd H6 p6 (.tup [.int 40, .int 1])) := same1 np6
    have t6 : TQ (upd H6 p6 (.tup [.int 40, .int 1])) (.ref p6) (2 * k + 4) (40, 1) := (TQ.mk (k := 7) upd_same (by decide) (by decide) (by decide)).mono (by omega)
    generalize upd H6 p6 (.tup [.int 40, .int 1]) = H7 at *
    walk_at "w"
    intro p7 np7
    have sE : Same H7 (upd H7 p7 (.lst [.ref p3, .ref qg, .ref p4, vb, .ref p5, .ref p6])) := same1 np7
    have s37 : Same H3 (upd H7 p7 (.lst [.ref p3, .ref qg, .ref p4, vb, .ref p5, .ref p6])) := (((sA.trans sB).trans sC).trans sD).trans sE
    have all : ∀ x ∈ [V.ref p3, V.ref qg, V.ref p4, vb, V.ref p5, V.ref p6], ∃ z, TQ (upd H7 p7 (.lst [.ref p3, .ref qg, .ref p4, vb, .ref p5, .ref p6])) x (2 * k + 4) z ∧ 0 ≤ z.1 := fun x hx => by
      simp only [List.mem_cons, List.not_mem_nil, or_false] at hx
      rcases hx with rfl | rfl | rfl | rfl | rfl | rfl
      · exact ⟨_, t3.same (((sB.trans sC).trans sD).trans sE), by decide⟩
      · exact ⟨_, (tg.mono (by omega)).same s37, ng⟩
      · exact ⟨_, t4.same ((sC.trans sD).trans sE), ng⟩
      · exact ⟨_, (tb.mono (by omega)).same s37, by omega⟩
      · exact ⟨_, t5.same (sD.trans sE), by show 0 ≤ 3 * zg.1; omega⟩
      · exact ⟨_, t6.same sE, by decide⟩
    refine ⟨h, p7, _, _, rfl, hh3.same s37, by omega, SqL.of upd_same, (hh3.same (((sA.trans sB).trans sC).trans sD)).ne np7, Nat.le_of_ble_eq_true rfl, Nat.le_of_ble_eq_true rfl, fun i x H8 hx hh8 k8 => ?_⟩
    obtain ⟨zx, tx, nx⟩ := all x (List.mem_of_getElem? hx)
    replace tx := tx.kp (hh3.same s37) k8
    obtain ⟨qx, rfl, hqx, pzx, sx1, sx2⟩ := tx
    walk_at "w"
    intro v z H9 s9 t9 r9
    exact kk v z H9 ((hh8.same s9).mono (by omega)) (((kB.trans (Kp.same s37)).trans k8).trans (Kp.same s9)) t9 (r9.nn nx)
theorem ok_l_foot {P : Program} {w : World} {K : PySem.W.Frag} {mg : Str → Option Value} {base : Heap} {φ : Fds} (T : Txt K mg φ) : FnOk P w K mg base CX0 4 (He.fAd K ("_law_foot", none)) φ.l_foot p_l_foot sp_foot := by
  obtain ⟨_, B0v, B0⟩ := b_l_pick_2 T
  obtain ⟨_, B1v, B1⟩ := b_l_sum_2 T
  obtain ⟨_, B2v, B2⟩ := b_l_take_2 T
  obtain ⟨_, B3v, B3⟩ := b_l_part_1 T
  refine T.f_l_foot.ok sc_l_foot (fun vs H Q E h => ?_) (fun cdv A outer s H vs Q E hr h => ?_)
  · obtain ⟨h, l, va, vb, n, k, us, zs, x, y, rfl, hh, hn, nlh, hl, tq, k0, k1, l0, l1, ⟨qa, rfl, hqa, pa, a1, a2⟩, tb, kk⟩ := h; rfl
  · obtain ⟨h, l, va, vb, n, k, us, zs, x, y, rfl, hh, hn, nlh, hl, tq, k0, k1, l0, l1, ⟨qa, rfl, hqa, pa, a1, a2⟩, tb, kk⟩ := h
    refine ⟨_, PSs.nox (pss_cons (ps_par (i := 4) (j := 5) rfl sc_l_foot.nd rfl rfl (by decide) rfl rfl (pa_cons (pe_call (ok_l_pick (K := K) T) (hr.mono (by decide)) rfl T.g_l_pick T.f_l_pick.kp B0 B0v pass0 (pa_cons (pv 0) (pa_cons (pv 1) pa_nil))) (pa_cons (pe_call (ok_l_pick (K := K) T) (hr.mono (by decide)) rfl T.g_l_pick T.f_l_pick.kp B0 B0v pass0 (pa_cons (pv 0) (pa_cons (pe_lst (pa_cons (pe_tup (pa_cons pe_int (pa_cons pe_int pa_nil))) (pa_cons (pe_tup (pa_cons pe_int (pa_cons pe_int pa_nil))) (pa_cons (pe_tup (pa_cons pe_int (pa_cons pe_int pa_nil))) (pa_cons (pe_tup (pa_cons (pe_un un_neg pe_int) (pa_cons pe_int pa_nil))) pa_nil))))) pa_nil))) pa_nil)) (by rfl))
      (pss_cons (ps_set (i := 6) sc_l_foot.nd rfl (Or.inl rfl) (pe_lst (pa_cons (pv 4) (pa_cons (pv 4) (pa_cons (pe_call (ok_l_sum (K := K) T) (hr.mono (by decide)) rfl T.g_l_sum T.f_l_sum.kp B1 B1v pass0 (pa_cons (pv 4) (pa_cons (pe_tup (pa_cons (pe_op op_sub pe_int (pe_ix (ixt (K := K)) (pv 2) pe_int (fun _ _ => rfl))) (pa_cons (pe_ix (ixt (K := K)) (pv 2) pe_int (fun _ _ => rfl)) pa_nil))) pa_nil))) (pa_cons (pe_call (ok_l_sum (K := K) T) (hr.mono (by decide)) rfl T.g_l_sum T.f_l_sum.kp B1 B1v pass0 (pa_cons (pv 4) (pa_cons (pv 3) pa_nil))) pa_nil))))))
      (pss_cons (ps_set (i := 6) sc_l_foot.nd rfl (Or.inl rfl) (pe_op op_cat (pv 6) (pe_lst (pa_cons (pe_call (ok_l_sum (K := K) T) (hr.mono (by decide)) rfl T.g_l_sum T.f_l_sum.kp B1 B1v pass0 (pa_cons (pv 4) (pa_cons (pe_call (ok_l_part (K := K) T) (hr.mono (by decide)) rfl T.g_l_part T.f_l_part.kp B3 B3v pass0 (pa_cons (pv 0) pa_nil)) pa_nil))) (pa_cons (pe_tup (pa_cons (pe_op op_sub (pe_call (ok_l_take (K := K) T) (hr.mono (by decide)) rfl T.g_l_take T.f_l_take.kp B2 B2v pass0 (pa_cons (pv 0) (pa_cons pe_int pa_nil))) pe_int) (pa_cons pe_int pa_nil))) pa_nil)))))
      (pss_one (ps_ret (pe_call (ok_l_sum (K := K) T) (hr.mono (by decide)) rfl T.g_l_sum T.f_l_sum.kp B1 B1v pass0 (pa_cons (pe_call (ok_l_pick (K := K) T) (hr.mono (by decide)) rfl T.g_l_pick T.f_l_pick.kp B0 B0v pass0 (pa_cons (pv 0) (pa_cons (pv 6) pa_nil))) (pa_cons (pv 5) pa_nil)))))))), ?_⟩
    have lq := tq.len
    walk_at "w"
    intro i1 vm H1 hm1 hh1 k1'
    obtain ⟨zm, _, tm⟩ := tq.of hm1
    replace tm := tm.kp hh k1'
    replace hqa := k1'.get hh hqa rfl
    replace tb := tb.kp hh k1'
    clear hl tq hm1 hh
    walk_at "w"
    intro p1 np1
    have sA : Same H1 (upd H1 p1 (.tup [.int 0, .int 1])) := same1 np1
    have t1 : TQ (upd H1 p1 (.tup [.int 0, .int 1])) (.ref p1) 31 (0, 1) := TQ.mk upd_same (by decide) (by decide) (by decide)
    generalize upd H1 p1 (.tup [.int 0, .int 1]) = H2 at *
    walk_at "w"
    intro p2 np2
    have sB : Same H2 (upd H2 p2 (.tup [.int 0, .int 1])) := same1 np2
    have t2 : TQ (upd H2 p2 (.tup [.int 0, .int 1])) (.ref p2) 31 (0, 1) := TQ.mk upd_same (by decide) (by decide) (by decide)
    generalize upd H2 p2 (.tup [.int 0, .int 1]) = H3 at *
    walk_at "w"
    intro p3 np3
    have sC : Same H3 (upd H3 p3 (.tup [.int 1, .int 1000000007])) := same1 np3
    have t3 : TQ (upd H3 p3 (.tup [.int 1, .int 1000000007])) (.ref p3) 31 (1, 1000000007) := TQ.mk upd_same (by decide) (by decide) (by decide)
    generalize upd H3 p3 (.tup [.int 1, .int 1000000007]) = H4 at *
    walk_at "w"
    intro p4 np4
    have sD : Same H4 (upd H4 p4 (.tup [.int (-1), .int 1000000007])) := same1 np4
    have t4 : TQ (upd H4 p4 (.tup [.int (-1), .int 1000000007])) (.ref p4) 31 (-1, 1000000007) := TQ.mk upd_same (by decide) (by decide) (by decide)
    generalize upd H4 p4 (.tup [.int (-1), .int 1000000007]) = H5 at *
    walk_at "w"
    intro p5 np5
    have sE : Same H5 (upd H5 p5 (.lst [.ref p1, .ref p2, .ref p3, .ref p4])) := same1 np5
    have s15 := (((sA.trans sB).trans sC).trans sD).trans sE
    have all : ∀ x ∈ [V.ref p1, V.ref p2, V.ref p3, V.ref p4], ∃ z, TQ (upd H5 p5 (.lst [.ref p1, .ref p2, .ref p3, .ref p4])) x 31 z := fun x hx => by
      simp only [List.mem_cons, List.not_mem_nil, or_false] at hx
      rcases hx with rfl | rfl | rfl | rfl
      · exact ⟨_, t1.same (((sB.trans sC).trans sD).trans sE)⟩
      · exact ⟨_, t2.same ((sC.trans sD).trans sE)⟩
      · exact ⟨_, t3.same (sD.trans sE)⟩
      · exact ⟨_, t4.same sE⟩
    refine ⟨h, p5, _, _, rfl, hh1.same s15, by omega, SqL.of upd_same, (hh1.same (((sA.trans sB).trans sC).trans sD)).ne np5, Nat.le_of_ble_eq_true rfl, Nat.le_of_ble_eq_true rfl, fun i2 vs H6 hx hh6 k6 => ?_⟩
    obtain ⟨zs', ts⟩ := all vs (List.mem_of_getElem? hx)
    replace ts := ts.kp (hh1.same s15) k6
    replace tm := (tm.same s15).kp (hh1.same s15) k6
    replace hqa := k6.get (hh1.same s15) (s15 _ _ hqa) rfl
    replace tb := (tb.same s15).kp (hh1.same s15) k6
    have kA : Kp h H H6 := (k1'.trans (Kp.same s15)).trans k6
    clear all t1 t2 t3 t4 sA sB sC sD sE s15 np1 np2 np3 np4 np5 hx k6 k1' hh1
    walk_at "w"
    intro p7 np7
    have s7 : Same H6 (upd H6 p7 (.tup [.int (0 - x.1), .int x.2])) := same1 np7
    refine ⟨vm, .ref p7, k, 2 * k + 4, zm, (0 - x.1, x.2), rfl, tm.same s7, TQ.mk upd_same pa ?_ a2, by omega, by omega, by omega, fun v8 z8 H8 s8 t8 r8 => ?_⟩
    · rw [Int.zero_sub]
      exact a1.neg
    replace s8 := s7.trans s8
    replace t8 := t8.mono (show k + (2 * k + 4) + 1 ≤ 3 * k + 5 by omega)
    walk_at "w"
    refine ⟨zm, y, rfl, tm.same s8, tb.same s8, by omega, by omega, by omega, fun v9 z9 H9 s9 t9 r9 => ?_⟩
    replace t9 := t9.mono (show k + (2 * k + 4) + 1 ≤ 3 * k + 5 by omega)
    replace t8 := t8.same s9
    have s69 := s8.trans s9
    replace tm := tm.same s69
    replace ts := ts.same s69
    replace hh6 := hh6.same s69
    replace kA := kA.trans (Kp.same s69)
    clear tb hqa s8 s9 s69 s7 np7
    walk_at "w"
    intro l1 nl1
    have sF : Same H9 (upd H9 l1 (.lst [vm, vm, v8, v9])) := same1 nl1
    have hl1 : upd H9 l1 (.lst [vm, vm, v8, v9]) l1 = some (.lst [vm, vm, v8, v9]) := upd_same
    have nlh1 := hh6.ne nl1
    generalize upd H9 l1 (.lst [vm, vm, v8, v9]) = HA at *
    replace t8 := t8.same sF
    replace t9 := t9.same sF
    replace tm := tm.same sF
    replace ts := ts.same sF
    replace hh6 := hh6.same sF
    replace kA := kA.trans (Kp.same sF)
    walk_at "w"
    intro vp zp HB hhB kB tp zp0
    replace t8 := t8.kp hh6 kB
    replace t9 := t9.kp hh6 kB
    replace tm := tm.kp hh6 kB
    replace ts := ts.kp hh6 kB
    replace hl1 := kB _ _ hl1 nlh1
    replace kA := kA.trans kB
    clear sF hh6 kB nl1
    refine ⟨vm, vp, k, 20, zm, zp, rfl, tm, tp, by omega, by decide, by omega, fun vc zc HC sC tc rc => ?_⟩
    replace t8 := t8.same sC
    replace t9 := t9.same sC
    replace tm := tm.same sC
    replace ts := ts.same sC
    replace hhB := hhB.same sC
    replace kA := kA.trans (Kp.same sC)
    replace hl1 := sC _ _ hl1
    clear tp sC
    walk_at "w"
    intro d HD d0 d1 hhD kD
    replace t8 := t8.kp hhB kD
    replace t9 := t9.kp hhB kD
    replace tc := tc.kp hhB kD
    replace tm := tm.kp hhB kD
    replace ts := ts.kp hhB kD
    replace hl1 := kD _ _ hl1 nlh1
    replace kA := kA.trans kD
    clear hhB kD
    walk_at "w"
    intro pd npd
    have sG : Same HD (upd HD pd (.tup [.int (d - 100), .int 1])) := same1 npd
    have td : TQ (upd HD pd (.tup [.int (d - 100), .int 1])) (.ref pd) 31 (d - 100, 1) := TQ.mk upd_same (by decide) (by show (d - 100).natAbs < 2 ^ 31; omega) (by decide)
    generalize upd HD pd (.tup [.int (d - 100), .int 1]) = HE at *
    walk_at "w"
    intro l2 nl2
    have sH : Same HE (upd HE l2 (.lst [vc, .ref pd])) := same1 nl2
    have hl2 : upd HE l2 (.lst [vc, .ref pd]) l2 = some (.lst [vc, .ref pd]) := upd_same
    generalize upd HE l2 (.lst [vc, .ref pd]) = HF at *
    have hl1F := (sG.trans sH) _ _ hl1
    walk_at "w"
    intro l3 nl3
    have sI : Same HF (upd HF l3 (.lst ([vm, vm, v8, v9] ++ [vc, .ref pd]))) := same1 nl3
    have hl3 : upd HF l3 (.lst ([vm, vm, v8, v9] ++ [vc, .ref pd])) l3 = some (.lst ([vm, vm, v8, v9] ++ [vc, .ref pd])) := upd_same
    have hhF := hhD.same (sG.trans sH)
    have nlh3 := hhF.ne nl3
    generalize upd HF l3 (.lst ([vm, vm, v8, v9] ++ [vc, .ref pd])) = HG at *
    have sJ := (sG.trans sH).trans sI
    have all : ∀ x ∈ [vm, vm, v8, v9] ++ [vc, V.ref pd], ∃ z, TQ HG x (3 * k + 8) z := fun x hx => by
      simp only [List.mem_append, List.mem_cons, List.not_mem_nil, or_false] at hx
      rcases hx with (rfl | rfl | rfl | rfl) | rfl | rfl
      · exact ⟨_, (tm.mono (by omega)).same sJ⟩
      · exact ⟨_, (tm.mono (by omega)).same sJ⟩
      · exact ⟨_, (t8.mono (by omega)).same sJ⟩
      · exact ⟨_, (t9.mono (by omega)).same sJ⟩
      · exact ⟨_, (tc.mono (by omega)).same sJ⟩
      · exact ⟨_, (td.mono (by omega)).same (sH.trans sI)⟩
    have hhG := hhD.same sJ
    refine ⟨_, rfl, _, rfl, h, l3, _, _, rfl, hhG, by omega, SqL.of hl3, nlh3, Nat.le_of_ble_eq_true rfl, Nat.le_of_ble_eq_true rfl, fun i4 vx HH hx hhH kH => ?_⟩
    obtain ⟨zx, tx⟩ := all vx (List.mem_of_getElem? hx)
    replace tx := tx.kp hhG kH
    replace ts := (ts.same sJ).kp hhG kH
    walk_at "w"
    refine ⟨zx, zs', rfl, tx, ts, by omega, by decide, by omega, fun v z HI sK t r => ?_⟩
    exact kk v z HI ((hhH.same sK).mono (by omega)) (((kA.trans (Kp.same sJ)).trans kH).trans (Kp.same sK)) (t.mono (by omega))
theorem ok_l_fits {P : Program} {w : World} {K : PySem.W.Frag} {mg : Str → Option Value} {base : Heap} {φ : Fds} (T : Txt K mg φ) : FnOk P w K mg base CX0 3 (He.fAd K ("_law_fits", none)) φ.l_fits p_l_fits sp_lfits := by
  obtain ⟨_, B0v, B0⟩ := b_l_sum_2 T
  obtain ⟨_, B1v, B1⟩ := b_l_less_2 T
  refine T.f_l_fits.ok sc_l_fits (fun vs H Q E h => ?_) (fun cdv A outer s H vs Q E hr h => ?_)
  · obtain ⟨l, va, vb, vc, k, j, us, zs, x, s', t, rfl, hl, tq, ta, tb, ⟨qc, rfl, hqc, pc, c1, c2⟩, k0, j0, k1, j1, l1, kk⟩ := h; rfl
  · obtain ⟨l, va, vb, vc, k, j, us, zs, x, s', t, rfl, hl, tq, ta, tb, ⟨qc, rfl, hqc, pc, c1, c2⟩, k0, j0, k1, j1, l1, kk⟩ := h
    refine ⟨_, PSs.nox (pss_cons (ps_asg (pe_tup (pa_cons (pe_call (ok_l_sum (K := K) T) (hr.mono (by decide)) rfl T.g_l_sum T.f_l_sum.kp B0 B0v pass0 (pa_cons (pv 1) (pa_cons (pe_tup (pa_cons (pe_op op_sub pe_int (pe_ix (ixt (K := K)) (pv 3) pe_int (fun _ _ => rfl))) (pa_cons (pe_ix (ixt (K := K)) (pv 3) pe_int (fun _ _ => rfl)) pa_nil))) pa_nil))) (pa_cons (pe_call (ok_l_sum (K := K) T) (hr.mono (by decide)) rfl T.g_l_sum T.f_l_sum.kp B0 B0v pass0 (pa_cons (pv 1) (pa_cons (pv 2) pa_nil))) pa_nil))) (pg_tup rfl (pgs_cons (pg_name (i := 4) sc_l_fits.nd rfl (Or.inr rfl)) (pgs_cons (pg_name (i := 5) sc_l_fits.nd rfl (Or.inr rfl)) pgs_nil))))
      (pss_one (ps_ret (pe_callTy (T := "tuple") (tupleL (K := K)) (by rfl) T.z_tuple (by decide +kernel) (pa_cons (pe_lc (own := [("_law_k", 6), ("_law_mark", 7)]) (g := gTup K 2 (gCons (gName 6) (gCons (gName 7) (gNil)))) rfl sc_l_fits.nd (pi_enum (by rfl) T.z_enumerate (pa_cons (pv 0) pa_nil)) (blkOk_by (own := [("_law_k", 6), ("_law_mark", 7)]) (N := N_l_fits) (sc := (defScope s_l_fits)) (by decide +kernel)) (fun _ _ _ _ _ => (pg_tup rfl (pgs_cons (pg_name (i := 6) sc_l_fits.nd rfl (Or.inl rfl)) (pgs_cons (pg_name (i := 7) sc_l_fits.nd rfl (Or.inl rfl)) pgs_nil)))) (fun _ _ _ _ _ => (pts_one (PW.pt (pw_and (pt_not (pt_val (pe_call (ok_l_less (K := K) T) (hr.mono (by decide)) rfl T.g_l_less T.f_l_less.kp B1 B1v pass0 (pa_cons (pv 7) (pa_cons (pv 4) pa_nil))))) (pw_and1 (pt_not (pt_val (pe_call (ok_l_less (K := K) T) (hr.mono (by decide)) rfl T.g_l_less T.f_l_less.kp B1 B1v pass0 (pa_cons (pv 5) (pa_cons (pv 7) pa_nil)))))))))) (fun _ _ _ _ _ => (pv 6))) pa_nil))))), ?_⟩
    have lq := tq.len
    walk_at "w"
    intro p1 np1
    have s1 : Same H (upd H p1 (.tup [.int (0 - t.1), .int t.2])) := same1 np1
    have tn : TQ (upd H p1 (.tup [.int (0 - t.1), .int t.2])) (.ref p1) j (0 - t.1, t.2) := TQ.mk upd_same pc (by rw [Int.zero_sub]; exact c1.neg) c2
    refine ⟨va, .ref p1, j, j, x, (0 - t.1, t.2), rfl, ta.same s1, tn, j0, j0, by omega, fun v2 z2 H2 s2 t2 r2 => ?_⟩
    replace s2 := s1.trans s2
    rw [qadd_neg] at r2
    walk_at "w"
    refine ⟨x, s', rfl, ta.same s2, tb.same s2, j0, j0, by omega, fun v3 z3 H3 s3 t3 r3 => ?_⟩
    replace t2 := t2.same s3
    walk_at "w"
    intro pT npT
    have sT : Same H3 (upd H3 pT (.tup [v2, v3])) := same1 npT
    have hpT : upd H3 pT (.tup [v2, v3]) pT = some (.tup [v2, v3]) := upd_same
    replace t2 := t2.same sT
    replace t3 := t3.same sT
    replace s3 := s3.trans sT
    generalize upd H3 pT (.tup [v2, v3]) = H3 at *
    have s13 := s2.trans s3
    have hl3 := s13 _ _ hl
    have tq3 := tq.same s13
    walk_at "w"
    intro D nD
    refine lcz (n := us.length) walk_enum (fun _ _ g s => s.seq g) (oIdx us.length (fitQ zs x s' t)) (oIdx_len _ _) (szs (by omega)) (SqL.of hl3) nD (fun i v H4 H5 o N M hi ho s4 yy hN hM => ?_) (fun H4 s4 hD => ?_)
    · obtain ⟨t4, a0, b0, rfl, nt, rfl, ha0, hb0⟩ := yy
      cases ha0
      replace hb0 : us[i]? = some b0 := hb0
      obtain ⟨a, ha, tm⟩ := (tq3.same s4).of hb0
      have eo := oIdx_get ho
      have ef : fitQ zs x s' t i = (leq (qsub x t) a && leq a (qadd x s')) := by
        unfold fitQ
        rw [ha]
      rw [ef] at eo
      have s5 : Same H4 (upd H4 t4 (.tup [.int (i : Int), b0])) := same1 nt
      have tm5 := tm.same s5
      have t25 := (t2.same s4).same s5
      have t35 := (t3.same s4).same s5
      have e1 : leq (qsub x t) a = !ltq a z2 := by
        rw [leq_congr r2.symm (Re.refl tm.pos), leq_not]
      have e2 : leq a (qadd x s') = !ltq z3 a := by
        rw [leq_congr (Re.refl tm.pos) r3.symm, leq_not]
      rw [e1, e2] at eo
      refine ⟨t4, _, rfl, SqT.of upd_same, rfl, _, _, rfl, _, _, rfl, rfl, rfl, ?_⟩
      walk_at "w"
      refine ⟨a, z2, rfl, tm5, t25, by omega, by omega, by omega, _, rfl, ?_⟩
      cases c1 : ltq a z2 with
      | true =>
        refine iteF ?_
        exact hM _ (by rw [eo, c1]; rfl) s5
      | false =>
        refine iteT ?_
        walk_at "w"
        refine ⟨z3, a, rfl, t35, tm5, by omega, by omega, by omega, _, rfl, ?_⟩
        cases c2 : ltq z3 a with
        | true =>
          refine iteF ?_
          exact hM _ (by rw [eo, c1, c2]; rfl) s5
        | false =>
          refine iteT ?_
          exact ⟨_, rfl, hN _ _ (by rw [eo, c1, c2]; rfl) s5⟩
    rw [oIdx_fm, lq] at hD
    walk_at "w"
    intro T2 nT2
    exact kk T2 _ ((s13.trans s4).up nT2) upd_same
theorem ok_fitting_of {P : Program} {w : World} {K : PySem.W.Frag} {mg : Str → Option Value} {base : Heap} {φ : Fds} (T : Txt K mg φ) : FnOk P w K mg base CX0 6 (He.fAd K ("fitting_of", none)) φ.fitting_of p_fitting_of (sp_fitting K (He.ga K "Measure") (He.ga K "Ladder")) := by
  obtain ⟨_, B0v, B0⟩ := b_fits_4 T
  refine T.f_fitting_of.ok sc_fitting_of (fun vs H Q E h => ?_) (fun cdv A outer s H vs Q E hr h => ?_)
  · obtain ⟨p, F, s', t, k, j, fs, zs, r, lo, hi, xs, y, e, rfl, hL, hF, mF, qs, qt, k0, k1, j0, j1, lx, kk⟩ := h; rfl
  · obtain ⟨p, F, s', t, k, j, fs, zs, r, lo, hi, xs, y, e, rfl, hL, hF, mF, qs, qt, k0, k1, j0, j1, lx, kk⟩ := h
    refine ⟨_, PSs.nox (pss_one (ps_ret (pe_lc (own := [("foot", 4)]) (g := gName 4) rfl sc_fitting_of.nd (pi_tup (pv 1)) (blkOk_by (own := [("foot", 4)]) (N := N_fitting_of) (sc := (defScope s_fitting_of)) (by decide +kernel)) (fun _ _ _ _ _ => (pg_name (i := 4) sc_fitting_of.nd rfl (Or.inl rfl))) (fun _ _ _ _ _ => pts_nil) (fun _ _ _ _ _ => (pe_call (ok_fits (K := K) T) (hr.mono (by decide)) rfl T.g_fits T.f_fits.kp B0 B0v pass0 (pa_cons (pv 0) (pa_cons (pv 4) (pa_cons (pv 2) (pa_cons (pv 3) pa_nil))))))))), ?_⟩
    have lf' : fs.length = xs.length := mF.len
    walk_at "w"
    refine ⟨⟨_, hF⟩, fun D nD => ?_⟩
    refine lcr (n := fs.length) walk_tup (fun _ _ g s => s.sqt g) (fun i H v => ∃ T x, v = .ref T ∧ xs[i]? = some x ∧ H T = some (.tup ((idx zs.length (fitQ zs x y (e.getD (0, 1)))).map V.int))) (fun i H H' v ⟨T, x, e1, e2, e3⟩ n => ⟨T, x, e1, e2, n _ _ e3 rfl⟩) (szs (by omega)) hF nD (fun i x H1 H2 N M hi' s1 yy hN => ?_) (fun H1 ts s1 hD lt ht => ?_)
    · obtain ⟨rfl, hx⟩ := yy
      obtain ⟨q, x', rfl, hx', qx⟩ := (mF.same s1).of hx
      refine ⟨rfl, yesT ?_⟩
      walk_at "w"
      exact ⟨zs, r, lo, hi, x', y, e, rfl, hL.same s1, qx, qs.same s1, qt.same s1, k0, j0, k1, j1, fun T H3 s3 hT => hN _ _ s3 ⟨T, x', rfl, hx', hT⟩⟩
    refine kk D H1 s1 ⟨ts, hD, by unfold fitL; rw [List.length_map]; omega, fun i v l e1 e2 => ?_⟩
    obtain ⟨T, x, ev, ex, hT⟩ := ht i v e1
    unfold fitL at e2
    rw [List.getElem?_map, ex] at e2
    cases e2
    exact ⟨T, ev, hT⟩
theorem ok_first_bare {P : Program} {w : World} {K : PySem.W.Frag} {mg : Str → Option Value} {base : Heap} {φ : Fds} (T : Txt K mg φ) : FnOk P w K mg base CX0 1 (He.fAd K ("first_bare", none)) φ.first_bare p_first_bare sp_bare := by
  refine T.f_first_bare.ok sc_first_bare (fun vs H Q E h => ?_) (fun cdv A outer s H vs Q E hr h => ?_)
  · obtain ⟨D, ls, rfl, hF, ll, l24, kk⟩ := h; rfl
  · obtain ⟨D, ls, rfl, hF, ll, l24, kk⟩ := h
    refine ⟨_, PSs.nox (pss_cons (ps_for PassesOwn.never rfl (pi_enum (by rfl) T.z_enumerate (pa_cons (pv 0) pa_nil)) (pg_tup rfl (pgs_cons (pg_name (i := 1) sc_first_bare.nd rfl (Or.inl rfl)) (pgs_cons (pg_name (i := 2) sc_first_bare.nd rfl (Or.inl rfl)) pgs_nil)))
      (pss_one (ps_if (pt_cmpR op_eq (pe_callB (id := "len") (lenS (K := K)) (by rfl) T.z_len PySem.boot_len (pa_cons (pv 2) pa_nil)) pe_int (nomark _))
      (pss_one (ps_ret (pv 1)))
      pss_nil)))
      (pss_one (ps_ret pe_non))), ?_⟩
    obtain ⟨ts, hD, lt, hts⟩ := hF.ob
    walk_at "w"
    refine for_it walk_enum (fun i σ H' => (∃ v1 v2, σ = [some (.ref D), v1, v2]) ∧ Same H H' ∧ ∀ j l, j < i → ls[j]? = some l → l ≠ []) ⟨⟨_, _, rfl⟩, Same.refl _, fun j l h => by omega⟩ (fun i σ H' _ q => q.2.1.seq (SqL.of hD)) ?_ ?_
    · rintro i x σ H1 H2 hi ⟨⟨v1, v2, rfl⟩, s1, hb⟩ ⟨T, a0, b0, rfl, nT, rfl, ha, hb0⟩
      cases ha
      have hi2 : i < ls.length := by omega
      have hl0 : ls[i]? = some ls[i] := List.getElem?_eq_getElem hi2
      obtain ⟨T2, e2, hT2⟩ := hts i b0 _ hb0 hl0
      subst e2
      have s2 : Same H (upd H1 T (.tup [.int (i : Nat), .ref T2])) := s1.trans (same1 nT)
      have hT3 := s2 _ _ hT2
      have l3 : (ls[i].map V.int).length = ls[i].length := List.length_map ..
      refine ⟨T, _, rfl, SqT.of upd_same, rfl, _, _, rfl, _, _, rfl, rfl, ?_⟩
      have sql := SqT.of (K := K) hT3
      walk_at "w"
      refine ite2 (fun e => ?_) (fun e => ?_)
      · have e0 : ls[i] = [] := by
          have := of_decide_eq_true e
          have e1 : ls[i].length = 0 := by
            have h1 : V.int ((ls[i].map V.int).length : Nat) = V.int 0 := this
            have := V.int.inj h1
            omega
          exact List.eq_nil_of_length_eq_zero e1
        walk_at "w"
        refine kk (some i) _ s2 ⟨by rw [hl0, e0], hb⟩
      · refine ⟨⟨_, _, rfl⟩, s2, fun j l hj hl => ?_⟩
        by_cases q : j = i
        · subst q
          rw [hl0] at hl
          cases hl
          intro q2
          apply e
          rw [q2]
          exact decide_eq_true rfl
        · exact hb j l (by omega) hl
    · rintro σ H1 ⟨⟨v1, v2, rfl⟩, s1, hb⟩
      refine kk none _ s1 fun l hl => ?_
      obtain ⟨j, hj⟩ := List.mem_iff_getElem?.mp hl
      have := (List.getElem?_eq_some_iff.mp hj).1
      exact hb j l (by omega) hj
theorem ok_fewest_of {P : Program} {w : World} {K : PySem.W.Frag} {mg : Str → Option Value} {base : Heap} {φ : Fds} (T : Txt K mg φ) : FnOk P w K mg base CX0 1 (He.fAd K ("fewest_of", none)) φ.fewest_of p_fewest_of sp_few := by
  refine T.f_fewest_of.ok sc_fewest_of (fun vs H Q E h => ?_) (fun cdv A outer s H vs Q E hr h => ?_)
  · obtain ⟨D, ls, rfl, hF, ll, l24, R, kk⟩ := h; rfl
  · obtain ⟨D, ls, rfl, hF, ll, l24, R, kk⟩ := h
    refine ⟨_, PSs.nox (pss_cons (ps_set (i := 1) sc_fewest_of.nd rfl (Or.inl rfl) (pe_lst pa_nil))
      (pss_cons (ps_set (i := 2) sc_fewest_of.nd rfl (Or.inl rfl) (pe_lst pa_nil))
      (pss_cons (ps_for PassesOwn.never rfl (pi_list (pe_callB (id := "sorted") cr_sortedPO (by rfl) T.z_sorted (by decide +kernel) (pa_cons (pe_lc (own := [("number", 4), ("run", 5)]) (g := gTup K 2 (gCons (gName 4) (gCons (gName 5) (gNil)))) rfl sc_fewest_of.nd (pi_enum (by rfl) T.z_enumerate (pa_cons (pv 0) pa_nil)) (blkOk_by (own := [("number", 4), ("run", 5)]) (N := N_fewest_of) (sc := (defScope s_fewest_of)) (by decide +kernel)) (fun _ _ _ _ _ => (pg_tup rfl (pgs_cons (pg_name (i := 4) sc_fewest_of.nd rfl (Or.inl rfl)) (pgs_cons (pg_name (i := 5) sc_fewest_of.nd rfl (Or.inl rfl)) pgs_nil)))) (fun _ _ _ _ _ => pts_nil) (fun _ _ _ _ _ => (pe_tup (pa_cons (pe_ix (ixt (K := K)) (pv 5) (pe_un un_neg pe_int) (fun _ _ => rfl)) (pa_cons (pv 4) pa_nil))))) pa_nil))) (pg_tup rfl (pgs_cons (pg_name (i := 3) sc_fewest_of.nd rfl (Or.inl rfl)) (pgs_cons (pg_name (i := 4) sc_fewest_of.nd rfl (Or.inl rfl)) pgs_nil)))
      (pss_one (ps_if (PW.pt (pw_or (pt_cmpR op_eq (pe_callB (id := "len") (lenS (K := K)) (by rfl) T.z_len PySem.boot_len (pa_cons (pv 1) pa_nil)) pe_int (nomark _)) (pw_or1 (pt_cmpR op_lt (pe_ix (ixl (K := K)) (pv 1) (pe_un un_neg pe_int) (fun _ _ => rfl)) (pe_ix (ixt (K := K)) (pe_ix (ixl (K := K)) (pv 0) (pv 4) (fun _ _ => rfl)) pe_int (fun _ _ => rfl)) (nomark _)))))
      (pss_cons (ps_expr (pe_bm PySem.F.plainAttrs_list PySem.F.slot_list_append PySem.F.type_list_append mt_append (pv 1) (pa_cons (pv 3) pa_nil)))
      (pss_one (ps_expr (pe_bm PySem.F.plainAttrs_list PySem.F.slot_list_append PySem.F.type_list_append mt_append (pv 2) (pa_cons (pv 4) pa_nil)))))
      pss_nil)))
      (pss_one (ps_ret (pe_tup (pa_cons (pe_callTy (T := "tuple") (tupleL (K := K)) (by rfl) T.z_tuple (by decide +kernel) (pa_cons (pv 1) pa_nil)) (pa_cons (pe_callTy (T := "tuple") (tupleL (K := K)) (by rfl) T.z_tuple (by decide +kernel) (pa_cons (pe_callB (id := "sorted") cr_sorted (by rfl) T.z_sorted (by decide +kernel) (pa_cons (pv 2) pa_nil)) pa_nil)) pa_nil)))))))), ?_⟩
    obtain ⟨ts, hD, lt, hts⟩ := hF.ob
    walk_at "w"
    intro S nS
    have s1 : Same H (upd H S (.lst [])) := same1 nS
    have hS : upd H S (.lst []) S = some (.lst []) := upd_same
    generalize upd H S (.lst []) = H1 at *
    walk_at "w"
    intro A nA
    have s2 : Same H1 (upd H1 A (.lst [])) := same1 nA
    have hA : upd H1 A (.lst []) A = some (.lst []) := upd_same
    have neSA : S ≠ A := ne_of_none hS nA
    generalize upd H1 A (.lst []) = H2 at *
    replace hS := s2 _ _ hS
    have s02 := s1.trans s2
    have nSH := nS
    have nAH : H A = none := s1.free nA
    have hD2 := s02 _ _ hD
    have hts2 : ∀ (i : Nat) (v : V) (l : List Int), ts[i]? = some v → ls[i]? = some l → ∃ T, v = .ref T ∧ H2 T = some (.tup (l.map V.int)) := fun i v l e1 e2 => by
      obtain ⟨T, e, h⟩ := hts i v l e1 e2
      exact ⟨T, e, s02 _ _ h⟩
    have neDS : D ≠ S := ne_of_none hD nSH
    have neDA : D ≠ A := ne_of_none hD nAH
    walk_at "w"
    intro P nP
    refine lcr (n := ts.length) walk_enum (fun _ _ g s => s.seq g) (fun i H v => ∃ t, v = .ref t ∧ H t = some (.tup [.int (lastI ls (i : Int)), .int (i : Int)])) (fun i H H' v ⟨t, e1, e2⟩ n => ⟨t, e1, n _ _ e2 rfl⟩) (szs (by omega)) (SqL.of hD2) nP (fun i x H3 H4 N M hi s3 yy hN => ?_) (fun H3 ys s3 hP ly hy => ?_)
    · obtain ⟨T, a0, b0, rfl, nT, rfl, ha, hb0⟩ := yy
      cases ha
      have hl0 : ls[i]? = some ls[i] := List.getElem?_eq_getElem (by omega)
      obtain ⟨T2, e2, hT2⟩ := hts2 i b0 _ hb0 hl0
      subst e2
      have s4 : Same H2 (upd H3 T (.tup [.int (i : Nat), .ref T2])) := s3.trans (same1 nT)
      have hT3 := s4 _ _ hT2
      have ne := (R i (by omega)).1
      rw [getD_get hl0] at ne
      obtain ⟨z, hz⟩ : ∃ z, ls[i].getLast? = some z := by
        cases e : ls[i].getLast? with
        | none => exact absurd (List.getLast?_eq_none_iff.mp e) ne
        | some z => exact ⟨z, rfl⟩
      have l0 : 0 < ls[i].length := List.length_pos_iff.mpr ne
      have hat : atI (ls[i].map V.int) (-1) = some (.int z) := atI_end (n := ls[i].length - 1) (by rw [List.length_map]; omega) (by rw [List.getElem?_map, ← List.getLast?_eq_getElem?, hz]; rfl)
      refine ⟨T, _, rfl, SqT.of upd_same, rfl, _, _, rfl, _, _, rfl, rfl, rfl, yesT ?_⟩
      walk_at "w"
      intro t2 nt2
      exact hN _ _ ((same1 nT).trans (same1 nt2)) ⟨t2, rfl, by rw [upd_same, last_at hl0 hz]⟩
    replace hS := s3 _ _ hS
    replace hA := s3 _ _ hA
    replace hD2 := s3 _ _ hD2
    replace hts2 : ∀ (i : Nat) (v : V) (l : List Int), ts[i]? = some v → ls[i]? = some l → ∃ T, v = .ref T ∧ H3 T = some (.tup (l.map V.int)) := fun i v l e1 e2 => by
      obtain ⟨T, e, h⟩ := hts2 i v l e1 e2
      exact ⟨T, e, s3 _ _ h⟩
    have s03 := s02.trans s3
    have pk : ∀ x ∈ ys, ∃ t, x = V.ref t ∧ H3 t = some (.tup [.int (kPr H3 x).1, .int (kPr H3 x).2]) := fun x hx => by
      obtain ⟨i, hi⟩ := List.mem_iff_getElem?.mp hx
      obtain ⟨t, rfl, ht⟩ := hy i x hi
      exact ⟨t, rfl, by rw [kPr_eq ht]; exact ht⟩
    clear s1 s2 s3 s02 nP nS nA
    refine ⟨P, ys, kPr H3, rfl, SqL.of hP, pk, fun ws W hsr hst nW => ?_⟩
    have hperm : ws.Perm ys := hst.perm
    have PP : PairsOf ls (ws.map (kPr H3)) := by
      constructor
      · refine (hperm.map _).trans (List.Perm.of_eq ?_)
        refine List.ext_getElem? fun i => ?_
        rw [List.getElem?_map, List.getElem?_map]
        by_cases hi : i < ls.length
        · obtain ⟨v, hv⟩ := geV (xs := ys) (n := i) (by omega)
          obtain ⟨t, rfl, ht⟩ := hy i v hv
          rw [hv, List.getElem?_range hi]
          show some (kPr H3 (.ref t)) = some _
          rw [kPr_eq ht]
        · rw [List.getElem?_eq_none (by omega), List.getElem?_eq_none (by rw [List.length_range]; omega)]
          rfl
      · intro i j p q hij hp hq
        rw [List.getElem?_map] at hp hq
        cases ep : ws[i]? with
        | none => rw [ep] at hp; cases hp
        | some u =>
        cases eq : ws[j]? with
        | none => rw [eq] at hq; cases hq
        | some v =>
        rw [ep] at hp; rw [eq] at hq
        cases hp; cases hq
        have li := (List.getElem?_eq_some_iff.mp ep)
        have lj := (List.getElem?_eq_some_iff.mp eq)
        have := List.pairwise_iff_getElem.mp hsr i j li.1 lj.1 hij
        rw [li.2, lj.2] at this
        have := SrtO.lexB_no.mp this
        omega
    have pkw : ∀ x ∈ ws, ∃ t, x = V.ref t ∧ H3 t = some (.tup [.int (kPr H3 x).1, .int (kPr H3 x).2]) := fun x hx => pk x (hperm.mem_iff.mp hx)
    have lw : ws.length = ls.length := by rw [hperm.length_eq]; omega
    have s4 : Same H3 (upd H3 W (.lst ws)) := same1 nW
    have hW : upd H3 W (.lst ws) W = some (.lst ws) := upd_same
    have neWS : S ≠ W := ne_of_none hS nW
    have neWA : A ≠ W := ne_of_none hA nW
    generalize upd H3 W (.lst ws) = H4 at *
    replace hS := s4 _ _ hS
    replace hA := s4 _ _ hA
    replace hD2 := s4 _ _ hD2
    replace s03 := s03.trans s4
    replace pkw : ∀ x ∈ ws, ∃ t, x = V.ref t ∧ H4 t = some (.tup [.int (kPr H3 x).1, .int (kPr H3 x).2]) := fun x hx => by
      obtain ⟨t, e, h⟩ := pkw x hx
      exact ⟨t, e, s4 _ _ h⟩
    replace hts2 : ∀ (i : Nat) (v : V) (l : List Int), ts[i]? = some v → ls[i]? = some l → ∃ T, v = .ref T ∧ H4 T = some (.tup (l.map V.int)) := fun i v l e1 e2 => by
      obtain ⟨T, e, h⟩ := hts2 i v l e1 e2
      exact ⟨T, e, s4 _ _ h⟩
    clear hst hsr hP hy pk s4 nW hperm hF hts
    generalize kPr H3 = kp at *
    have K2 : ∀ {Hx : Hp} {u1 u2 : HO}, (∀ c o, H4 c = some o → c ≠ S → c ≠ A → Hx c = some o) → (∀ c o, H4 c = some o → c ≠ S → c ≠ A → (upd (upd Hx S u1) A u2) c = some o) := fun h c o e n1 n2 => by
      rw [upd_ne n2, upd_ne n1]; exact h c o e n1 n2
    refine ⟨W, rfl, ⟨_, SqL.of hW⟩, ?_⟩
    refine for_list (K := K) (a := W) (xs := ws) (fun i σ H' => (∃ v1 v2, σ = [some (.ref D), some (.ref S), some (.ref A), v1, v2, none]) ∧ (∀ c o, H4 c = some o → c ≠ S → c ≠ A → H' c = some o) ∧ ∃ ss as, H' S = some (.lst (ss.map V.int)) ∧ H' A = some (.lst (as.map V.int)) ∧ GInv ls ((ws.map kp).take i) ss as ∧ ss.length ≤ i) ⟨⟨_, _, rfl⟩, fun c o e _ _ => e, [], [], hS, hA, GInv.nil, Nat.le_refl _⟩ (fun i σ H' _ q => SqL.of (q.2.1 _ _ hW neWS.symm neWA.symm)) ?_ ?_
    · rintro i x σ H5 hx ⟨⟨v1, v2, rfl⟩, k5, ss, as, hS5, hA5, g, lss⟩
      have hx2 : (ws.map kp)[i]? = some (kp x) := by rw [List.getElem?_map, hx]; rfl
      have hi : i < ws.length := (List.getElem?_eq_some_iff.mp hx).1
      obtain ⟨n, hn, en⟩ := PP.mem.mp (List.mem_of_getElem? hx2)
      obtain ⟨t, rfl, ht⟩ := pkw x (List.mem_of_getElem? hx)
      rw [en] at ht hx2
      have ht5 := k5 _ _ ht (ne_of ht hS (by intro z; cases z)) (ne_of ht hA (by intro z; cases z))
      have hl0 : ls[n]? = some ls[n] := List.getElem?_eq_getElem hn
      obtain ⟨T2, eT, hT2⟩ := FitsL.at (D := D) lt hts2 hl0
      have hT5 := k5 _ _ hT2 (ne_of hT2 hS (by intro z; cases z)) (ne_of hT2 hA (by intro z; cases z))
      have hD5 := k5 _ _ hD2 neDS neDA
      have nn := (R n hn).1
      rw [getD_get hl0] at nn
      have las : as.length = ss.length := g.len.symm
      refine ⟨t, _, rfl, SqT.of ht5, rfl, _, _, rfl, _, _, rfl, rfl, ?_⟩
      have fin : (∀ s, ss.getLast? = some s → s < firstI ls n) → (∃ v1 v2, ([some (V.ref D), some (V.ref S), some (V.ref A), some (V.int (lastI ls (n : Int))), some (V.int (n : Int)), none] : L2.St) = [some (.ref D), some (.ref S), some (.ref A), v1, v2, none]) ∧ (∀ c o, H4 c = some o → c ≠ S → c ≠ A → (upd (upd H5 S (.lst (ss.map V.int ++ [V.int (lastI ls (n : Int))]))) A (.lst (as.map V.int ++ [V.int (n : Int)]))) c = some o) ∧ ∃ ss' as', (upd (upd H5 S (.lst (ss.map V.int ++ [V.int (lastI ls (n : Int))]))) A (.lst (as.map V.int ++ [V.int (n : Int)]))) S = some (.lst (ss'.map V.int)) ∧ (upd (upd H5 S (.lst (ss.map V.int ++ [V.int (lastI ls (n : Int))]))) A (.lst (as.map V.int ++ [V.int (n : Int)]))) A = some (.lst (as'.map V.int)) ∧ GInv ls ((ws.map kp).take (i + 1)) ss' as' ∧ ss'.length ≤ i + 1 := fun h => by
        refine ⟨⟨_, _, rfl⟩, fun c o e n1 n2 => by rw [upd_ne n2, upd_ne n1]; exact k5 c o e n1 n2, ss ++ [lastI ls (n : Int)], as ++ [(n : Int)], ?_, ?_, g.take PP R hx2 h, by rw [List.length_append, List.length_singleton]; omega⟩
        · rw [upd_ne neSA, upd_same, map_snoc]
        · rw [upd_same, map_snoc]
      have hA6 : ∀ u, (upd H5 S u) A = some (.lst (as.map V.int)) := fun u => by rw [upd_ne neSA.symm]; exact hA5
      have lsm : (ss.map V.int).length = ss.length := List.length_map ..
      have lam : (as.map V.int).length = as.length := List.length_map ..
      have app : (∀ s, ss.getLast? = some s → s < firstI ls n) → True := fun _ => trivial
      cases els : ss.getLast? with
      | none =>
        have e0 : ss = [] := List.getLast?_eq_none_iff.mp els
        have f2 := fin (fun s q => by rw [els] at q; cases q)
        refine ⟨_, rfl, S, _, rfl, .inl (SqL.of hS5), rfl, _, rfl, ?_⟩
        rw [show decide (V.int (((ss.map V.int).length : Nat) : Int) = V.int 0) = true from decide_eq_true (by rw [e0]; rfl)]
        refine iteT ?_
        refine ⟨_, rfl, .inl ⟨rfl, _, SqL.of hS5⟩, _, rfl, S, _, _, rfl, rfl, hS5, szs (by omega), ?_⟩
        refine ⟨_, rfl, .inl ⟨rfl, _, SqL.of (hA6 _)⟩, _, rfl, A, _, _, rfl, rfl, hA6 _, szs (by omega), ?_⟩
        exact f2
      | some s =>
        have l0 : 0 < ss.length := by cases ss with | nil => simp at els | cons => simp
        have hat : atI (ss.map V.int) (-1) = some (.int s) := atI_end (n := ss.length - 1) (by rw [List.length_map]; omega) (by rw [List.getElem?_map, ← List.getLast?_eq_getElem?, els]; rfl)
        obtain ⟨f, rest, ef⟩ : ∃ f rest, ls[n] = f :: rest := by
          cases e : ls[n] with
          | nil => exact absurd e nn
          | cons f rest => exact ⟨f, rest, rfl⟩
        have efi : firstI ls (n : Int) = f := first_at (by rw [hl0, ef])
        rw [ef] at hT5
        refine ⟨_, rfl, S, _, rfl, .inl (SqL.of hS5), rfl, _, rfl, ?_⟩
        rw [show decide (V.int (((ss.map V.int).length : Nat) : Int) = V.int 0) = false from decide_eq_false (by intro q; have := V.int.inj q; omega)]
        refine iteF ?_
        refine ⟨_, rfl, _, rfl, S, _, _, _, rfl, rfl, SqL.of hS5, hat, _, rfl, _, rfl, D, ts, _, _, rfl, rfl, SqL.of hD5, atI_nat eT, T2, _, _, _, rfl, rfl, SqT.of hT5, atI_of (n := 0) rfl rfl, _, _, rfl, rfl, _, rfl, ?_⟩
        refine ite2 (fun e => ?_) (fun e => ?_)
        · have q := of_decide_eq_true e
          have f2 := fin (fun s' q' => by rw [els] at q'; cases q'; rw [efi]; exact q)
          refine ⟨_, rfl, .inl ⟨rfl, _, SqL.of hS5⟩, _, rfl, S, _, _, rfl, rfl, hS5, szs (by omega), ?_⟩
          refine ⟨_, rfl, .inl ⟨rfl, _, SqL.of (hA6 _)⟩, _, rfl, A, _, _, rfl, rfl, hA6 _, szs (by omega), ?_⟩
          exact f2
        · have q : ¬ s < f := fun z => e (decide_eq_true z)
          refine ⟨⟨_, _, rfl⟩, k5, ss, as, hS5, hA5, g.skip PP R hx2 els (by rw [efi]; omega), by omega⟩
    · rintro σ H5 ⟨⟨v1, v2, rfl⟩, k5, ss, as, hS5, hA5, g, lss⟩
      have s5 : Same H H5 := fun c o e => k5 c o (s03 _ _ e) (ne_of_none e nSH) (ne_of_none e nAH)
      have g : GInv ls (ws.map kp) ss as := by
        have e : (ws.map kp).take ws.length = ws.map kp := by
          have := List.take_length (l := ws.map kp)
          rwa [List.length_map] at this
        rw [e] at g
        exact g
      have las : as.length = ss.length := g.len.symm
      refine ⟨_, rfl, S, _, rfl, SqL.of hS5, fun TS nTS => ?_⟩
      have s6 : Same H5 (upd H5 TS (.tup (ss.map V.int))) := same1 nTS
      have hTS : upd H5 TS (.tup (ss.map V.int)) TS = some (.tup (ss.map V.int)) := upd_same
      generalize upd H5 TS (.tup (ss.map V.int)) = H6 at *
      refine ⟨_, rfl, A, as, rfl, SqL.of (s6 _ _ hA5), by omega, fun as' L1 hp hs nL => ?_⟩
      refine ⟨L1, _, rfl, SqL.of upd_same, fun TA nTA => ?_⟩
      walk_at "w"
      intro T nT
      have hTA : upd (upd H6 L1 (.lst (as'.map V.int))) TA (.tup (as'.map V.int)) TA = some (.tup (as'.map V.int)) := upd_same
      have sx : Same H6 (upd (upd (upd H6 L1 (.lst (as'.map V.int))) TA (.tup (as'.map V.int))) T (.tup [.ref TS, .ref TA])) := ((same1 nL : Same H6 _).up nTA).up nT
      exact kk T TS TA ss as' _ ((s5.trans s6).trans sx) upd_same (sx _ _ hTS) (up1 nT hTA) (few_of PP R g hp hs)
theorem ok_stock_for {P : Program} {w : World} {K : PySem.W.Frag} {mg : Str → Option Value} {base : Heap} {φ : Fds} (T : Txt K mg φ) : FnOk P w K mg base CX0 7 (He.fAd K ("stock_for", none)) φ.stock_for p_stock_for (sp_stockfor K (He.ga K "Measure") (He.ga K "Ladder")) := by
  obtain ⟨_, B0v, B0⟩ := b_fitting_of_4 T
  obtain ⟨_, B1v, B1⟩ := b_first_bare_1 T
  obtain ⟨_, B2v, B2⟩ := b_fewest_of_1 T
  refine T.f_stock_for.ok sc_stock_for (fun vs H Q E h => ?_) (fun cdv A outer s H vs Q E hr h => ?_)
  · obtain ⟨p, F, s', t, k, j, fs, zs, r, lo, hi, xs, y, e, rfl, hL, hF, mF, qs, qt, k0, k1, j0, j1, lx, kk⟩ := h; rfl
  · obtain ⟨p, F, s', t, k, j, fs, zs, r, lo, hi, xs, y, e, rfl, hL, hF, mF, qs, qt, k0, k1, j0, j1, lx, kk⟩ := h
    refine ⟨_, PSs.nox (pss_cons (ps_set (i := 4) sc_stock_for.nd rfl (Or.inl rfl) (pe_call (ok_fitting_of (K := K) T) (hr.mono (by decide)) rfl T.g_fitting_of T.f_fitting_of.kp B0 B0v pass0 (pa_cons (pv 0) (pa_cons (pv 1) (pa_cons (pv 2) (pa_cons (pv 3) pa_nil))))))
      (pss_cons (ps_set (i := 5) sc_stock_for.nd rfl (Or.inl rfl) (pe_call (ok_first_bare (K := K) T) (hr.mono (by decide)) rfl T.g_first_bare T.f_first_bare.kp B1 B1v pass0 (pa_cons (pv 4) pa_nil)))
      (pss_cons (ps_if (pt_cmpR op_notN (pv 5) pe_non (nomark _))
      (pss_one (ps_ret (pe_tup (pa_cons pe_str (pa_cons (pv 5) pa_nil)))))
      pss_nil)
      (pss_cons (ps_asg (pe_call (ok_fewest_of (K := K) T) (hr.mono (by decide)) rfl T.g_fewest_of T.f_fewest_of.kp B2 B2v pass0 (pa_cons (pv 4) pa_nil)) (pg_tup rfl (pgs_cons (pg_name (i := 6) sc_stock_for.nd rfl (Or.inl rfl)) (pgs_cons (pg_name (i := 7) sc_stock_for.nd rfl (Or.inl rfl)) pgs_nil))))
      (pss_one (ps_ret (pe_tup (pa_cons pe_str (pa_cons (pv 6) (pa_cons (pv 7) pa_nil)))))))))), ?_⟩
    have l24 := hL.len1
    have ri := hL.rise
    walk_at "w"
    refine ⟨zs, r, lo, hi, xs, y, e, rfl, hL, hF, mF, qs, qt, k0, k1, j0, j1, by omega, fun D H1 s1 FL => ?_⟩
    have len : ∀ l ∈ fitL zs xs y (e.getD (0, 1)), l.length ≤ 24 := fun l hl => Nat.le_trans (fitL_len l hl) l24
    have ll : (fitL zs xs y (e.getD (0, 1))).length ≤ 60 := by unfold fitL; rw [List.length_map]; exact lx
    walk_at "w"
    refine ⟨_, rfl, FL, by omega, len, fun o H2 s2 B => ?_⟩
    cases o with
    | some n =>
      refine ⟨_, rfl, rfl, _, rfl, ?_⟩
      rw [show (!decide (optI (some n) = V.non)) = true from rfl]
      refine iteT ?_
      walk_at "w"
      intro T nT
      exact kk T _ ((s1.trans s2).trans (same1 nT)) (.inl ⟨n, B, upd_same⟩)
    | none =>
      refine ⟨_, rfl, rfl, _, rfl, ?_⟩
      rw [show (!decide (optI none = V.non)) = false from rfl]
      refine iteF ?_
      have R : RunsI (fitL zs xs y (e.getD (0, 1))) := fun i hi => by
        have hl0 : (fitL zs xs y (e.getD (0, 1)))[i]? = some (fitL zs xs y (e.getD (0, 1)))[i] := List.getElem?_eq_getElem hi
        have ne := B _ (List.mem_of_getElem? hl0)
        refine ⟨by rw [getD_get hl0]; exact ne, ?_⟩
        exact runs_fitL hl0 ne
      walk_at "w"
      refine ⟨_, rfl, FL.same s2, ll, len, R, fun T S A ss as H3 s3 hT hS hA few => ?_⟩
      walk_at "w"
      intro T2 nT2
      have sx : Same H3 (upd H3 T2 (.tup [.str "stock", .ref S, .ref A])) := same1 nT2
      exact kk T2 _ (((s1.trans s2).trans s3).trans sx) (.inr ⟨B, S, A, ss, as, upd_same, sx _ _ hS, sx _ _ hA, few⟩)
theorem ok_Ladder_len {P : Program} {w : World} {K : PySem.W.Frag} {mg : Str → Option Value} {base : Heap} {φ : Fds} (T : Txt K mg φ) : FnOk P w K mg base CX0 1 (He.fAd K ("Ladder", some "__len__")) φ.Ladder_len p_Ladder_len (sp_llen K (He.ga K "Measure") (He.ga K "Ladder")) := by
  refine T.f_Ladder_len.ok sc_Ladder_len (fun vs H Q E h => ?_) (fun cdv A outer s H vs Q E hr h => ?_)
  · obtain ⟨p, k, zs, r, lo, hi, rfl, hL, kk⟩ := h; rfl
  · obtain ⟨p, k, zs, r, lo, hi, rfl, hL, kk⟩ := h
    refine ⟨_, PSs.nox (pss_one (ps_ret (pe_callB (id := "len") (lenS (K := K)) (by rfl) T.z_len PySem.boot_len (pa_cons (fldK (K := K) (pv 0) rfl) pa_nil)))), ?_⟩
    have cl_Ladder := T.cl_Ladder
    have na_Ladder_marks := T.na_Ladder_marks
    have na_Ladder_rule := T.na_Ladder_rule
    have na_Ladder_least := T.na_Ladder_least
    have na_Ladder_most := T.na_Ladder_most
    
    obtain ⟨⟨dx, T', ps, l, h, hp, hT, hm, ql, qh⟩, l0, l1, hri, hru, hsp⟩ := hL
    have el : ps.length = zs.length := hm.len
    walk_at "w"
    rw [el]
    exact kk
theorem ok_is_tuple_of {P : Program} {w : World} {K : PySem.W.Frag} {mg : Str → Option Value} {base : Heap} {φ : Fds} (T : Txt K mg φ) : FnOk P w K mg base CX0 1 (He.fAd K ("is_tuple_of", none)) φ.is_tuple_of p_is_tuple_of (sp_istup K) := by
  refine T.f_is_tuple_of.ok sc_is_tuple_of (fun vs H Q E h => ?_) (fun cdv A outer s H vs Q E hr h => ?_)
  · obtain ⟨a, xs, n, rfl, hT, kk⟩ := h; rfl
  · obtain ⟨a, xs, n, rfl, hT, kk⟩ := h
    refine ⟨_, PSs.nox (pss_one (ps_ret (pe_and (pe_callB (id := "isinstance") (isi (K := K)) (by rfl) T.z_isinstance (by decide +kernel) (pa_cons (pv 0) (pa_cons (pe_bltn (v := .ty "tuple") rfl T.z_tuple (by decide +kernel) rfl) pa_nil))) (pe_one (pe_cmpR op_eq (pe_callB (id := "len") (lenS (K := K)) (by rfl) T.z_len PySem.boot_len (pa_cons (pv 0) pa_nil)) (pv 1) (nomark _)))))), ?_⟩
    walk_at "w"
    refine ⟨_, _, _, rfl, .ty _, tyTup hT, kit_ty (r := true) (by decide +kernel), ?_⟩
    walk_at "w"
    have e : decide (V.int ((xs.length : Nat) : Int) = V.int n) = decide ((xs.length : Int) = n) := decide_eq_decide.mpr ⟨fun h => V.int.inj h, fun h => by rw [h]⟩
    rw [e]
    exact kk
theorem ok_is_number {P : Program} {w : World} {K : PySem.W.Frag} {mg : Str → Option Value} {base : Heap} {φ : Fds} (T : Txt K mg φ) : FnOk P w K mg base CX0 2 (He.fAd K ("is_number", none)) φ.is_number p_is_number sp_isnum := by
  obtain ⟨_, B0v, B0⟩ := b_is_whole_1 T
  refine T.f_is_number.ok sc_is_number (fun vs H Q E h => ?_) (fun cdv A outer s H vs Q E hr h => ?_)
  · obtain ⟨a, b, rfl, kk⟩ := h; rfl
  · obtain ⟨a, b, rfl, kk⟩ := h
    refine ⟨_, PSs.nox (pss_one (ps_ret (pe_and (pe_call (ok_is_whole (K := K) T) (hr.mono (by decide)) rfl T.g_is_whole T.f_is_whole.kp B0 B0v pass0 (pa_cons (pv 0) pa_nil)) (pe_one (pe_cmpR op_eq (pv 0) (pv 1) (nomark _)))))), ?_⟩
    walk_at "w"
    have e : decide (V.int a = V.int b) = decide (a = b) := decide_eq_decide.mpr ⟨fun h => V.int.inj h, fun h => by rw [h]⟩
    rw [e]
    exact kk
theorem ok_is_word {P : Program} {w : World} {K : PySem.W.Frag} {mg : Str → Option Value} {base : Heap} {φ : Fds} (T : Txt K mg φ) : FnOk P w K mg base CX0 1 (He.fAd K ("is_word", none)) φ.is_word p_is_word sp_isword := by
  refine T.f_is_word.ok sc_is_word (fun vs H Q E h => ?_) (fun cdv A outer s H vs Q E hr h => ?_)
  · obtain ⟨a, b, rfl, kk⟩ := h; rfl
  · obtain ⟨a, b, rfl, kk⟩ := h
    refine ⟨_, PSs.nox (pss_one (ps_ret (pe_and (pe_callB (id := "isinstance") (isi (K := K)) (by rfl) T.z_isinstance (by decide +kernel) (pa_cons (pv 0) (pa_cons (pe_bltn (v := .ty "str") rfl T.z_str (by decide +kernel) rfl) pa_nil))) (pe_one (pe_cmpR op_eq (pv 0) (pv 1) (nomark _)))))), ?_⟩
    walk_at "w"
    refine ⟨_, _, _, rfl, .ty _, .base (.str _), kit_ty (r := true) (by decide +kernel), ?_⟩
    walk_at "w"
    have e : decide (V.str a = V.str b) = decide (a = b) := decide_eq_decide.mpr ⟨fun h => V.str.inj h, fun h => by rw [h]⟩
    rw [e]
    exact kk
theorem ok_are_wholes {P : Program} {w : World} {K : PySem.W.Frag} {mg : Str → Option Value} {base : Heap} {φ : Fds} (T : Txt K mg φ) : FnOk P w K mg base CX0 2 (He.fAd K ("are_wholes", none)) φ.are_wholes p_are_wholes (sp_arew K) := by
  obtain ⟨_, B0v, B0⟩ := b_is_whole_1 T
  refine T.f_are_wholes.ok sc_are_wholes (fun vs H Q E h => ?_) (fun cdv A outer s H vs Q E hr h => ?_)
  · obtain ⟨a, ns, rfl, hT, hn, kk⟩ := h; rfl
  · obtain ⟨a, ns, rfl, hT, hn, kk⟩ := h
    refine ⟨_, PSs.nox (pss_one (ps_ret (pe_and (pe_callB (id := "isinstance") (isi (K := K)) (by rfl) T.z_isinstance (by decide +kernel) (pa_cons (pv 0) (pa_cons (pe_bltn (v := .ty "tuple") rfl T.z_tuple (by decide +kernel) rfl) pa_nil))) (pe_one (pe_callB (id := "all") (allK (K := K)) (by rfl) T.z_all (by decide +kernel) (pa_cons (pe_lc (own := [("part", 1)]) (g := gName 1) rfl sc_are_wholes.nd (pi_tup (pv 0)) (blkOk_by (own := [("part", 1)]) (N := N_are_wholes) (sc := (defScope s_are_wholes)) (by decide +kernel)) (fun _ _ _ _ _ => (pg_name (i := 1) sc_are_wholes.nd rfl (Or.inl rfl))) (fun _ _ _ _ _ => pts_nil) (fun _ _ _ _ _ => (pe_call (ok_is_whole (K := K) T) (hr.mono (by decide)) rfl T.g_is_whole T.f_is_whole.kp B0 B0v pass0 (pa_cons (pv 1) pa_nil)))) pa_nil)))))), ?_⟩
    walk_at "w"
    refine ⟨_, _, _, rfl, .ty _, tyTup hT, kit_ty (r := true) (by decide +kernel), ?_⟩
    walk_at "w"
    refine ⟨⟨_, hT⟩, fun D nD => ?_⟩
    refine lcz (n := (ns.map V.int).length) walk_tup (fun _ _ g s => s.sqt g) (List.replicate (ns.map V.int).length (some (V.bl true))) List.length_replicate (szs (by rw [List.length_map]; omega)) hT nD (fun i x H1 H2 o N M hi ho s1 yy hN hM => ?_) (fun H1 s1 hD => ?_)
    · obtain ⟨rfl, hx⟩ := yy
      obtain ⟨z, _, rfl⟩ := List.mem_map.mp (List.mem_of_getElem? hx)
      rw [List.getElem?_replicate, if_pos hi] at ho
      cases ho
      refine ⟨rfl, yesT ?_⟩
      walk_at "w"
      exact hN _ _ rfl (Same.refl _)
    rw [filT] at hD
    refine ⟨D, _, rfl, SqL.of hD, ?_⟩
    rw [allT]
    exact kk _ s1
theorem ok_all_below {P : Program} {w : World} {K : PySem.W.Frag} {mg : Str → Option Value} {base : Heap} {φ : Fds} (T : Txt K mg φ) : FnOk P w K mg base CX0 1 (He.fAd K ("all_below", none)) φ.all_below p_all_below (sp_abel K) := by
  refine T.f_all_below.ok sc_all_below (fun vs H Q E h => ?_) (fun cdv A outer s H vs Q E hr h => ?_)
  · obtain ⟨a, ns, n, rfl, hT, hn, kk⟩ := h; rfl
  · obtain ⟨a, ns, n, rfl, hT, hn, kk⟩ := h
    refine ⟨_, PSs.nox (pss_one (ps_ret (pe_callB (id := "all") (allK (K := K)) (by rfl) T.z_all (by decide +kernel) (pa_cons (pe_lc (own := [("number", 2)]) (g := gName 2) rfl sc_all_below.nd (pi_tup (pv 0)) (blkOk_by (own := [("number", 2)]) (N := N_all_below) (sc := (defScope s_all_below)) (by decide +kernel)) (fun _ _ _ _ _ => (pg_name (i := 2) sc_all_below.nd rfl (Or.inl rfl))) (fun _ _ _ _ _ => pts_nil) (fun _ _ _ _ _ => (pe_chain op_le op_lt pe_int (pv 2) (pv 1)))) pa_nil)))), ?_⟩
    walk_at "w"
    refine ⟨⟨_, hT⟩, fun D nD => ?_⟩
    refine lcz (n := (ns.map V.int).length) walk_tup (fun _ _ g s => s.sqt g) (ns.map fun z => some (V.bl (decide (0 ≤ z) && decide (z < n)))) (by rw [List.length_map, List.length_map]) (szs (by rw [List.length_map]; omega)) hT nD (fun i x H1 H2 o N M hi ho s1 yy hN hM => ?_) (fun H1 s1 hD => ?_)
    · obtain ⟨rfl, hx⟩ := yy
      rw [List.getElem?_map] at hx ho
      have hi2 : i < ns.length := by rw [List.length_map] at hi; exact hi
      rw [List.getElem?_eq_getElem hi2] at hx ho
      cases hx
      cases ho
      generalize ns[i] = z at hN
      refine ⟨rfl, yesT ?_⟩
      walk_at "w"
      refine ite2 (fun e => ?_) (fun e => ?_)
      · walk_at "w"
        refine hN _ _ ?_ (Same.refl _)
        show some (V.bl (decide (0 ≤ z) && decide (z < n))) = _
        rw [e]
        rfl
      · refine hN _ _ ?_ (Same.refl _)
        show some (V.bl (decide (0 ≤ z) && decide (z < n))) = _
        rw [eq_false_of_ne_true e]
        rfl
    have eD : (ns.map fun z => some (V.bl (decide (0 ≤ z) && decide (z < n)))).filterMap _root_.id = (ns.map fun z => decide (0 ≤ z) && decide (z < n)).map V.bl := by rw [List.filterMap_map, List.map_map]; rw [show (_root_.id ∘ fun z => some (V.bl (decide (0 ≤ z) && decide (z < n)))) = (some ∘ fun z => V.bl (decide (0 ≤ z) && decide (z < n))) from rfl, List.filterMap_eq_map]; rfl
    rw [eD] at hD
    refine ⟨D, _, rfl, SqL.of hD, ?_⟩
    have eA : (ns.map fun z => decide (0 ≤ z) && decide (z < n)).all _root_.id = belB ns n := by
      unfold belB
      rw [List.all_map]
      rfl
    rw [eA]
    exact kk _ s1
theorem ok_shares {P : Program} {w : World} {K : PySem.W.Frag} {mg : Str → Option Value} {base : Heap} {φ : Fds} (T : Txt K mg φ) : FnOk P w K mg base CX0 1 (He.fAd K ("shares", none)) φ.shares p_shares (sp_shares K) := by
  refine T.f_shares.ok sc_shares (fun vs H Q E h => ?_) (fun cdv A outer s H vs Q E hr h => ?_)
  · obtain ⟨a, b, xs, ys, rfl, hT, hU, hn, hm, kk⟩ := h; rfl
  · obtain ⟨a, b, xs, ys, rfl, hT, hU, hn, hm, kk⟩ := h
    refine ⟨_, PSs.nox (pss_one (ps_ret (pe_callB (id := "any") (anyK (K := K)) (by rfl) T.z_any (by decide +kernel) (pa_cons (pe_lc (own := [("size", 2)]) (g := gName 2) rfl sc_shares.nd (pi_tup (pv 0)) (blkOk_by (own := [("size", 2)]) (N := N_shares) (sc := (defScope s_shares)) (by decide +kernel)) (fun _ _ _ _ _ => (pg_name (i := 2) sc_shares.nd rfl (Or.inl rfl))) (fun _ _ _ _ _ => pts_nil) (fun _ _ _ _ _ => (pe_cmpR (inK (K := K)) (pv 2) (pv 1) (by rfl)))) pa_nil)))), ?_⟩
    walk_at "w"
    refine ⟨⟨_, hT⟩, fun D nD => ?_⟩
    refine lcz (n := (xs.map V.int).length) walk_tup (fun _ _ g s => s.sqt g) (xs.map fun z => some (V.bl (decide (z ∈ ys)))) (by rw [List.length_map, List.length_map]) (szs (by rw [List.length_map]; omega)) hT nD (fun i x H1 H2 o N M hi ho s1 yy hN hM => ?_) (fun H1 s1 hD => ?_)
    · obtain ⟨rfl, hx⟩ := yy
      rw [List.getElem?_map] at hx ho
      have hi2 : i < xs.length := by rw [List.length_map] at hi; exact hi
      rw [List.getElem?_eq_getElem hi2] at hx ho
      cases hx
      cases ho
      generalize xs[i] = z at hN
      refine ⟨rfl, yesT ?_⟩
      walk_at "w"
      all_goals (try refine ⟨.inr (s1.sqt hU), rfl, flat_ints ys, ?_⟩)
      refine hN _ _ ?_ (Same.refl _)
      show some (V.bl (decide (z ∈ ys))) = some (V.bl (inV (V.int z) (ys.map V.int)))
      rw [inV_ints]
    have eD : (xs.map fun z => some (V.bl (decide (z ∈ ys)))).filterMap _root_.id = (xs.map fun z => decide (z ∈ ys)).map V.bl := by rw [List.filterMap_map, List.map_map]; rw [show (_root_.id ∘ fun z => some (V.bl (decide (z ∈ ys)))) = (some ∘ fun z => V.bl (decide (z ∈ ys))) from rfl, List.filterMap_eq_map]; rfl
    rw [eD] at hD
    refine ⟨D, _, rfl, SqL.of hD, ?_⟩
    have eA : (xs.map fun z => decide (z ∈ ys)).any _root_.id = shrB xs ys := by
      unfold shrB
      rw [List.any_map]
      rfl
    rw [eA]
    exact kk _ s1
theorem ok_are_rising {P : Program} {w : World} {K : PySem.W.Frag} {mg : Str → Option Value} {base : Heap} {φ : Fds} (T : Txt K mg φ) : FnOk P w K mg base CX0 3 (He.fAd K ("are_rising", none)) φ.are_rising p_are_rising (sp_rising K) := by
  obtain ⟨_, B0v, B0⟩ := b_all_below_2 T
  obtain ⟨_, B1v, B1⟩ := b_are_wholes_1 T
  refine T.f_are_rising.ok sc_are_rising (fun vs H Q E h => ?_) (fun cdv A outer s H vs Q E hr h => ?_)
  · obtain ⟨a, ns, n, rfl, hT, hn, kk⟩ := h; rfl
  · obtain ⟨a, ns, n, rfl, hT, hn, kk⟩ := h
    refine ⟨_, PSs.nox (pss_cons (ps_if (PW.pt (pw_or (pt_not (pt_val (pe_call (ok_are_wholes (K := K) T) (hr.mono (by decide)) rfl T.g_are_wholes T.f_are_wholes.kp B1 B1v pass0 (pa_cons (pv 0) pa_nil)))) (pw_or1 (pt_not (pt_val (pe_call (ok_all_below (K := K) T) (hr.mono (by decide)) rfl T.g_all_below T.f_all_below.kp B0 B0v pass0 (pa_cons (pv 0) (pa_cons (pv 1) pa_nil))))))))
      (pss_one (ps_ret pe_bl))
      pss_nil)
      (pss_one (ps_ret (pe_callB (id := "all") (allK (K := K)) (by rfl) T.z_all (by decide +kernel) (pa_cons (pe_lc (own := [("at", 2)]) (g := gName 2) rfl sc_are_rising.nd (pi_range2 rfl T.z_range (pa_cons pe_int (pa_cons (pe_callB (id := "len") (lenS (K := K)) (by rfl) T.z_len PySem.boot_len (pa_cons (pv 0) pa_nil)) pa_nil))) (blkOk_by (own := [("at", 2)]) (N := N_are_rising) (sc := (defScope s_are_rising)) (by decide +kernel)) (fun _ _ _ _ _ => (pg_name (i := 2) sc_are_rising.nd rfl (Or.inl rfl))) (fun _ _ _ _ _ => pts_nil) (fun _ _ _ _ _ => (pe_cmpR op_lt (pe_ix (ixt (K := K)) (pv 0) (pe_op op_sub (pv 2) pe_int) (fun _ _ => rfl)) (pe_ix (ixt (K := K)) (pv 0) (pv 2) (fun _ _ => rfl)) (nomark _)))) pa_nil))))), ?_⟩
    walk_at "w"
    all_goals (try refine ⟨ns, rfl, hT, hn, fun H1 s1 => ?_⟩)
    walk_at "w"
    all_goals (try refine ⟨ns, n, rfl, s1.sqt hT, hn, fun H2 s2 => ?_⟩)
    walk_at "w"
    generalize eb : belB ns n = bb at kk ⊢
    cases bb
    · rw [if_pos (by rfl)]
      walk_at "w"
      exact kk _ (s1.trans s2)
    rw [if_neg (by decide)]
    walk_at "w"
    all_goals (try refine ⟨.inr ((s1.trans s2).sqt hT), ?_⟩)
    refine ⟨_, _, rfl, ⟨by decide, by decide, by omega, by rw [List.length_map]; omega⟩, fun D nD => ?_⟩
    have em : (((ns.map V.int).length : Int) - 1).toNat = ns.length - 1 := by rw [List.length_map]; omega
    rw [em]
    refine lcz (n := ns.length - 1) walk_range (fun _ _ _ _ => trivial) ((List.range (ns.length - 1)).map fun i => some (V.bl (decide (ns.getD i 0 < ns.getD (i + 1) 0)))) (by rw [List.length_map, List.length_range]) (szs (by omega)) trivial nD (fun i x H3 H4 o N M hi ho s3 yy hN hM => ?_) (fun H3 s3 hD => ?_)
    · obtain ⟨rfl, rfl⟩ := yy
      rw [List.getElem?_map, List.getElem?_range hi] at ho
      cases ho
      have hT3 := ((s1.trans s2).trans s3).sqt hT
      have e1 : (ns.map V.int)[i]? = some (V.int ns[i]) := by rw [List.getElem?_map, List.getElem?_eq_getElem (by omega)]; rfl
      have e2 : (ns.map V.int)[i + 1]? = some (V.int ns[i + 1]) := by rw [List.getElem?_map, List.getElem?_eq_getElem (by omega)]; rfl
      refine ⟨rfl, yesT ?_⟩
      refine ⟨_, rfl, _, rfl, _, _, rfl, rfl, a, _, _, _, rfl, rfl, hT3, atI_of (n := i) (by omega) e1, _, rfl, _, rfl, a, _, _, _, rfl, rfl, hT3, atI_of (n := i + 1) (by omega) e2, _, _, rfl, rfl, ?_⟩
      refine hN _ _ ?_ (Same.refl _)
      have g1 : ns.getD i 0 = ns[i] := getDI (List.getElem?_eq_getElem (by omega))
      have g2 : ns.getD (i + 1) 0 = ns[i + 1] := getDI (List.getElem?_eq_getElem (by omega))
      show some (V.bl (decide (ns.getD i 0 < ns.getD (i + 1) 0))) = _
      rw [g1, g2]
    rw [fmap_some] at hD
    refine ⟨D, (List.range (ns.length - 1)).map fun i => decide (ns.getD i 0 < ns.getD (i + 1) 0), rfl, SqL.of (by rw [hD, List.map_map]; rfl), ?_⟩
    rw [List.all_map]
    have eR := risB_at ns
    rw [show ((List.range (ns.length - 1)).all (_root_.id ∘ fun i => decide (ns.getD i 0 < ns.getD (i + 1) 0))) = risB ns from eR.symm]
    exact kk _ ((s1.trans s2).trans s3)
theorem ok_are_sizes {P : Program} {w : World} {K : PySem.W.Frag} {mg : Str → Option Value} {base : Heap} {φ : Fds} (T : Txt K mg φ) : FnOk P w K mg base CX0 4 (He.fAd K ("are_sizes", none)) φ.are_sizes p_are_sizes (sp_arsz K (He.ga K "Measure") (He.ga K "Ladder")) := by
  obtain ⟨_, B0v, B0⟩ := b_shares_2 T
  obtain ⟨_, B1v, B1⟩ := b_are_rising_2 T
  obtain ⟨_, B2v, B2⟩ := b_Ladder_len_1 T
  refine T.f_are_sizes.ok sc_are_sizes (fun vs H Q E h => ?_) (fun cdv A outer s H vs Q E hr h => ?_)
  · obtain ⟨A0, p, D, ns, ls, k, zs, r, lo, hi, rfl, hT, hL, hF, hn, hl, l24, kk⟩ := h; rfl
  · obtain ⟨A0, p, D, ns, ls, k, zs, r, lo, hi, rfl, hT, hL, hF, hn, hl, l24, kk⟩ := h
    refine ⟨_, PSs.nox (pss_one (ps_ret (pe_and (pe_call (ok_are_rising (K := K) T) (hr.mono (by decide)) rfl T.g_are_rising T.f_are_rising.kp B1 B1v pass0 (pa_cons (pv 0) (pa_cons (pe_callB (id := "len") (call_lenO (ok_Ladder_len (K := K) T) T.me_Ladder_len (bnil B2v B2) pass0 (hr.mono (by decide))) (by rfl) T.z_len PySem.boot_len (pa_cons (pv 1) pa_nil)) pa_nil))) (pe_one (pe_callB (id := "all") (allK (K := K)) (by rfl) T.z_all (by decide +kernel) (pa_cons (pe_lc (own := [("run", 3)]) (g := gName 3) rfl sc_are_sizes.nd (pi_list (pv 2)) (blkOk_by (own := [("run", 3)]) (N := N_are_sizes) (sc := (defScope s_are_sizes)) (by decide +kernel)) (fun _ _ _ _ _ => (pg_name (i := 3) sc_are_sizes.nd rfl (Or.inl rfl))) (fun _ _ _ _ _ => pts_nil) (fun _ _ _ _ _ => (pe_call (ok_shares (K := K) T) (hr.mono (by decide)) rfl T.g_shares T.f_shares.kp B0 B0v pass0 (pa_cons (pv 3) (pa_cons (pv 0) pa_nil))))) pa_nil)))))), ?_⟩
    have cl_Ladder := T.cl_Ladder
    have na_Ladder_marks := T.na_Ladder_marks
    have na_Ladder_rule := T.na_Ladder_rule
    have na_Ladder_least := T.na_Ladder_least
    have na_Ladder_most := T.na_Ladder_most
    
    have l1 := hL.len1
    have hL0 := hL
    obtain ⟨⟨dx, T', ps, l, h, hp, hT', _⟩, _⟩ := hL0
    walk_at "w"
    refine ⟨zs, r, lo, hi, rfl, hL, ?_⟩
    refine ⟨zs.length, rfl, by omega, ?_⟩
    refine ⟨A0, ns, (zs.length : Int), rfl, hT, hn, fun H1 s1 => ?_⟩
    walk_at "w"
    obtain ⟨ts, hD, lt, hts⟩ := (hF.same s1).ob
    cases eb : (belB ns (zs.length : Int) && risB ns) with
    | false =>
      refine iteF ?_
      have := kk _ s1
      unfold sizB at this
      rw [eb] at this
      exact this
    | true =>
      refine iteT ?_
      refine ⟨_, rfl, _, rfl, ⟨_, SqL.of hD⟩, fun D2 nD2 => ?_⟩
      have hT1 := s1.sqt hT
      refine lcz (n := ts.length) walk_list (fun _ _ g s => s.seq g) (ls.map fun l => some (V.bl (shrB l ns))) (by rw [List.length_map, lt]) (szs (by omega)) (SqL.of hD) nD2 (fun i x H3 H4 o N M hi ho s3 yy hN hM => ?_) (fun H3 s3 hD3 => ?_)
      · obtain ⟨rfl, hx⟩ := yy
        have hl0 : ls[i]? = some ls[i] := List.getElem?_eq_getElem (by omega)
        obtain ⟨T2, rfl, hT2⟩ := hts i x _ hx hl0
        rw [List.getElem?_map, hl0] at ho
        cases ho
        have := l24 _ (List.mem_of_getElem? hl0)
        refine ⟨rfl, yesT ?_⟩
        refine ⟨_, rfl, _, rfl, T2, A0, ls[i], ns, rfl, SqT.of (s3 _ _ hT2), s3.sqt hT1, by omega, hn, fun H5 s5 => ?_⟩
        exact hN _ _ rfl s5
      rw [fmap_some] at hD3
      refine ⟨D2, ls.map fun l => shrB l ns, rfl, SqL.of (by rw [hD3, List.map_map]; rfl), ?_⟩
      rw [List.all_map]
      have := kk _ (s1.trans s3)
      unfold sizB at this
      rw [eb, Bool.true_and] at this
      exact this
theorem ok_are_apart {P : Program} {w : World} {K : PySem.W.Frag} {mg : Str → Option Value} {base : Heap} {φ : Fds} (T : Txt K mg φ) : FnOk P w K mg base CX0 4 (He.fAd K ("are_apart", none)) φ.are_apart p_are_apart (sp_arap K) := by
  obtain ⟨_, B0v, B0⟩ := b_are_rising_2 T
  obtain ⟨_, B1v, B1⟩ := b_shares_2 T
  refine T.f_are_apart.ok sc_are_apart (fun vs H Q E h => ?_) (fun cdv A outer s H vs Q E hr h => ?_)
  · obtain ⟨A0, D, ns, ls, rfl, hT, hF, hn, hl, l24, kk⟩ := h; rfl
  · obtain ⟨A0, D, ns, ls, rfl, hT, hF, hn, hl, l24, kk⟩ := h
    refine ⟨_, PSs.nox (pss_cons (ps_if (pt_not (pt_val (pe_call (ok_are_rising (K := K) T) (hr.mono (by decide)) rfl T.g_are_rising T.f_are_rising.kp B0 B0v pass0 (pa_cons (pv 0) (pa_cons (pe_callB (id := "len") (lenS (K := K)) (by rfl) T.z_len PySem.boot_len (pa_cons (pv 1) pa_nil)) pa_nil)))))
      (pss_one (ps_ret pe_bl))
      pss_nil)
      (pss_one (ps_ret (pe_not (pe_callB (id := "any") (anyK (K := K)) (by rfl) T.z_any (by decide +kernel) (pa_cons (pe_lc2 (own := [("one", 2), ("other", 3)]) (g := gName 2) (g1 := gName 3) (vs1 := [3]) rfl sc_are_apart.nd (pi_tup (pv 0)) (blkOk_by (own := [("one", 2), ("other", 3)]) (N := N_are_apart) (sc := (defScope s_are_apart)) (by decide +kernel)) (by decide) (fun _ _ _ _ _ => (pg_name (i := 2) sc_are_apart.nd rfl (Or.inl rfl))) (fun _ _ _ _ _ => pts_nil) (fun _ _ _ _ _ => (pi_tupK (K := K) (pv 0))) (fun _ _ _ _ _ => (pg_name (i := 3) sc_are_apart.nd rfl (Or.inl rfl))) (fun _ _ _ _ _ => (pts_one (pt_cmpR op_lt (pv 2) (pv 3) (nomark _)))) (fun _ _ _ _ _ => (pe_call (ok_shares (K := K) T) (hr.mono (by decide)) rfl T.g_shares T.f_shares.kp B1 B1v pass0 (pa_cons (pe_ix (ixl (K := K)) (pv 1) (pv 2) (fun _ _ => rfl)) (pa_cons (pe_ix (ixl (K := K)) (pv 1) (pv 3) (fun _ _ => rfl)) pa_nil))))) pa_nil)))))), ?_⟩
    obtain ⟨ts, hD, lt, hts⟩ := hF.ob
    refine ⟨_, rfl, _, rfl, D, ts, rfl, .inl (SqL.of hD), ?_⟩
    walk_at "w"
    refine ⟨ns, (ls.length : Int), by rw [← lt]; rfl, hT, by omega, fun H1 s1 => ?_⟩
    refine ⟨_, rfl, ?_⟩
    cases eb : (belB ns (ls.length : Int) && risB ns) with
    | false =>
      refine iteT ?_
      walk_at "w"
      have := kk _ s1
      unfold aptB at this
      rw [eb] at this
      exact this
    | true =>
      refine iteF ?_
      have hT1 := s1.sqt hT
      have hD1 := s1 _ _ hD
      have lm : (ns.map V.int).length = ns.length := List.length_map ..
      have w1 : Walk _ ns.length _ _ := (by have := walk_tup (K := K) (a := A0) (xs := ns.map V.int); rwa [List.length_map] at this)
      have hts1 : ∀ (i : Nat) (v : V) (l : List Int), ts[i]? = some v → ls[i]? = some l → ∃ T, v = .ref T ∧ H1 T = some (.tup (l.map V.int)) := fun i v l e1 e2 => by
        obtain ⟨T, e, h⟩ := hts i v l e1 e2
        exact ⟨T, e, s1 _ _ h⟩
      have bel := (Bool.and_eq_true _ _ ▸ eb : belB ns (ls.length : Int) = true ∧ risB ns = true).1
      have inb : ∀ s ∈ ns, 0 ≤ s ∧ s < (ls.length : Int) := fun s hs => by
        unfold belB at bel
        rw [List.all_eq_true] at bel
        have := bel s hs
        rw [Bool.and_eq_true] at this
        exact ⟨of_decide_eq_true this.1, of_decide_eq_true this.2⟩
      have nz : ns.length * ns.length < sizeLine := Nat.lt_of_le_of_lt (Nat.mul_le_mul hn hn) (szs (Nat.le_of_ble_eq_true rfl))
      have w2 := w1
      refine ⟨_, rfl, _, rfl, ⟨_, hT1⟩, fun D2 nD2 => ?_⟩
      refine lc2z (n := ns.length) (m := ns.length) w1 (fun _ _ g s => s.sqt g) (fun i j => (aptZ ls ns i j).map V.bl) nz hT1 nD2 (fun i x H3 H4 NX hi s3 yy hin => ?_) (fun H3 s3 hD3 => ?_)
      · obtain ⟨rfl, hx⟩ := yy
        rw [List.getElem?_map, List.getElem?_eq_getElem hi] at hx
        cases hx
        refine ⟨rfl, yesT ?_⟩
        refine ⟨_, rfl, _, rfl, ⟨_, s3.sqt hT1⟩, ?_⟩
        refine hin _ _ _ _ _ (Same.refl _) w2 (fun _ s => s.sqt hT1) (fun j x H5 H6 N M hj s5 yy hN hM => ?_)
        obtain ⟨rfl, hx⟩ := yy
        rw [List.getElem?_map, List.getElem?_eq_getElem hj] at hx
        cases hx
        have ez : aptZ ls ns i j = if ns[i] < ns[j] then some (shrB (ls.getD (ns[i]).toNat []) (ls.getD (ns[j]).toNat [])) else none := by
          unfold aptZ
          rw [getDI (List.getElem?_eq_getElem hi), getDI (List.getElem?_eq_getElem hj)]
        have bi := inb _ (List.getElem_mem hi)
        have bj := inb _ (List.getElem_mem hj)
        have s15 := s5
        have hD5 := s15 _ _ hD1
        generalize ns[i] = zi at *
        generalize ns[j] = zj at *
        refine ⟨rfl, ?_⟩
        walk_at "w"
        refine ite2 (fun e => ?_) (fun e => ?_)
        · have lt' := of_decide_eq_true e
          rw [if_pos lt'] at ez
          have hla : ls[zi.toNat]? = some ls[zi.toNat] := List.getElem?_eq_getElem (by omega)
          have hlb : ls[zj.toNat]? = some ls[zj.toNat] := List.getElem?_eq_getElem (by omega)
          obtain ⟨Ta, ea, hTa⟩ := FitsL.at (D := D) lt hts1 hla
          obtain ⟨Tb, eb', hTb⟩ := FitsL.at (D := D) lt hts1 hlb
          have la := l24 _ (List.mem_of_getElem? hla)
          have lb := l24 _ (List.mem_of_getElem? hlb)
          rw [getDI hla, getDI hlb] at ez
          generalize ls[zi.toNat] = ra at *
          generalize ls[zj.toNat] = rb at *
          refine ⟨_, rfl, _, rfl, D, ts, _, _, rfl, rfl, SqL.of hD5, atI_of (n := zi.toNat) (by omega) ea, _, rfl, _, rfl, D, ts, _, _, rfl, rfl, SqL.of hD5, atI_of (n := zj.toNat) (by omega) eb', Ta, Tb, ra, rb, rfl, SqT.of (s15 _ _ hTa), SqT.of (s15 _ _ hTb), by omega, by omega, fun H7 s7 => ?_⟩
          exact hN _ _ (by show (aptZ ls ns i j).map V.bl = _; rw [ez]; rfl) s7
        · have nlt : ¬ zi < zj := fun q => e (decide_eq_true q)
          rw [if_neg nlt] at ez
          exact hM _ (by show (aptZ ls ns i j).map V.bl = _; rw [ez]; rfl) (Same.refl _)
      rw [anyP_tell] at hD3
      refine ⟨D2, anyP ls ns, rfl, SqL.of hD3, _, rfl, ?_⟩
      have := kk _ (s1.trans s3)
      unfold aptB at this
      rw [eb, Bool.true_and] at this
      exact this
theorem ok_shows_stock {P : Program} {w : World} {K : PySem.W.Frag} {mg : Str → Option Value} {base : Heap} {φ : Fds} (T : Txt K mg φ) : FnOk P w K mg base CX0 7 (He.fAd K ("shows_stock", none)) φ.shows_stock p_shows_stock (sp_shst K (He.ga K "Measure") (He.ga K "Ladder")) := by
  obtain ⟨_, B0v, B0⟩ := b_fitting_of_4 T
  obtain ⟨_, B1v, B1⟩ := b_first_bare_1 T
  obtain ⟨_, B2v, B2⟩ := b_is_number_2 T
  obtain ⟨_, B3v, B3⟩ := b_is_word_2 T
  obtain ⟨_, B4v, B4⟩ := b_is_tuple_of_2 T
  obtain ⟨_, B5v, B5⟩ := b_are_apart_2 T
  obtain ⟨_, B6v, B6⟩ := b_are_sizes_3 T
  refine T.f_shows_stock.ok sc_shows_stock (fun vs H Q E h => ?_) (fun cdv A outer s H vs Q E hr h => ?_)
  · obtain ⟨p, F, s', T', t, k, j, fs, zs, r, lo, hi, xs, y, e, o, th, rfl, hL, hF, mF, qs, qt, k0, k1, j0, j1, lx, hT, hB, kk⟩ := h; rfl
  · obtain ⟨p, F, s', T', t, k, j, fs, zs, r, lo, hi, xs, y, e, o, th, rfl, hL, hF, mF, qs, qt, k0, k1, j0, j1, lx, hT, hB, kk⟩ := h
    refine ⟨_, PSs.nox (pss_cons (ps_set (i := 5) sc_shows_stock.nd rfl (Or.inl rfl) (pe_call (ok_fitting_of (K := K) T) (hr.mono (by decide)) rfl T.g_fitting_of T.f_fitting_of.kp B0 B0v pass0 (pa_cons (pv 0) (pa_cons (pv 1) (pa_cons (pv 2) (pa_cons (pv 3) pa_nil))))))
      (pss_cons (ps_set (i := 6) sc_shows_stock.nd rfl (Or.inl rfl) (pe_call (ok_first_bare (K := K) T) (hr.mono (by decide)) rfl T.g_first_bare T.f_first_bare.kp B1 B1v pass0 (pa_cons (pv 5) pa_nil)))
      (pss_cons (ps_if (pt_cmpR op_notN (pv 6) pe_non (nomark _))
      (pss_one (ps_ret (pe_and (pe_call (ok_is_tuple_of (K := K) T) (hr.mono (by decide)) rfl T.g_is_tuple_of T.f_is_tuple_of.kp B4 B4v pass0 (pa_cons (pv 4) (pa_cons pe_int pa_nil))) (pe_and (pe_call (ok_is_word (K := K) T) (hr.mono (by decide)) rfl T.g_is_word T.f_is_word.kp B3 B3v pass0 (pa_cons (pe_ix (ixt (K := K)) (pv 4) pe_int (fun _ _ => rfl)) (pa_cons pe_str pa_nil))) (pe_one (pe_call (ok_is_number (K := K) T) (hr.mono (by decide)) rfl T.g_is_number T.f_is_number.kp B2 B2v pass0 (pa_cons (pe_ix (ixt (K := K)) (pv 4) pe_int (fun _ _ => rfl)) (pa_cons (pv 6) pa_nil))))))))
      pss_nil)
      (pss_cons (ps_if (PW.pt (pw_or (pt_not (pt_val (pe_call (ok_is_tuple_of (K := K) T) (hr.mono (by decide)) rfl T.g_is_tuple_of T.f_is_tuple_of.kp B4 B4v pass0 (pa_cons (pv 4) (pa_cons pe_int pa_nil))))) (pw_or1 (pt_not (pt_val (pe_call (ok_is_word (K := K) T) (hr.mono (by decide)) rfl T.g_is_word T.f_is_word.kp B3 B3v pass0 (pa_cons (pe_ix (ixt (K := K)) (pv 4) pe_int (fun _ _ => rfl)) (pa_cons pe_str pa_nil))))))))
      (pss_one (ps_ret pe_bl))
      pss_nil)
      (pss_cons (ps_asg (pv 4) (pg_tup rfl (pgs_cons (pg_name (i := 7) sc_shows_stock.nd rfl (Or.inl rfl)) (pgs_cons (pg_name (i := 8) sc_shows_stock.nd rfl (Or.inl rfl)) (pgs_cons (pg_name (i := 9) sc_shows_stock.nd rfl (Or.inl rfl)) pgs_nil)))))
      (pss_one (ps_ret (pe_and (pe_call (ok_are_sizes (K := K) T) (hr.mono (by decide)) rfl T.g_are_sizes T.f_are_sizes.kp B6 B6v pass0 (pa_cons (pv 8) (pa_cons (pv 0) (pa_cons (pv 5) pa_nil)))) (pe_and (pe_call (ok_are_apart (K := K) T) (hr.mono (by decide)) rfl T.g_are_apart T.f_are_apart.kp B5 B5v pass0 (pa_cons (pv 9) (pa_cons (pv 5) pa_nil))) (pe_one (pe_cmpR op_eq (pe_callB (id := "len") (lenS (K := K)) (by rfl) T.z_len PySem.boot_len (pa_cons (pv 8) pa_nil)) (pe_callB (id := "len") (lenS (K := K)) (by rfl) T.z_len PySem.boot_len (pa_cons (pv 9) pa_nil)) (nomark _)))))))))))), ?_⟩
    have l24 := hL.len1
    walk_at "w"
    refine ⟨zs, r, lo, hi, xs, y, e, rfl, hL, hF, mF, qs, qt, k0, k1, j0, j1, by omega, fun D H1 s1 FL => ?_⟩
    have len : ∀ l ∈ fitL zs xs y (e.getD (0, 1)), l.length ≤ 24 := fun l hl => Nat.le_trans (fitL_len l hl) l24
    have ll : (fitL zs xs y (e.getD (0, 1))).length ≤ 60 := by unfold fitL; rw [List.length_map]; exact lx
    walk_at "w"
    refine ⟨_, rfl, FL, by omega, len, fun o' H2 s2 B => ?_⟩
    have eo := BareAt.uniq B hB
    subst eo
    have s12 := s1.trans s2
    replace hT := hT.same s12
    have hL2 := hL.same s12
    have FL2 := FL.same s2
    replace kk := fun H' s' => kk H' (s12.trans s')
    generalize fitL zs xs y (e.getD (0, 1)) = ls at *
    clear FL mF qs qt hF hL s1 s2 s12
    cases o' with
    | some m =>
      refine ⟨_, rfl, rfl, _, rfl, ?_⟩
      rw [show (!decide (optI (some m) = V.non)) = true from rfl]
      refine iteT ?_
      rcases th with n | q
      · have hT : H2 T' = some (.tup [.str "never", .int (n : Int)]) := hT
        refine ⟨_, rfl, T', _, _, rfl, SqT.of hT, ?_⟩
        rw [show decide (([V.str "never", V.int (n : Int)].length : Int) = 2) = true from rfl]
        refine ⟨_, rfl, iteT ?_⟩
        refine ⟨_, rfl, T', _, _, _, rfl, rfl, SqT.of hT, atI_of (n := 0) rfl rfl, "never", "never", rfl, ?_⟩
        rw [decide_eq_true rfl]
        refine ⟨_, rfl, iteT ?_⟩
        refine ⟨_, rfl, T', _, _, _, rfl, rfl, SqT.of hT, atI_of (n := 1) rfl rfl, _, rfl, (n : Int), (m : Int), rfl, ?_⟩
        rw [show decide ((n : Int) = (m : Int)) = decide (m = n) from decide_eq_decide.mpr ⟨fun h => by omega, fun h => by omega⟩]
        exact kk _ (Same.refl _)
      · obtain ⟨S, A, hT, hS, hA, l1, l2⟩ := hT
        refine ⟨_, rfl, T', _, _, rfl, SqT.of hT, ?_⟩
        rw [show decide (([V.str "stock", V.ref S, V.ref A].length : Int) = 2) = false from rfl]
        walk_at "w"
        exact kk _ (Same.refl _)
    | none =>
      refine ⟨_, rfl, rfl, _, rfl, ?_⟩
      rw [show (!decide (optI none = V.non)) = false from rfl]
      refine iteF ?_
      rcases th with n | q
      · have hT : H2 T' = some (.tup [.str "never", .int (n : Int)]) := hT
        refine ⟨_, rfl, T', _, _, rfl, SqT.of hT, ?_⟩
        rw [show decide (([V.str "never", V.int (n : Int)].length : Int) = 3) = false from rfl]
        walk_at "w"
        exact kk _ (Same.refl _)
      · obtain ⟨S, A, hT, hS, hA, l1, l2⟩ := hT
        refine ⟨_, rfl, T', _, _, rfl, SqT.of hT, ?_⟩
        rw [show decide (([V.str "stock", V.ref S, V.ref A].length : Int) = 3) = true from rfl]
        refine ⟨_, rfl, iteF ?_⟩
        refine ⟨_, rfl, T', _, _, _, rfl, rfl, SqT.of hT, atI_of (n := 0) rfl rfl, "stock", "stock", rfl, ?_⟩
        rw [decide_eq_true rfl]
        refine ⟨_, rfl, iteF ?_⟩
        refine ⟨_, rfl, T', _, rfl, SqT.of hT, rfl, _, _, rfl, _, _, rfl, _, _, rfl, rfl, ?_⟩
        have lls : ls.length ≤ 900 := by omega
        refine ⟨_, rfl, _, rfl, _, rfl, S, p, D, q.1, ls, k, zs, r, lo, hi, rfl, SqT.of hS, hL2, FL2, by omega, lls, len, fun H3 s3 => ?_⟩
        have hS3 := s3 _ _ hS
        have hA3 := s3 _ _ hA
        replace kk : ∀ H', Same H2 H' → Q (.bl (sizB zs.length ls q.1 && aptB ls q.2 && decide (q.1.length = q.2.length))) H' := kk
        cases e1 : sizB zs.length ls q.1 with
        | false =>
          refine ⟨_, rfl, iteF ?_⟩
          have := kk _ s3
          rw [e1] at this
          exact this
        | true =>
        refine ⟨_, rfl, iteT ?_⟩
        refine ⟨_, rfl, _, rfl, A, D, q.2, ls, rfl, SqT.of hA3, FL2.same s3, l2, lls, len, fun H4 s4 => ?_⟩
        cases e2 : aptB ls q.2 with
        | false =>
          refine ⟨_, rfl, iteF ?_⟩
          have := kk _ (s3.trans s4)
          rw [e1, e2] at this
          exact this
        | true =>
        refine ⟨_, rfl, iteT ?_⟩
        have := kk _ (s3.trans s4)
        rw [e1, e2] at this
        have hS4 := s4 _ _ hS3
        have hA4 := s4 _ _ hA3
        have lm1 : (q.1.map V.int).length = q.1.length := List.length_map ..
        have lm2 : (q.2.map V.int).length = q.2.length := List.length_map ..
        refine ⟨_, rfl, S, _, rfl, .inr (SqT.of hS4), _, rfl, A, _, rfl, .inr (SqT.of hA4), ?_⟩
        refine ⟨rfl, ?_⟩
        rw [lm1, lm2]
        rw [show decide (V.int (q.1.length : Int) = V.int (q.2.length : Int)) = decide (q.1.length = q.2.length) from decide_eq_decide.mpr ⟨fun h => by have := V.int.inj h; omega, fun h => by rw [h]⟩]
        exact this
theorem okn_l_same {P : Program} {w : World} {K : PySem.W.Frag} {mg : Str → Option Value} {base : Heap} {φ : Fds} (T : Txt K mg φ) : FnOk P w K mg base CX0 0 (He.fAd K ("_law_same", none)) φ.l_same p_l_same (fun _ _ _ _ => False) := fn_never
theorem ok0_l_same {P : Program} {w : World} {K : PySem.W.Frag} {mg : Str → Option Value} {base : Heap} {φ : Fds} (T : Txt K mg φ) : FnOk P w K mg base CX0 1 (He.fAd K ("_law_same", none)) φ.l_same p_l_same (sp_sameN K 0) := by
  obtain ⟨_, B0v, B0⟩ := b_l_same_2 T
  refine T.f_l_same.ok sc_l_same (fun vs H Q E h => ?_) (fun cdv A outer s H vs Q E hr h => ?_)
  · obtain ⟨x, y, rfl, ⟨rfl, ha⟩, kk⟩ := h; rfl
  · obtain ⟨x, y, rfl, ⟨rfl, ha⟩, kk⟩ := h
    refine ⟨_, PSs.nox (pss_cons (ps_if (pt_val (pe_callB (id := "isinstance") (isi (K := K)) (by rfl) T.z_isinstance (by decide +kernel) (pa_cons (pv 1) (pa_cons (pe_bltn (v := .ty "tuple") rfl T.z_tuple (by decide +kernel) rfl) pa_nil))))
      (pss_cons (ps_if (PW.pt (pw_or (pt_not (pt_val (pe_callB (id := "isinstance") (isi (K := K)) (by rfl) T.z_isinstance (by decide +kernel) (pa_cons (pv 0) (pa_cons (pe_bltn (v := .ty "tuple") rfl T.z_tuple (by decide +kernel) rfl) pa_nil))))) (pw_or1 (pt_cmpR op_ne (pe_callB (id := "len") (lenS (K := K)) (by rfl) T.z_len PySem.boot_len (pa_cons (pv 0) pa_nil)) (pe_callB (id := "len") (lenS (K := K)) (by rfl) T.z_len PySem.boot_len (pa_cons (pv 1) pa_nil)) (nomark _)))))
      (pss_one (ps_ret pe_bl))
      pss_nil)
      (pss_one (ps_ret (pe_callB (id := "all") (allK (K := K)) (by rfl) T.z_all (by decide +kernel) (pa_cons (pe_lc (own := [("_law_one", 2), ("_law_other", 3)]) (g := gTup K 2 (gCons (gName 2) (gCons (gName 3) (gNil)))) rfl sc_l_same.nd (RZ.pi_zipA (by rfl) T.z_zip (pa_cons (pv 0) (pa_cons (pv 1) pa_nil))) (blkOk_by (own := [("_law_one", 2), ("_law_other", 3)]) (N := N_l_same) (sc := (defScope s_l_same)) (by decide +kernel)) (fun _ _ _ _ _ => (pg_tup rfl (pgs_cons (pg_name (i := 2) sc_l_same.nd rfl (Or.inl rfl)) (pgs_cons (pg_name (i := 3) sc_l_same.nd rfl (Or.inl rfl)) pgs_nil)))) (fun _ _ _ _ _ => pts_nil) (fun _ _ _ _ _ => (pe_call (okn_l_same (K := K) T) (hr.mono (by decide)) rfl T.g_l_same T.f_l_same.kp B0 B0v pass0 (pa_cons (pv 2) (pa_cons (pv 3) pa_nil))))) pa_nil)))))
      pss_nil)
      (pss_cons (ps_if (pt_cmpR op_isN (pv 1) pe_non (nomark _))
      (pss_one (ps_ret (pe_cmpR op_isN (pv 0) pe_non (nomark _))))
      pss_nil)
      (pss_cons (ps_if (pt_val (pe_callB (id := "isinstance") (isi (K := K)) (by rfl) T.z_isinstance (by decide +kernel) (pa_cons (pv 1) (pa_cons (pe_bltn (v := .ty "bool") rfl T.z_bool (by decide +kernel) rfl) pa_nil))))
      (pss_one (ps_ret (pe_and (pe_callB (id := "isinstance") (isi (K := K)) (by rfl) T.z_isinstance (by decide +kernel) (pa_cons (pv 0) (pa_cons (pe_bltn (v := .ty "bool") rfl T.z_bool (by decide +kernel) rfl) pa_nil))) (pe_one (pe_cmpR op_eq (pv 0) (pv 1) (nomark _))))))
      pss_nil)
      (pss_cons (ps_if (pt_val (pe_callB (id := "isinstance") (isi (K := K)) (by rfl) T.z_isinstance (by decide +kernel) (pa_cons (pv 1) (pa_cons (pe_bltn (v := .ty "str") rfl T.z_str (by decide +kernel) rfl) pa_nil))))
      (pss_one (ps_ret (pe_and (pe_callB (id := "isinstance") (isi (K := K)) (by rfl) T.z_isinstance (by decide +kernel) (pa_cons (pv 0) (pa_cons (pe_bltn (v := .ty "str") rfl T.z_str (by decide +kernel) rfl) pa_nil))) (pe_one (pe_cmpR op_eq (pv 0) (pv 1) (nomark _))))))
      pss_nil)
      (pss_one (ps_ret (pe_and (pe_callB (id := "isinstance") (isi (K := K)) (by rfl) T.z_isinstance (by decide +kernel) (pa_cons (pv 0) (pa_cons (pe_bltn (v := .ty "int") rfl T.z_int (by decide +kernel) rfl) pa_nil))) (pe_and (pe_not (pe_callB (id := "isinstance") (isi (K := K)) (by rfl) T.z_isinstance (by decide +kernel) (pa_cons (pv 0) (pa_cons (pe_bltn (v := .ty "bool") rfl T.z_bool (by decide +kernel) rfl) pa_nil)))) (pe_one (pe_cmpR op_eq (pv 0) (pv 1) (nomark _))))))))))), ?_⟩
    rcases ha with ⟨z, rfl⟩ | ⟨s, rfl⟩ | rfl | ⟨b, rfl⟩
    · refine ⟨_, rfl, _, _, _, _, _, rfl, .ty _, .base (.int _), kit_ty (r := false) (by decide +kernel), _, rfl, iteF ?_⟩
      refine ⟨_, rfl, rfl, _, rfl, iteF ?_⟩
      refine ⟨_, rfl, _, _, _, _, _, rfl, .ty _, .base (.int _), kit_ty (r := false) (by decide +kernel), _, rfl, iteF ?_⟩
      refine ⟨_, rfl, _, _, _, _, _, rfl, .ty _, .base (.int _), kit_ty (r := false) (by decide +kernel), _, rfl, iteF ?_⟩
      refine ⟨_, rfl, _, _, _, _, _, rfl, .ty _, .base (.int _), kit_ty (r := true) (by decide +kernel), _, rfl, iteT ?_⟩
      refine ⟨_, rfl, _, _, _, _, _, rfl, .ty _, .base (.int _), kit_ty (r := false) (by decide +kernel), ?_⟩
      walk_at "w"
      rw [decide_eq_true rfl]
      exact kk _ (Same.refl _)
    · refine ⟨_, rfl, _, _, _, _, _, rfl, .ty _, .base (.str _), kit_ty (r := false) (by decide +kernel), _, rfl, iteF ?_⟩
      refine ⟨_, rfl, rfl, _, rfl, iteF ?_⟩
      refine ⟨_, rfl, _, _, _, _, _, rfl, .ty _, .base (.str _), kit_ty (r := false) (by decide +kernel), _, rfl, iteF ?_⟩
      refine ⟨_, rfl, _, _, _, _, _, rfl, .ty _, .base (.str _), kit_ty (r := true) (by decide +kernel), _, rfl, iteT ?_⟩
      refine ⟨_, rfl, _, _, _, _, _, rfl, .ty _, .base (.str _), kit_ty (r := true) (by decide +kernel), _, rfl, iteT ?_⟩
      walk_at "w"
      rw [decide_eq_true rfl]
      exact kk _ (Same.refl _)
    · refine ⟨_, rfl, _, _, _, _, _, rfl, .ty _, .base .non, kit_ty (r := false) (by decide +kernel), _, rfl, iteF ?_⟩
      refine ⟨_, rfl, rfl, _, rfl, ?_⟩
      rw [decide_eq_true rfl]
      refine iteT ?_
      walk_at "w"
      rw [decide_eq_true rfl]
      exact kk _ (Same.refl _)
    · refine ⟨_, rfl, _, _, _, _, _, rfl, .ty _, .base (.bl _), kit_ty (r := false) (by decide +kernel), _, rfl, iteF ?_⟩
      refine ⟨_, rfl, rfl, _, rfl, iteF ?_⟩
      refine ⟨_, rfl, _, _, _, _, _, rfl, .ty _, .base (.bl _), kit_ty (r := true) (by decide +kernel), _, rfl, iteT ?_⟩
      refine ⟨_, rfl, _, _, _, _, _, rfl, .ty _, .base (.bl _), kit_ty (r := true) (by decide +kernel), _, rfl, iteT ?_⟩
      walk_at "w"
      rw [decide_eq_true rfl]
      exact kk _ (Same.refl _)
theorem ok_l_same {P : Program} {w : World} {K : PySem.W.Frag} {mg : Str → Option Value} {base : Heap} {φ : Fds} (T : Txt K mg φ) : FnOk P w K mg base CX0 2 (He.fAd K ("_law_same", none)) φ.l_same p_l_same (sp_sameN K 1) := by
  obtain ⟨_, B0v, B0⟩ := b_l_same_2 T
  refine T.f_l_same.ok sc_l_same (fun vs H Q E h => ?_) (fun cdv A outer s H vs Q E hr h => ?_)
  · obtain ⟨x, y, rfl, hxy, kk⟩ := h; rfl
  · obtain ⟨x, y, rfl, hxy, kk⟩ := h
    refine ⟨_, PSs.nox (pss_cons (ps_if (pt_val (pe_callB (id := "isinstance") (isi (K := K)) (by rfl) T.z_isinstance (by decide +kernel) (pa_cons (pv 1) (pa_cons (pe_bltn (v := .ty "tuple") rfl T.z_tuple (by decide +kernel) rfl) pa_nil))))
      (pss_cons (ps_if (PW.pt (pw_or (pt_not (pt_val (pe_callB (id := "isinstance") (isi (K := K)) (by rfl) T.z_isinstance (by decide +kernel) (pa_cons (pv 0) (pa_cons (pe_bltn (v := .ty "tuple") rfl T.z_tuple (by decide +kernel) rfl) pa_nil))))) (pw_or1 (pt_cmpR op_ne (pe_callB (id := "len") (lenS (K := K)) (by rfl) T.z_len PySem.boot_len (pa_cons (pv 0) pa_nil)) (pe_callB (id := "len") (lenS (K := K)) (by rfl) T.z_len PySem.boot_len (pa_cons (pv 1) pa_nil)) (nomark _)))))
      (pss_one (ps_ret pe_bl))
      pss_nil)
      (pss_one (ps_ret (pe_callB (id := "all") (allK (K := K)) (by rfl) T.z_all (by decide +kernel) (pa_cons (pe_lc (own := [("_law_one", 2), ("_law_other", 3)]) (g := gTup K 2 (gCons (gName 2) (gCons (gName 3) (gNil)))) rfl sc_l_same.nd (RZ.pi_zipA (by rfl) T.z_zip (pa_cons (pv 0) (pa_cons (pv 1) pa_nil))) (blkOk_by (own := [("_law_one", 2), ("_law_other", 3)]) (N := N_l_same) (sc := (defScope s_l_same)) (by decide +kernel)) (fun _ _ _ _ _ => (pg_tup rfl (pgs_cons (pg_name (i := 2) sc_l_same.nd rfl (Or.inl rfl)) (pgs_cons (pg_name (i := 3) sc_l_same.nd rfl (Or.inl rfl)) pgs_nil)))) (fun _ _ _ _ _ => pts_nil) (fun _ _ _ _ _ => (pe_call (ok0_l_same (K := K) T) (hr.mono (by decide)) rfl T.g_l_same T.f_l_same.kp B0 B0v pass0 (pa_cons (pv 2) (pa_cons (pv 3) pa_nil))))) pa_nil)))))
      pss_nil)
      (pss_cons (ps_if (pt_cmpR op_isN (pv 1) pe_non (nomark _))
      (pss_one (ps_ret (pe_cmpR op_isN (pv 0) pe_non (nomark _))))
      pss_nil)
      (pss_cons (ps_if (pt_val (pe_callB (id := "isinstance") (isi (K := K)) (by rfl) T.z_isinstance (by decide +kernel) (pa_cons (pv 1) (pa_cons (pe_bltn (v := .ty "bool") rfl T.z_bool (by decide +kernel) rfl) pa_nil))))
      (pss_one (ps_ret (pe_and (pe_callB (id := "isinstance") (isi (K := K)) (by rfl) T.z_isinstance (by decide +kernel) (pa_cons (pv 0) (pa_cons (pe_bltn (v := .ty "bool") rfl T.z_bool (by decide +kernel) rfl) pa_nil))) (pe_one (pe_cmpR op_eq (pv 0) (pv 1) (nomark _))))))
      pss_nil)
      (pss_cons (ps_if (pt_val (pe_callB (id := "isinstance") (isi (K := K)) (by rfl) T.z_isinstance (by decide +kernel) (pa_cons (pv 1) (pa_cons (pe_bltn (v := .ty "str") rfl T.z_str (by decide +kernel) rfl) pa_nil))))
      (pss_one (ps_ret (pe_and (pe_callB (id := "isinstance") (isi (K := K)) (by rfl) T.z_isinstance (by decide +kernel) (pa_cons (pv 0) (pa_cons (pe_bltn (v := .ty "str") rfl T.z_str (by decide +kernel) rfl) pa_nil))) (pe_one (pe_cmpR op_eq (pv 0) (pv 1) (nomark _))))))
      pss_nil)
      (pss_one (ps_ret (pe_and (pe_callB (id := "isinstance") (isi (K := K)) (by rfl) T.z_isinstance (by decide +kernel) (pa_cons (pv 0) (pa_cons (pe_bltn (v := .ty "int") rfl T.z_int (by decide +kernel) rfl) pa_nil))) (pe_and (pe_not (pe_callB (id := "isinstance") (isi (K := K)) (by rfl) T.z_isinstance (by decide +kernel) (pa_cons (pv 0) (pa_cons (pe_bltn (v := .ty "bool") rfl T.z_bool (by decide +kernel) rfl) pa_nil)))) (pe_one (pe_cmpR op_eq (pv 0) (pv 1) (nomark _))))))))))), ?_⟩
    rcases hxy with ⟨rfl, ha⟩ | ⟨p, q, xs, ys, rfl, rfl, hp, hq, hl, l9, hall⟩
    · rcases ha with ⟨z, rfl⟩ | ⟨s, rfl⟩ | rfl | ⟨b, rfl⟩
      · refine ⟨_, rfl, _, _, _, _, _, rfl, .ty _, .base (.int _), kit_ty (r := false) (by decide +kernel), _, rfl, iteF ?_⟩
        refine ⟨_, rfl, rfl, _, rfl, iteF ?_⟩
        refine ⟨_, rfl, _, _, _, _, _, rfl, .ty _, .base (.int _), kit_ty (r := false) (by decide +kernel), _, rfl, iteF ?_⟩
        refine ⟨_, rfl, _, _, _, _, _, rfl, .ty _, .base (.int _), kit_ty (r := false) (by decide +kernel), _, rfl, iteF ?_⟩
        refine ⟨_, rfl, _, _, _, _, _, rfl, .ty _, .base (.int _), kit_ty (r := true) (by decide +kernel), _, rfl, iteT ?_⟩
        refine ⟨_, rfl, _, _, _, _, _, rfl, .ty _, .base (.int _), kit_ty (r := false) (by decide +kernel), ?_⟩
        walk_at "w"
        rw [decide_eq_true rfl]
        exact kk _ (Same.refl _)
      · refine ⟨_, rfl, _, _, _, _, _, rfl, .ty _, .base (.str _), kit_ty (r := false) (by decide +kernel), _, rfl, iteF ?_⟩
        refine ⟨_, rfl, rfl, _, rfl, iteF ?_⟩
        refine ⟨_, rfl, _, _, _, _, _, rfl, .ty _, .base (.str _), kit_ty (r := false) (by decide +kernel), _, rfl, iteF ?_⟩
        refine ⟨_, rfl, _, _, _, _, _, rfl, .ty _, .base (.str _), kit_ty (r := true) (by decide +kernel), _, rfl, iteT ?_⟩
        refine ⟨_, rfl, _, _, _, _, _, rfl, .ty _, .base (.str _), kit_ty (r := true) (by decide +kernel), _, rfl, iteT ?_⟩
        walk_at "w"
        rw [decide_eq_true rfl]
        exact kk _ (Same.refl _)
      · refine ⟨_, rfl, _, _, _, _, _, rfl, .ty _, .base .non, kit_ty (r := false) (by decide +kernel), _, rfl, iteF ?_⟩
        refine ⟨_, rfl, rfl, _, rfl, ?_⟩
        rw [decide_eq_true rfl]
        refine iteT ?_
        walk_at "w"
        rw [decide_eq_true rfl]
        exact kk _ (Same.refl _)
      · refine ⟨_, rfl, _, _, _, _, _, rfl, .ty _, .base (.bl _), kit_ty (r := false) (by decide +kernel), _, rfl, iteF ?_⟩
        refine ⟨_, rfl, rfl, _, rfl, iteF ?_⟩
        refine ⟨_, rfl, _, _, _, _, _, rfl, .ty _, .base (.bl _), kit_ty (r := true) (by decide +kernel), _, rfl, iteT ?_⟩
        refine ⟨_, rfl, _, _, _, _, _, rfl, .ty _, .base (.bl _), kit_ty (r := true) (by decide +kernel), _, rfl, iteT ?_⟩
        walk_at "w"
        rw [decide_eq_true rfl]
        exact kk _ (Same.refl _)
    · refine ⟨_, rfl, _, _, _, _, _, rfl, .ty _, tyTup hq, kit_ty (r := true) (by decide +kernel), _, rfl, iteT ?_⟩
      refine ⟨_, rfl, _, _, _, _, _, rfl, .ty _, tyTup hp, kit_ty (r := true) (by decide +kernel), _, rfl, iteF ?_⟩
      refine ⟨_, rfl, p, _, rfl, .inr hp, _, rfl, q, _, rfl, .inr hq, rfl, _, rfl, ?_⟩
      rw [hl, decide_eq_true rfl]
      refine iteF ?_
      refine ⟨_, rfl, _, rfl, p, q, _, _, rfl, .inr ⟨hp, hq, fun D nD => ?_⟩⟩
      refine lcz (n := xs.length) (walk_zipT (xs := xs) (ys := ys) (by omega)) (fun _ _ g s => ⟨s.sqt g.1, s.sqt g.2⟩) (List.replicate xs.length (some (V.bl true))) List.length_replicate (szs (by omega)) ⟨hp, hq⟩ nD (fun i x H3 H4 o N M hi ho s3 y hN hM => ?_) (fun H3 s3 hD => ?_)
      · obtain ⟨t, a, b, rfl, nt, rfl, ha, hb⟩ := y
        rw [List.getElem?_replicate, if_pos hi] at ho
        cases ho
        refine ⟨t, _, rfl, SqT.of upd_same, rfl, _, _, rfl, _, _, rfl, rfl, rfl, yesT ?_⟩
        exact ⟨_, rfl, _, rfl, a, b, rfl, ((hall i a b ha hb).same s3).same (same1 nt), fun H5 s5 => hN _ _ rfl ((same1 nt : Same H3 _).trans s5)⟩
      rw [rep_fm] at hD
      refine ⟨D, _, rfl, SqL.of hD, ?_⟩
      rw [rep_all]
      exact kk _ s3
theorem ok_l_runs {P : Program} {w : World} {K : PySem.W.Frag} {mg : Str → Option Value} {base : Heap} {φ : Fds} (T : Txt K mg φ) : FnOk P w K mg base CX0 4 (He.fAd K ("_law_runs", none)) φ.l_runs p_l_runs sp_lruns := by
  obtain ⟨_, B0v, B0⟩ := b_l_fits_4 T
  refine T.f_l_runs.ok sc_l_runs (fun vs H Q E h => ?_) (fun cdv A outer s H vs Q E hr h => ?_)
  · obtain ⟨l, S, va, vb, j, m, us, fs, zs, xs, x, y, rfl, hl, tq, hS, tf, lx, lz, ta, tb, j0, j1, m0, m1, kk⟩ := h; rfl
  · obtain ⟨l, S, va, vb, j, m, us, fs, zs, xs, x, y, rfl, hl, tq, hS, tf, lx, lz, ta, tb, j0, j1, m0, m1, kk⟩ := h
    refine ⟨_, PSs.nox (pss_one (ps_ret (pe_lc (own := [("_law_here", 4)]) (g := gName 4) rfl sc_l_runs.nd (pi_list (pv 1)) (blkOk_by (own := [("_law_here", 4)]) (N := N_l_runs) (sc := (defScope s_l_runs)) (by decide +kernel)) (fun _ _ _ _ _ => (pg_name (i := 4) sc_l_runs.nd rfl (Or.inl rfl))) (fun _ _ _ _ _ => pts_nil) (fun _ _ _ _ _ => (pe_call (ok_l_fits (K := K) T) (hr.mono (by decide)) rfl T.g_l_fits T.f_l_fits.kp B0 B0v pass0 (pa_cons (pv 0) (pa_cons (pv 4) (pa_cons (pv 2) (pa_cons (pv 3) pa_nil))))))))), ?_⟩
    have lf' := tf.len
    walk_at "w"
    intro D nD
    refine lcr (n := fs.length) walk_list (fun _ _ g s => s.seq g) (fun i H v => ∃ T w, v = .ref T ∧ xs[i]? = some w ∧ H T = some (.tup ((idx zs.length (fitQ zs w x y)).map V.int))) (fun i H H' v ⟨T, w, e1, e2, e3⟩ n => ⟨T, w, e1, e2, n _ _ e3 rfl⟩) (szs (by omega)) (SqL.of hS) nD (fun i v H1 H2 N M hi' s1 yy hN => ?_) (fun H1 ts s1 hD lt ht => ?_)
    · obtain ⟨rfl, hv⟩ := yy
      obtain ⟨w', hw, tw⟩ := (tf.same s1).of hv
      refine ⟨rfl, yesT ?_⟩
      walk_at "w"
      exact ⟨zs, w', x, y, rfl, s1 _ _ hl, tq.same s1, tw, ta.same s1, tb.same s1, m0, j0, by omega, by omega, lz, fun T H3 s3 hT => hN _ _ s3 ⟨T, w', rfl, hw, hT⟩⟩
    refine kk D H1 s1 ⟨ts, hD, by unfold fitL; rw [List.length_map]; omega, fun i v l' e1 e2 => ?_⟩
    obtain ⟨T, w', ev, ew, hT⟩ := ht i v e1
    unfold fitL at e2
    rw [List.getElem?_map, ew] at e2
    cases e2
    exact ⟨T, ev, hT⟩
theorem ok_l_stock {P : Program} {w : World} {K : PySem.W.Frag} {mg : Str → Option Value} {base : Heap} {φ : Fds} (T : Txt K mg φ) : FnOk P w K mg base CX0 1 (He.fAd K ("_law_stock", none)) φ.l_stock p_l_stock sp_lstock := by
  refine T.f_l_stock.ok sc_l_stock (fun vs H Q E h => ?_) (fun cdv A outer s H vs Q E hr h => ?_)
  · obtain ⟨D, ls, n, rfl, hF, ll, n24, C, kk⟩ := h; rfl
  · obtain ⟨D, ls, n, rfl, hF, ll, n24, C, kk⟩ := h
    refine ⟨_, PSs.nox (pss_cons (ps_par3 (i := 1) (j := 2) (l := 3) rfl sc_l_stock.nd rfl rfl rfl (by decide) (by decide) (by decide) rfl rfl rfl (pa_cons (pe_listRg rfl (by rfl) T.z_list (prg_1 (by rfl) T.z_range (pe_callB (id := "len") (lenS (K := K)) (by rfl) T.z_len PySem.boot_len (pa_cons (pv 0) pa_nil)))) (pa_cons (pe_lst pa_nil) (pa_cons (pe_lst pa_nil) pa_nil))) (by rfl))
      (pss_cons (ps_while PassesOwn.never (pt_cmpR (neDK (K := K) hr.units) (pv 1) (pe_lst pa_nil) (nomark _))
      (pss_cons (ps_asg (pe_callB (id := "min") (cr_minP rfl (Nat.lt_of_le_of_lt (Nat.add_le_add_left (by decide) _) hr.units)) (by rfl) T.z_min (by decide +kernel) (pa_cons (pe_lc (own := [("_law_k", 6)]) (g := gName 6) rfl sc_l_stock.nd (pi_list (pv 1)) (blkOk_by (own := [("_law_k", 6)]) (N := N_l_stock) (sc := (defScope s_l_stock)) (by decide +kernel)) (fun _ _ _ _ _ => (pg_name (i := 6) sc_l_stock.nd rfl (Or.inl rfl))) (fun _ _ _ _ _ => pts_nil) (fun _ _ _ _ _ => (pe_tup (pa_cons (pe_ix (ixt (K := K)) (pe_ix (ixl (K := K)) (pv 0) (pv 6) (fun _ _ => rfl)) (pe_un un_neg pe_int) (fun _ _ => rfl)) (pa_cons (pv 6) pa_nil))))) pa_nil)) (pg_tup rfl (pgs_cons (pg_name (i := 4) sc_l_stock.nd rfl (Or.inr rfl)) (pgs_cons (pg_name (i := 5) sc_l_stock.nd rfl (Or.inl rfl)) pgs_nil))))
      (pss_cons (ps_expr (pe_bm PySem.F.plainAttrs_list PySem.F.slot_list_append PySem.F.type_list_append mt_append (pv 2) (pa_cons (pv 4) pa_nil)))
      (pss_cons (ps_expr (pe_bm PySem.F.plainAttrs_list PySem.F.slot_list_append PySem.F.type_list_append mt_append (pv 3) (pa_cons (pv 5) pa_nil)))
      (pss_one (ps_setLc (i := 1) (own := [("_law_k", 6)]) (g := gName 6) rfl sc_l_stock.nd rfl rfl (sw_true rfl rfl rfl (by decide +kernel)) (pi_list (pv 1)) (blkOk_by (own := [("_law_k", 6)]) (N := N_l_stock) (sc := (defScope s_l_stock)) (by decide +kernel)) (fun _ _ _ _ _ => (pg_name (i := 6) sc_l_stock.nd rfl (Or.inl rfl))) (fun _ _ _ _ _ => (pts_one (pt_cmpR (notInK (K := K)) (pv 4) (pe_ix (ixl (K := K)) (pv 0) (pv 6) (fun _ _ => rfl)) (by rfl)))) (fun _ _ _ _ _ => (pv 6))))))))
      (pss_one (ps_ret (pe_tup (pa_cons pe_str (pa_cons (pe_callTy (T := "tuple") (tupleL (K := K)) (by rfl) T.z_tuple (by decide +kernel) (pa_cons (pv 2) pa_nil)) (pa_cons (pe_callTy (T := "tuple") (tupleL (K := K)) (by rfl) T.z_tuple (by decide +kernel) (pa_cons (pe_callB (id := "sorted") cr_sorted (by rfl) T.z_sorted (by decide +kernel) (pa_cons (pv 3) pa_nil)) pa_nil)) pa_nil)))))))), ?_⟩
    obtain ⟨ts, hD, lts, hts⟩ := hF.ob
    walk_at "w"
    intro Lf nLf
    have em : rgV 0 (ts.length : Int) = ((List.range ls.length).map fun k : Nat => (k : Int)).map V.int := by
      unfold rgV
      rw [List.map_map, show ((ts.length : Int) - 0).toNat = ls.length by omega]
      refine List.map_congr_left fun i _ => ?_
      show V.int (0 + (i : Int)) = V.int (i : Int)
      rw [Int.zero_add]
    rw [em]
    have s1 : Same H (upd H Lf (.lst (((List.range ls.length).map fun k : Nat => (k : Int)).map V.int))) := same1 nLf
    have hLf : upd H Lf (.lst (((List.range ls.length).map fun k : Nat => (k : Int)).map V.int)) Lf = some (.lst (((List.range ls.length).map fun k : Nat => (k : Int)).map V.int)) := upd_same
    generalize upd H Lf (.lst (((List.range ls.length).map fun k : Nat => (k : Int)).map V.int)) = H1 at *
    walk_at "w"
    intro S nS
    have neLS : Lf ≠ S := ne_of_none hLf nS
    have s2 : Same H1 (upd H1 S (.lst [])) := same1 nS
    have hS : upd H1 S (.lst []) S = some (.lst []) := upd_same
    replace hLf := s2 _ _ hLf
    generalize upd H1 S (.lst []) = H2 at *
    walk_at "w"
    intro A0 nA
    have s3 : Same H2 (upd H2 A0 (.lst [])) := same1 nA
    have hA : upd H2 A0 (.lst []) A0 = some (.lst []) := upd_same
    have neSA : S ≠ A0 := ne_of_none hS nA
    have neLA : Lf ≠ A0 := ne_of_none hLf nA
    replace hLf := s3 _ _ hLf
    replace hS := s3 _ _ hS
    have nSH : H S = none := s1.free nS
    have nAH : H A0 = none := (s1.trans s2).free nA
    have s03 := (s1.trans s2).trans s3
    have hD3 := s03 _ _ hD
    have neDS : D ≠ S := ne_of_none hD nSH
    have neDA : D ≠ A0 := ne_of_none hD nAH
    generalize upd H2 A0 (.lst []) = H3 at *
    refine ⟨_, _, _, rfl, ?_⟩
    refine ⟨fun m σ H' => ∃ (Lf : Addr) (left ss as : List Int) (v4 v5 : Option V), σ = [some (.ref D), some (.ref Lf), some (.ref S), some (.ref A0), v4, v5, none] ∧ m = left.length ∧ H' Lf = some (.lst (left.map V.int)) ∧ H' S = some (.lst (ss.map V.int)) ∧ H' A0 = some (.lst (as.map V.int)) ∧ Lf ≠ S ∧ Lf ≠ A0 ∧ (∀ c o, H3 c = some o → c ≠ S → c ≠ A0 → H' c = some o) ∧ GL ls left ss as, ⟨_, Lf, _, [], [], _, _, rfl, rfl, hLf, hS, hA, neLS, neLA, fun c o e _ _ => e, GL.init ls⟩, ?_⟩
    rintro m σ H4 ⟨Lf, left, ss, as, v4, v5, rfl, rfl, hLf, hS, hA, neLS, neLA, k4, g⟩
    have nDS := neDS
    have hD4 := k4 _ _ hD3 neDS neDA
    have hts4 : ∀ (i : Nat) (v : V) (l : List Int), ts[i]? = some v → ls[i]? = some l → ∃ T, v = .ref T ∧ H4 T = some (.tup (l.map V.int)) := fun i v l e1 e2 => by
      obtain ⟨T, e, h⟩ := hts i v l e1 e2
      have h3 := s03 _ _ h
      exact ⟨T, e, k4 _ _ h3 (ne_of_none h nSH) (ne_of_none h nAH)⟩
    have lls := g.ct
    have lms := g.ln
    refine ⟨_, rfl, szl (Nat.zero_le _), fun p9 np9 => ?_⟩
    have sN : Same H4 (upd H4 p9 (.lst [])) := same1 np9
    refine ⟨.list (left.map PyData.int), .list [], dpL (sN _ _ hLf), .lst (SqL.of upd_same) .nil, shL _, by decide +kernel, ?_⟩
    rw [eqv_nil]
    replace hLf := sN _ _ hLf
    replace hS := sN _ _ hS
    replace hA := sN _ _ hA
    replace hD4 := sN _ _ hD4
    replace hts4 : ∀ (i : Nat) (v : V) (l : List Int), ts[i]? = some v → ls[i]? = some l → ∃ T, v = .ref T ∧ (upd H4 p9 (.lst [])) T = some (.tup (l.map V.int)) := fun i v l e1 e2 => by
      obtain ⟨T, e, h⟩ := hts4 i v l e1 e2
      exact ⟨T, e, sN _ _ h⟩
    replace k4 : ∀ c o, H3 c = some o → c ≠ S → c ≠ A0 → (upd H4 p9 (.lst [])) c = some o := fun c o e n1 n2 => sN _ _ (k4 c o e n1 n2)
    clear sN
    generalize upd H4 p9 (.lst []) = H5 at *
    refine ⟨_, rfl, ?_⟩
    cases left with
    | nil =>
      rw [show (!decide (([] : List Int) = [])) = false from rfl]
      refine iteF ?_
      have sH5 : Same H H5 := fun c o e => k4 c o (s03 _ _ e) (ne_of_none e nSH) (ne_of_none e nAH)
      refine ⟨_, rfl, S, _, rfl, SqL.of hS, fun TS nTS => ?_⟩
      have s6 : Same H5 (upd H5 TS (.tup (ss.map V.int))) := same1 nTS
      have hTS : upd H5 TS (.tup (ss.map V.int)) TS = some (.tup (ss.map V.int)) := upd_same
      generalize upd H5 TS (.tup (ss.map V.int)) = H6 at *
      have lss : ss.length + 0 ≤ ls.length := lls
      refine ⟨_, rfl, A0, as, rfl, SqL.of (s6 _ _ hA), by omega, fun as' L1 hp hs nL => ?_⟩
      refine ⟨L1, _, rfl, SqL.of upd_same, fun TA nTA => ?_⟩
      walk_at "w"
      intro T nT
      have sx : Same H6 (upd (upd (upd H6 L1 (.lst (as'.map V.int))) TA (.tup (as'.map V.int))) T (.tup [.str "stock", .ref TS, .ref TA])) := ((same1 nL : Same H6 _).up nTA).up nT
      exact kk T TS TA ss as' _ ((sH5.trans s6).trans sx) upd_same (sx _ _ hTS) fun ss' as'' f => g.len f
    | cons k0 lr =>
      rw [show (!decide (k0 :: lr = [])) = true from rfl]
      refine iteT ?_
      generalize hlr : k0 :: lr = left at *
      have l0 : 0 < left.length := by rw [← hlr]; simp
      refine ⟨fun σ' H' => ∃ m', m' < left.length ∧ ∃ (Lf : Addr) (left' ss as : List Int) (v4 v5 : Option V), σ' = [some (.ref D), some (.ref Lf), some (.ref S), some (.ref A0), v4, v5, none] ∧ m' = left'.length ∧ H' Lf = some (.lst (left'.map V.int)) ∧ H' S = some (.lst (ss.map V.int)) ∧ H' A0 = some (.lst (as.map V.int)) ∧ Lf ≠ S ∧ Lf ≠ A0 ∧ (∀ c o, H3 c = some o → c ≠ S → c ≠ A0 → H' c = some o) ∧ GL ls left' ss as, fun σ' H' h => h, ?_⟩
      refine ⟨_, rfl, _, rfl, ⟨_, SqL.of hLf⟩, fun P nP => ?_⟩
      have wl : Walk _ left.length _ _ := (by have := walk_list (K := K) (a := Lf) (xs := left.map V.int); rwa [List.length_map] at this)
      refine lcr (n := left.length) wl (fun _ _ g s => s.seq g) (fun i H v => ∃ t k, v = .ref t ∧ left[i]? = some k ∧ H t = some (.tup [.int (lastI ls k), .int k])) (fun i H H' v ⟨t, k, e1, e2, e3⟩ n => ⟨t, k, e1, e2, n _ _ e3 rfl⟩) (szs (by omega)) (SqL.of hLf) nP (fun i x H6 H7 N M hi s6 yy hN => ?_) (fun H6 ys s6 hP ly hy => ?_)
      · obtain ⟨rfl, hx⟩ := yy
        rw [List.getElem?_map, List.getElem?_eq_getElem hi] at hx
        cases hx
        have ek : left[i]? = some left[i] := List.getElem?_eq_getElem hi
        obtain ⟨ik, eik, hik⟩ := g.lf _ (List.getElem_mem hi)
        generalize left[i] = kk0 at *
        subst eik
        have hla : ls[ik]? = some ls[ik] := List.getElem?_eq_getElem hik
        obtain ⟨T2, ea, hT2⟩ := FitsL.at (D := D) lts hts4 hla
        obtain ⟨aa, ma, la1, la2⟩ := C ik _ hla
        have lpos : 0 < ls[ik].length := by rw [la2, List.length_map, List.length_range']; omega
        obtain ⟨z, hz⟩ : ∃ z, ls[ik].getLast? = some z := by
          cases e : ls[ik].getLast? with
          | none => rw [List.getLast?_eq_none_iff.mp e] at lpos; simp at lpos
          | some z => exact ⟨z, rfl⟩
        have hat : atI (ls[ik].map V.int) (-1) = some (.int z) := atI_end (n := ls[ik].length - 1) (by rw [List.length_map]; omega) (by rw [List.getElem?_map, ← List.getLast?_eq_getElem?, hz]; rfl)
        have elast := last_at hla hz
        generalize ls[ik] = rk at *
        have hD6 := s6 _ _ hD4
        replace hT2 := s6 _ _ hT2
        refine ⟨rfl, yesT ?_⟩
        walk_at "w"
        intro t2 nt2
        exact hN _ _ (same1 nt2) ⟨t2, _, rfl, ek, by rw [upd_same, elast]⟩
      have pk : ∀ x ∈ ys, ∃ t, x = V.ref t ∧ H6 t = some (.tup [.int (kPr H6 x).1, .int (kPr H6 x).2]) := fun x hx => by
        obtain ⟨i, hi⟩ := List.mem_iff_getElem?.mp hx
        obtain ⟨t, k, rfl, _, ht⟩ := hy i x hi
        exact ⟨t, rfl, by rw [kPr_eq ht]; exact ht⟩
      refine ⟨P, ys, kPr H6, rfl, SqL.of hP, by omega, pk, fun m hm hmin => ?_⟩
      obtain ⟨im, him⟩ := List.mem_iff_getElem?.mp hm
      obtain ⟨tm, b, rfl, hbl, htm⟩ := hy im m him
      have hbm := List.mem_of_getElem? hbl
      have hminL : ∀ k ∈ left, lastI ls b ≤ lastI ls k := fun k hk => by
        obtain ⟨i, hi⟩ := List.mem_iff_getElem?.mp hk
        have li := (List.getElem?_eq_some_iff.mp hi).1
        obtain ⟨v, hv⟩ := geV (xs := ys) (n := i) (by omega)
        obtain ⟨t, k', rfl, e1, ht⟩ := hy i v hv
        rw [hi] at e1
        cases e1
        have := hmin _ (List.mem_of_getElem? hv)
        rw [kPr_eq ht, kPr_eq htm, Bool.eq_false_iff, Ne, ltPr_iff] at this
        show lastI ls b ≤ lastI ls k
        omega
      have g2 := g.step C hbm hminL
      refine ⟨tm, _, rfl, SqT.of htm, rfl, _, _, rfl, _, _, rfl, rfl, ?_⟩
      replace hS := s6 _ _ hS
      replace hA := s6 _ _ hA
      replace hLf := s6 _ _ hLf
      replace hD4 := s6 _ _ hD4
      replace k4 : ∀ c o, H3 c = some o → c ≠ S → c ≠ A0 → H6 c = some o := fun c o e n1 n2 => s6 _ _ (k4 c o e n1 n2)
      replace hts4 : ∀ (i : Nat) (v : V) (l : List Int), ts[i]? = some v → ls[i]? = some l → ∃ T, v = .ref T ∧ H6 T = some (.tup (l.map V.int)) := fun i v l e1 e2 => by
        obtain ⟨T, e, h⟩ := hts4 i v l e1 e2
        exact ⟨T, e, s6 _ _ h⟩
      have lsm : (ss.map V.int).length = ss.length := List.length_map ..
      have lam : (as.map V.int).length = as.length := List.length_map ..
      refine ⟨_, rfl, .inl ⟨rfl, _, SqL.of hS⟩, _, rfl, S, _, _, rfl, rfl, hS, szs (by omega), ?_⟩
      have hA6 : ∀ u, (upd H6 S u) A0 = some (.lst (as.map V.int)) := fun u => by rw [upd_ne neSA.symm]; exact hA
      refine ⟨_, rfl, .inl ⟨rfl, _, SqL.of (hA6 _)⟩, _, rfl, A0, _, _, rfl, rfl, hA6 _, szs (by omega), ?_⟩
      have hS7 : (upd (upd H6 S (.lst (ss.map V.int ++ [V.int (lastI ls b)]))) A0 (.lst (as.map V.int ++ [V.int b]))) S = some (.lst ((ss ++ [lastI ls b]).map V.int)) := by rw [upd_ne neSA, upd_same, map_snoc]
      have hA7 : (upd (upd H6 S (.lst (ss.map V.int ++ [V.int (lastI ls b)]))) A0 (.lst (as.map V.int ++ [V.int b]))) A0 = some (.lst ((as ++ [b]).map V.int)) := by rw [upd_same, map_snoc]
      have k7 : ∀ c o, H6 c = some o → c ≠ S → c ≠ A0 → (upd (upd H6 S (.lst (ss.map V.int ++ [V.int (lastI ls b)]))) A0 (.lst (as.map V.int ++ [V.int b]))) c = some o := fun c o e n1 n2 => by rw [upd_ne n2, upd_ne n1]; exact e
      generalize upd (upd H6 S (.lst (ss.map V.int ++ [V.int (lastI ls b)]))) A0 (.lst (as.map V.int ++ [V.int b])) = H7 at *
      replace hLf := k7 _ _ hLf neLS neLA
      replace hts4 : ∀ (i : Nat) (v : V) (l : List Int), ts[i]? = some v → ls[i]? = some l → ∃ T, v = .ref T ∧ H7 T = some (.tup (l.map V.int)) := fun i v l e1 e2 => by
        obtain ⟨T, e, h⟩ := hts4 i v l e1 e2
        exact ⟨T, e, k7 _ _ h (ne_of h hS (by intro z; cases z)) (ne_of h hA (by intro z; cases z))⟩
      replace hD4 := k7 _ _ hD4 neDS neDA
      replace k4 : ∀ c o, H3 c = some o → c ≠ S → c ≠ A0 → H7 c = some o := fun c o e n1 n2 => k7 _ _ (k4 c o e n1 n2) n1 n2
      refine ⟨_, rfl, _, rfl, ⟨_, SqL.of hLf⟩, fun L2 nL2 => ?_⟩
      refine lcz (n := left.length) wl (fun _ _ g s => s.seq g) (left.map fun k => if (!inRun ls (lastI ls b) k) = true then some (V.int k) else none) (by rw [List.length_map]) (szs (by omega)) (SqL.of hLf) nL2 (fun i x H8 H9 o N M hi ho s8 yy hN hM => ?_) (fun H8 s8 hL2 => ?_)
      · obtain ⟨rfl, hx⟩ := yy
        rw [List.getElem?_map, List.getElem?_eq_getElem hi] at hx ho
        cases hx; cases ho
        obtain ⟨ik, eik, hik⟩ := g.lf _ (List.getElem_mem hi)
        generalize left[i] = kk0 at *
        subst eik
        have hla : ls[ik]? = some ls[ik] := List.getElem?_eq_getElem hik
        obtain ⟨T2, ea, hT2⟩ := FitsL.at (D := D) lts hts4 hla
        have ein : inRun ls (lastI ls b) (ik : Int) = decide (lastI ls b ∈ ls[ik]) := by
          unfold inRun
          rw [Int.toNat_natCast, getDI hla]
        generalize ls[ik] = rk at *
        have hD8 := s8 _ _ hD4
        replace hT2 := s8 _ _ hT2
        refine ⟨rfl, ?_⟩
        refine ⟨_, rfl, _, rfl, _, rfl, D, ts, _, _, rfl, rfl, SqL.of hD8, atI_nat ea, T2, _, rfl, .inr (SqT.of hT2), rfl, flat_ints _, ?_⟩
        simp only [if_true]
        rw [inV_ints]
        refine ⟨_, rfl, ?_⟩
        rw [← ein]
        cases ec : inRun ls (lastI ls b) (ik : Int) with
        | true =>
          refine iteF ?_
          exact hM _ (if_neg (by rw [ec]; decide)) (Same.refl _)
        | false =>
          refine iteT ?_
          refine ⟨_, rfl, ?_⟩
          exact hN _ _ (if_pos (by rw [ec]; rfl)) (Same.refl _)
      rw [fmap_if] at hL2
      have lt : (left.filter fun k => !inRun ls (lastI ls b) k).length < left.length := by
        have := g2.ct
        rw [List.length_append, List.length_singleton] at this
        refine List.length_filter_lt_length_iff_exists.mpr ⟨b, hbm, ?_⟩
        obtain ⟨ib, rfl, hib⟩ := g.lf b hbm
        have q := C.at (List.getElem?_eq_getElem hib)
        rw [(inRun_iff C hib).mpr (by omega)]
        decide
      have nL2S : L2 ≠ S := fun z => by subst z; rw [hS7] at nL2; cases nL2
      have nL2A : L2 ≠ A0 := fun z => by subst z; rw [hA7] at nL2; cases nL2
      exact ⟨_, lt, L2, _, _, _, _, _, rfl, rfl, hL2, s8 _ _ hS7, s8 _ _ hA7, nL2S, nL2A, fun c o e n1 n2 => s8 _ _ (k4 c o e n1 n2), g2⟩
theorem ok_l_are_rising {P : Program} {w : World} {K : PySem.W.Frag} {mg : Str → Option Value} {base : Heap} {φ : Fds} (T : Txt K mg φ) : FnOk P w K mg base CX0 1 (He.fAd K ("_law_are_rising", none)) φ.l_are_rising p_l_are_rising (sp_larise K) := by
  refine T.f_l_are_rising.ok sc_l_are_rising (fun vs H Q E h => ?_) (fun cdv A outer s H vs Q E hr h => ?_)
  · obtain ⟨A1, ns, n, rfl, hT, hn, hb, hr, kk⟩ := h; rfl
  · obtain ⟨A1, ns, n, rfl, hT, hn, hb, hr, kk⟩ := h
    refine ⟨_, PSs.nox (pss_cons (ps_if (pt_not (pt_val (pe_callB (id := "isinstance") (isi (K := K)) (by rfl) T.z_isinstance (by decide +kernel) (pa_cons (pv 0) (pa_cons (pe_bltn (v := .ty "tuple") rfl T.z_tuple (by decide +kernel) rfl) pa_nil)))))
      (pss_one (ps_ret pe_bl))
      pss_nil)
      (pss_cons (ps_for PassesOwn.never rfl (pi_tup (pv 0)) (pg_name (i := 2) sc_l_are_rising.nd rfl (Or.inl rfl))
      (pss_one (ps_if (PW.pt (pw_or (pt_not (pt_val (pe_callB (id := "isinstance") (isi (K := K)) (by rfl) T.z_isinstance (by decide +kernel) (pa_cons (pv 2) (pa_cons (pe_bltn (v := .ty "int") rfl T.z_int (by decide +kernel) rfl) pa_nil))))) (pw_or (pt_val (pe_callB (id := "isinstance") (isi (K := K)) (by rfl) T.z_isinstance (by decide +kernel) (pa_cons (pv 2) (pa_cons (pe_bltn (v := .ty "bool") rfl T.z_bool (by decide +kernel) rfl) pa_nil)))) (pw_or (pt_cmpR op_lt (pv 2) pe_int (nomark _)) (pw_or1 (pt_cmpR op_ge (pv 2) (pv 1) (nomark _)))))))
      (pss_one (ps_ret pe_bl))
      pss_nil)))
      (pss_one (ps_ret (pe_callB (id := "all") (allK (K := K)) (by rfl) T.z_all (by decide +kernel) (pa_cons (pe_lc (own := [("_law_one", 2), ("_law_other", 3)]) (g := gTup K 2 (gCons (gName 2) (gCons (gName 3) (gNil)))) rfl sc_l_are_rising.nd (RZ.pi_zipA (by rfl) T.z_zip (pa_cons (pv 0) (pa_cons (pe_slice slH (pv 0) (po_some pe_int) po_none) pa_nil))) (blkOk_by (own := [("_law_one", 2), ("_law_other", 3)]) (N := N_l_are_rising) (sc := (defScope s_l_are_rising)) (by decide +kernel)) (fun _ _ _ _ _ => (pg_tup rfl (pgs_cons (pg_name (i := 2) sc_l_are_rising.nd rfl (Or.inl rfl)) (pgs_cons (pg_name (i := 3) sc_l_are_rising.nd rfl (Or.inl rfl)) pgs_nil)))) (fun _ _ _ _ _ => pts_nil) (fun _ _ _ _ _ => (pe_cmpR op_lt (pv 2) (pv 3) (nomark _)))) pa_nil)))))), ?_⟩
    have lm : (ns.map V.int).length = ns.length := List.length_map ..
    refine ⟨_, rfl, _, _, _, _, _, rfl, .ty _, tyTup (SqT.of (K := K) hT), kit_ty (r := true) (by decide +kernel), _, rfl, iteF ?_⟩
    refine ⟨_, rfl, A1, rfl, ⟨_, SqT.of hT⟩, ?_⟩
    refine for_tup (K := K) (a := A1) (xs := ns.map V.int) (fun i σ H' => (∃ v2 : Option V, σ = [some (.ref A1), some (.int n), v2, none]) ∧ Same H H') ⟨⟨_, rfl⟩, Same.refl _⟩ (fun i σ H' _ q => SqT.of (q.2 _ _ hT)) ?_ ?_
    · rintro i x σ H1 hx ⟨⟨v2, rfl⟩, s1⟩
      obtain ⟨z, hz, rfl⟩ := List.mem_map.mp (List.mem_of_getElem? hx)
      obtain ⟨z0, z1⟩ := hb z hz
      refine ⟨_, rfl, _, _, _, _, _, rfl, .ty _, .base (.int _), kit_ty (r := true) (by decide +kernel), _, rfl, iteF ?_⟩
      refine ⟨_, rfl, _, _, _, _, _, rfl, .ty _, .base (.int _), kit_ty (r := false) (by decide +kernel), _, rfl, iteF ?_⟩
      walk_at "w"
      exact ⟨⟨_, rfl⟩, s1⟩
    · rintro σ H1 ⟨⟨v2, rfl⟩, s1⟩
      have hT0 := s1 _ _ hT
      walk_at "w"
      intro p1 H2 s2 h1
      rw [cutV_tail] at h1
      have hT1 := SqT.of (K := K) (s2 _ _ hT0)
      have ld : ((ns.map V.int).drop 1).length = ns.length - 1 := by rw [List.length_drop, lm]
      refine ⟨A1, p1, _, _, rfl, .inr ⟨hT1, SqT.of h1, fun D nD => ?_⟩⟩
      refine lcz (n := ns.length - 1) (walk_zipT (xs := ns.map V.int) (ys := (ns.map V.int).drop 1) (by omega)) (fun _ _ g s => ⟨s.sqt g.1, s.sqt g.2⟩) (List.replicate (ns.length - 1) (some (V.bl true))) List.length_replicate (szs (by omega)) ⟨hT1, SqT.of h1⟩ nD (fun i x H3 H4 o N M hi ho s3 y hN hM => ?_) (fun H3 s3 hD => ?_)
      · obtain ⟨t, a, b, rfl, nt, rfl, ha, hb'⟩ := y
        obtain ⟨x, hx⟩ := geI (zs := ns) (n := i) (by omega)
        obtain ⟨y, hy⟩ := geI (zs := ns) (n := i + 1) (by omega)
        replace ha : (ns.map V.int)[i]? = some a := ha
        replace hb' : ((ns.map V.int).drop 1)[i]? = some b := hb'
        rw [mapI hx] at ha
        rw [List.getElem?_drop, Nat.add_comm, mapI hy] at hb'
        cases ha; cases hb'
        rw [List.getElem?_replicate, if_pos hi] at ho
        cases ho
        have lt := hr i x y hx hy
        refine ⟨t, _, rfl, SqT.of upd_same, rfl, _, _, rfl, _, _, rfl, rfl, rfl, yesT ?_⟩
        refine ⟨_, rfl, _, rfl, _, _, rfl, rfl, ?_⟩
        show N (.bl (decide (x < y))) _
        rw [decide_eq_true lt]
        exact hN _ _ rfl (same1 nt)
      rw [rep_fm] at hD
      refine ⟨D, _, rfl, SqL.of hD, ?_⟩
      rw [rep_all]
      exact kk _ ((s1.trans s2).trans s3)
theorem ok_l_feet {P : Program} {w : World} {K : PySem.W.Frag} {mg : Str → Option Value} {base : Heap} {φ : Fds} (T : Txt K mg φ) : FnOk P w K mg base CX0 5 (He.fAd K ("_law_feet", none)) φ.l_feet p_l_feet sp_lfeet := by
  obtain ⟨_, B0v, B0⟩ := b_l_take_2 T
  obtain ⟨_, B1v, B1⟩ := b_l_foot_4 T
  refine T.f_l_feet.ok sc_l_feet (fun vs H Q E h => ?_) (fun cdv A outer s H vs Q E hr h => ?_)
  · obtain ⟨h, l, va, vb, n, k, mm, us, zs, x, y, rfl, hh, hn, nlh, hl, tq, k0, k1, l0, l1, ta, tb, m0, m1, kk⟩ := h; rfl
  · obtain ⟨h, l, va, vb, n, k, mm, us, zs, x, y, rfl, hh, hn, nlh, hl, tq, k0, k1, l0, l1, ta, tb, m0, m1, kk⟩ := h
    refine ⟨_, PSs.nox (pss_cons (ps_set (i := 5) sc_l_feet.nd rfl (Or.inl rfl) (pe_lst pa_nil))
      (pss_cons (ps_for PassesOwn.never rfl (pi_range1 rfl T.z_range (pa_cons (pe_op op_add pe_int (pe_call (ok_l_take (K := K) T) (hr.mono (by decide)) rfl T.g_l_take T.f_l_take.kp B0 B0v pass0 (pa_cons (pv 0) (pa_cons (pv 4) pa_nil)))) pa_nil)) (pg_name (i := 6) sc_l_feet.nd rfl (Or.inl rfl))
      (pss_cons (ps_par (i := 7) (j := 8) rfl sc_l_feet.nd rfl rfl (by decide) rfl rfl (pa_cons (pe_call (ok_l_take (K := K) T) (hr.mono (by decide)) rfl T.g_l_take T.f_l_take.kp B0 B0v pass0 (pa_cons (pv 0) (pa_cons pe_int pa_nil))) (pa_cons (pe_call (ok_l_foot (K := K) T) (hr.mono (by decide)) rfl T.g_l_foot T.f_l_foot.kp B1 B1v pass0 (pa_cons (pv 0) (pa_cons (pv 1) (pa_cons (pv 2) (pa_cons (pv 3) pa_nil))))) pa_nil)) (by rfl))
      (pss_one (ps_expr (pe_bm PySem.F.plainAttrs_list PySem.F.slot_list_append PySem.F.type_list_append mt_append (pv 5) (pa_cons (pe_ifExp (PW.pt (pw_or (pt_cmpR op_gt (pv 7) pe_int (nomark _)) (pw_or1 (pt_cmpR (eqDK (K := K) hr.units) (pv 5) (pe_lst pa_nil) (nomark _))))) (pv 8) (pe_ix (ixl (K := K)) (pv 5) pe_int (fun _ _ => rfl))) pa_nil))))))
      (pss_one (ps_ret (pv 5))))), ?_⟩
    walk_at "w"
    intro S nS
    have s1 : Same H (upd H S (.lst [])) := same1 nS
    have hS : upd H S (.lst []) S = some (.lst []) := upd_same
    have nSh := hh.ne nS
    have hh1 := hh.same s1
    generalize upd H S (.lst []) = H1 at *
    walk_at "w"
    intro d H2 d0 d1 hh2 k2
    obtain ⟨d, rfl⟩ := Int.eq_ofNat_of_zero_le d0
    have hS2 := k2 _ _ hS nSh
    have kk2 : Kp h H H2 := (Kp.same s1).trans k2
    walk_at "w"
    refine for_range (fun i σ H' => (∃ v6 v7 v8 : Option V, σ = [some (.ref h), some (.ref l), some va, some vb, some (.int (mm : Int)), some (.ref S), v6, v7, v8]) ∧ HandAt H' h (n + 2 + 10 * i) ∧ Kp h H H' ∧ ∃ fs xs, H' S = some (.lst fs) ∧ fs.length = i ∧ Tqs H' (3 * k + 40) fs xs) ⟨⟨_, _, _, rfl⟩, hh2.mono (by omega), kk2, [], [], hS2, rfl, Tqs.nil⟩ ?_ ?_
    · rintro i σ H3 hi ⟨⟨v6, v7, v8, rfl⟩, hh3, k3, fs, xs, hS3, lf, tf⟩
      have hi24 : i < 24 := by omega
      have lx := tf.len
      walk_at "w"
      intro e H4 e0 e1 hh4 k4
      have k34 := k3.trans k4
      walk_at "w"
      refine ⟨zs, x, y, rfl, hh4, by omega, nlh, k34 _ _ hl nlh, tq.kp hh k34, k0, k1, l0, l1, ta.kp hh k34, tb.kp hh k34, fun v z H5 hh5 k5 tv => ?_⟩
      have k45 := k4.trans k5
      have hS5 := k45 _ _ hS3 nSh
      have tf5 := tf.kp hh3 k45
      have kH5 := k3.trans k45
      walk_at "w"
      have fin : ∀ (w : V) (z : Q2) (H6 : Hp), Same H5 H6 → TQ H6 w (3 * k + 40) z → H6 S = some (.lst fs) ∧ HandAt (upd H6 S (.lst (fs ++ [w]))) h (n + 2 + 10 * (i + 1)) ∧ Kp h H (upd H6 S (.lst (fs ++ [w]))) ∧ Tqs (upd H6 S (.lst (fs ++ [w]))) (3 * k + 40) (fs ++ [w]) (xs ++ [z]) := fun w z H6 s6 tw => by
        have hS6 := s6 _ _ hS5
        have pl : Nl H6 (upd H6 S (.lst (fs ++ [w]))) := Nl.put hS6
        refine ⟨hS6, ((hh5.same s6).put nSh).mono (by omega), fun c o ec nc => ?_, ((tf5.same s6).snoc tw).nl pl⟩
        rw [upd_ne (ne_of_none ec nS)]
        exact s6 _ _ (kH5 _ _ ec nc)
      by_cases he : 0 < e
      · rw [decide_eq_true he]
        refine iteT (iteT ?_)
        refine ⟨_, rfl, ?_⟩
        obtain ⟨f1, f2, f3, f4⟩ := fin v z _ (Same.refl _) tv
        exact ⟨S, fs, v, rfl, rfl, f1, szs (by omega), ⟨_, _, _, rfl⟩, f2, f3, fs ++ [v], _, upd_same, by rw [List.length_append, lf]; rfl, f4⟩
      · rw [decide_eq_false he]
        refine iteF ?_
        refine ⟨_, rfl, szl (Nat.zero_le _), fun p9 np9 => ?_⟩
        have sN : Same H5 (upd H5 p9 (.lst [])) := same1 np9
        refine ⟨.list (xs.map fun z => intsD [z.1, z.2]), .list [], tqs_dp (sN _ _ hS5) (tf5.same sN), .lst (SqL.of upd_same) .nil, shRows (fun z : Q2 => [z.1, z.2]) xs, by decide +kernel, ?_⟩
        refine ⟨_, rfl, ?_⟩
        cases xs with
        | nil =>
          rw [show PyData.eqv (.list (([] : List Q2).map fun z => intsD [z.1, z.2])) (.list []) = true from rfl]
          refine iteT ?_
          refine ⟨_, rfl, ?_⟩
          obtain ⟨f1, f2, f3, f4⟩ := fin v z _ sN (tv.same sN)
          exact ⟨S, fs, v, rfl, rfl, f1, szs (by omega), ⟨_, _, _, rfl⟩, f2, f3, fs ++ [v], _, upd_same, by rw [List.length_append, lf]; rfl, f4⟩
        | cons z0 xs =>
          rw [show PyData.eqv (.list ((z0 :: xs).map fun z => intsD [z.1, z.2])) (.list []) = false from rfl]
          refine iteF ?_
          obtain ⟨v0, hv0, t0⟩ := tf5.at (i := 0) (z := z0) rfl
          refine ⟨_, rfl, S, fs, _, _, rfl, rfl, SqL.of (sN _ _ hS5), atI_of (n := 0) rfl hv0, ?_⟩
          obtain ⟨f1, f2, f3, f4⟩ := fin v0 z0 _ sN (t0.same sN)
          exact ⟨S, fs, v0, rfl, rfl, f1, szs (by omega), ⟨_, _, _, rfl⟩, f2, f3, fs ++ [v0], _, upd_same, by rw [List.length_append, lf]; rfl, f4⟩
    · rintro σ H3 ⟨⟨v6, v7, v8, rfl⟩, hh3, k3, fs, xs, hS3, lf, tf⟩
      have lx := tf.len
      walk_at "w"
      exact kk S fs xs H3 (hh3.mono (by omega)) k3 nSh hS3 tf (by omega) (by omega)
theorem ok_l_is_stock {P : Program} {w : World} {K : PySem.W.Frag} {mg : Str → Option Value} {base : Heap} {φ : Fds} (T : Txt K mg φ) : FnOk P w K mg base CX0 3 (He.fAd K ("_law_is_stock", none)) φ.l_is_stock p_l_is_stock (sp_lisst K) := by
  obtain ⟨_, B0v, B0⟩ := b_l_same_2 T
  obtain ⟨_, B1v, B1⟩ := b_l_are_rising_2 T
  refine T.f_l_is_stock.ok sc_l_is_stock (fun vs H Q E h => ?_) (fun cdv A outer s H vs Q E hr h => ?_)
  · obtain ⟨A1, D, ls, n, o, rfl, hF, ll, n24, hB, hT, hC, kk⟩ := h; rfl
  · obtain ⟨A1, D, ls, n, o, rfl, hF, ll, n24, hB, hT, hC, kk⟩ := h
    refine ⟨_, PSs.nox (pss_cons (ps_if (PW.pt (pw_or (pt_not (pt_val (pe_callB (id := "isinstance") (isi (K := K)) (by rfl) T.z_isinstance (by decide +kernel) (pa_cons (pv 0) (pa_cons (pe_bltn (v := .ty "tuple") rfl T.z_tuple (by decide +kernel) rfl) pa_nil))))) (pw_or (pt_cmpR (notInK (K := K)) (pe_callB (id := "len") (lenS (K := K)) (by rfl) T.z_len PySem.boot_len (pa_cons (pv 0) pa_nil)) (pe_tup (pa_cons pe_int (pa_cons pe_int pa_nil))) (by rfl)) (pw_or1 (pt_not (pt_val (pe_callB (id := "isinstance") (isi (K := K)) (by rfl) T.z_isinstance (by decide +kernel) (pa_cons (pe_ix (ixt (K := K)) (pv 0) pe_int (fun _ _ => rfl)) (pa_cons (pe_bltn (v := .ty "str") rfl T.z_str (by decide +kernel) rfl) pa_nil)))))))))
      (pss_one (ps_ret pe_bl))
      pss_nil)
      (pss_cons (ps_if (PW.pt (pw_or (pt_cmpR (inDK (K := K) (rm65 hr)) (pe_tup pa_nil) (pv 1) (by rfl)) (pw_or (pt_cmpR op_ne (pe_ix (ixt (K := K)) (pv 0) pe_int (fun _ _ => rfl)) pe_str (nomark _)) (pw_or1 (pt_cmpR op_eq (pe_callB (id := "len") (lenS (K := K)) (by rfl) T.z_len PySem.boot_len (pa_cons (pv 0) pa_nil)) pe_int (nomark _))))))
      (pss_one (ps_ret (pe_and (pe_cmpR (inDK (K := K) (rm65 hr)) (pe_tup pa_nil) (pv 1) (by rfl)) (pe_and (pe_cmpR op_eq (pe_callB (id := "len") (lenS (K := K)) (by rfl) T.z_len PySem.boot_len (pa_cons (pv 0) pa_nil)) pe_int (nomark _)) (pe_one (pe_call (ok_l_same (K := K) T) (hr.mono (by decide)) rfl T.g_l_same T.f_l_same.kp B0 B0v pass0 (pa_cons (pv 0) (pa_cons (pe_tup (pa_cons pe_str (pa_cons (pe_bm PySem.F.plainAttrs_list PySem.F.slot_list_index PySem.F.type_list_index (indexDK (K := K) (rm65 hr)) (pv 1) (pa_cons (pe_tup pa_nil) pa_nil)) pa_nil))) pa_nil))))))))
      pss_nil)
      (pss_cons (ps_asg (pe_slice slH (pv 0) (po_some pe_int) po_none) (pg_tup rfl (pgs_cons (pg_name (i := 3) sc_l_is_stock.nd rfl (Or.inr rfl)) (pgs_cons (pg_name (i := 4) sc_l_is_stock.nd rfl (Or.inl rfl)) pgs_nil))))
      (pss_cons (ps_if (PW.pt (pw_or (pt_not (pt_val (pe_call (ok_l_are_rising (K := K) T) (hr.mono (by decide)) rfl T.g_l_are_rising T.f_l_are_rising.kp B1 B1v pass0 (pa_cons (pv 3) (pa_cons (pv 2) pa_nil))))) (pw_or (pt_not (pt_val (pe_call (ok_l_are_rising (K := K) T) (hr.mono (by decide)) rfl T.g_l_are_rising T.f_l_are_rising.kp B1 B1v pass0 (pa_cons (pv 4) (pa_cons (pe_callB (id := "len") (lenS (K := K)) (by rfl) T.z_len PySem.boot_len (pa_cons (pv 1) pa_nil)) pa_nil))))) (pw_or1 (pt_cmpR op_ne (pe_callB (id := "len") (lenS (K := K)) (by rfl) T.z_len PySem.boot_len (pa_cons (pv 3) pa_nil)) (pe_callB (id := "len") (lenS (K := K)) (by rfl) T.z_len PySem.boot_len (pa_cons (pv 4) pa_nil)) (nomark _))))))
      (pss_one (ps_ret pe_bl))
      pss_nil)
      (pss_cons (ps_if (pt_not (pt_val (pe_callB (id := "all") (allK (K := K)) (by rfl) T.z_all (by decide +kernel) (pa_cons (pe_lcD (s0 := s) (H0 := H) (own := [("_law_run", 7)]) (g := gName 7) rfl sc_l_is_stock.nd (pi_list (pv 1)) (blkOk_by (own := [("_law_run", 7)]) (N := N_l_is_stock) (sc := (defScope s_l_is_stock)) (by decide +kernel)) pts_nil (pe_callB (id := "any") (anyK (K := K)) (by rfl) T.z_any (by decide +kernel) (pa_cons (pe_lc (own := [("_law_size", 8)]) (g := gName 8) rfl sc_l_is_stock.nd (pi_tupK (K := K) (pv 3)) (blkOk_by (own := [("_law_size", 8)]) (N := N_l_is_stock) (sc := (relS _ (defScope s_l_is_stock))) (by decide +kernel)) (fun _ _ _ _ _ => (pg_name (i := 8) sc_l_is_stock.nd rfl (Or.inl rfl))) (fun _ _ _ _ _ => pts_nil) (fun _ _ _ _ _ => (pe_cmpR (inK (K := K)) (pv 8) (pv 7) (by rfl)))) pa_nil)) (fun _ _ _ _ _ => (pg_name (i := 7) sc_l_is_stock.nd rfl (Or.inr rfl))) (fun _ _ _ _ _ => pts_nil) (fun _ _ _ _ _ => (pe_callB (id := "any") (anyK (K := K)) (by rfl) T.z_any (by decide +kernel) (pa_cons (pe_lc (own := [("_law_size", 8)]) (g := gName 8) rfl sc_l_is_stock.nd (pi_tupK (K := K) (pv 3)) (blkOk_by (own := [("_law_size", 8)]) (N := N_l_is_stock) (sc := (relS _ (defScope s_l_is_stock))) (by decide +kernel)) (fun _ _ _ _ _ => (pg_name (i := 8) sc_l_is_stock.nd rfl (Or.inl rfl))) (fun _ _ _ _ _ => pts_nil) (fun _ _ _ _ _ => (pe_cmpR (inK (K := K)) (pv 8) (pv 7) (by rfl)))) pa_nil)))) pa_nil))))
      (pss_one (ps_ret pe_bl))
      pss_nil)
      (pss_cons (ps_for PassesOwn.never rfl (pi_tup (pv 4)) (pg_name (i := 5) sc_l_is_stock.nd rfl (Or.inl rfl))
      (pss_one (ps_for PassesOwn.never rfl (pi_tup (pv 4)) (pg_name (i := 6) sc_l_is_stock.nd rfl (Or.inr rfl))
      (pss_one (ps_if (PW.pt (pw_and (pt_cmpR op_lt (pv 5) (pv 6) (nomark _)) (pw_and1 (pt_val (pe_callB (id := "any") (anyK (K := K)) (by rfl) T.z_any (by decide +kernel) (pa_cons (pe_lc (own := [("_law_size", 8)]) (g := gName 8) rfl sc_l_is_stock.nd (pi_tup (pe_ix (ixl (K := K)) (pv 1) (pv 5) (fun _ _ => rfl))) (blkOk_by (own := [("_law_size", 8)]) (N := N_l_is_stock) (sc := (defScope s_l_is_stock)) (by decide +kernel)) (fun _ _ _ _ _ => (pg_name (i := 8) sc_l_is_stock.nd rfl (Or.inl rfl))) (fun _ _ _ _ _ => pts_nil) (fun _ _ _ _ _ => (pe_cmpR (inK (K := K)) (pv 8) (pe_ix (ixl (K := K)) (pv 1) (pv 6) (fun _ _ => rfl)) (by rfl)))) pa_nil))))))
      (pss_one (ps_ret pe_bl))
      pss_nil)))))
      (pss_one (ps_ret pe_bl)))))))), ?_⟩
    obtain ⟨ts, hD, lts, hts⟩ := hF.ob
    cases o with
    | some m =>
      have hT : H A1 = some (.tup [.str "never", .int (m : Int)]) := hT
      have sqT := SqT.of (K := K) hT
      refine ⟨_, rfl, _, _, _, _, _, rfl, .ty _, tyTup sqT, kit_ty (r := true) (by decide +kernel), _, rfl, iteF ?_⟩
      refine ⟨_, rfl, A1, _, rfl, .inr sqT, szl (Nat.le_of_ble_eq_true rfl), fun p9 np9 => ?_⟩
      have s1 : Same H (upd H p9 (.tup [.int 2, .int 3])) := same1 np9
      have hp9 : upd H p9 (.tup [.int 2, .int 3]) p9 = some (.tup [.int 2, .int 3]) := upd_same
      generalize upd H p9 (.tup [.int 2, .int 3]) = H1 at *
      have hT1 := s1 _ _ hT
      have sqT1 := SqT.of (K := K) hT1
      have FL1 := hF.same s1
      refine ⟨_, _, rfl, .inr (SqT.of hp9), rfl, by decide +kernel, ?_⟩
      simp only [if_true]
      rw [show (!inV (V.int (([V.str "never", V.int (m : Int)].length : Nat) : Int)) [V.int 2, V.int 3]) = false from rfl]
      refine ⟨_, rfl, iteF ?_⟩
      refine ⟨_, rfl, A1, _, _, _, rfl, rfl, sqT1, atI_of (n := 0) rfl rfl, _, _, _, _, _, rfl, .ty _, .base (.str _), kit_ty (r := true) (by decide +kernel), _, rfl, iteF ?_⟩
      walk_at "w"
      intro p6 np6
      have s6 : Same H1 (upd H1 p6 (.tup [])) := same1 np6
      have FL6 := FL1.same s6
      walk_at "w"
      refine ⟨intsD [], _, dpT (zs := []) upd_same, FL6.dp, shInts _, shRows (fun l => l) _, ?_⟩
      rw [(any_bare ls).mpr ⟨[], List.mem_of_getElem? hB.1, rfl⟩]
      refine ⟨_, rfl, iteT ?_⟩
      have hT6 := s6 _ _ hT1
      generalize upd H1 p6 (.tup []) = H6 at *
      walk_at "w"
      intro p5 np5
      have s5 : Same H6 (upd H6 p5 (.tup [])) := same1 np5
      have FL5 := FL6.same s5
      walk_at "w"
      refine ⟨intsD [], _, dpT (zs := []) upd_same, FL5.dp, shInts _, shRows (fun l => l) _, ?_⟩
      rw [(any_bare ls).mpr ⟨[], List.mem_of_getElem? hB.1, rfl⟩]
      refine ⟨_, rfl, iteT ?_⟩
      have hT5 := s5 _ _ hT6
      generalize upd H6 p5 (.tup []) = H5 at *
      refine ⟨_, rfl, A1, _, rfl, .inr (SqT.of hT5), rfl, _, rfl, ?_⟩
      rw [show decide (V.int (([V.str "never", V.int (m : Int)].length : Nat) : Int) = V.int 2) = true from decide_eq_true rfl]
      refine iteT ?_
      obtain ⟨ts5, hD5, _⟩ := FL5.ob
      refine ⟨_, rfl, _, rfl, .inl ⟨rfl, _, SqL.of hD5⟩, ?_⟩
      refine ⟨Nat.le_of_ble_eq_true rfl, fun p7 np7 => ?_⟩
      have s7 : Same H5 (upd H5 p7 (.tup [])) := same1 np7
      have FL7 := FL5.same s7
      refine ⟨D, .ref p7, intsD [], ls.map fun l => intsD l, m, intsD [], rfl, rfl, FL7.dp, dpT (zs := []) upd_same, shRows (fun l => l) _, shInts _, by rw [List.getElem?_map, hB.1]; rfl, by rw [eqv_intsD]; exact decide_eq_true rfl, fun m' z' hm hz' => ?_, ?_⟩
      · rw [List.getElem?_map] at hz'
        cases q : ls[m']? with
        | none => rw [q] at hz'; cases hz'
        | some l' =>
          rw [q] at hz'
          cases hz'
          rw [eqv_intsD]
          exact decide_eq_false (hB.2 m' l' hm q)
      have hT7 := s7 _ _ hT5
      generalize upd H5 p7 (.tup []) = H7 at *
      refine ⟨szl (Nat.le_of_ble_eq_true rfl), fun p8 np8 => ?_⟩
      have s8 : Same H7 (upd H7 p8 (.tup [.str "never", .int (m : Int)])) := same1 np8
      refine ⟨_, _, rfl, SameV.two (s8 _ _ hT7) upd_same (.inr (.inl ⟨_, rfl⟩)) (.inl ⟨_, rfl⟩), fun H9 s9 => ?_⟩
      exact kk _ (((((s1.trans s6).trans s5).trans s7).trans s8).trans s9)
    | none =>
      obtain ⟨S, A, ss, as, hT, hS, hA, few⟩ := hT
      have sqT := SqT.of (K := K) hT
      have C := hC rfl
      have la : as.length ≤ ls.length := lots_mem _ _ (lots_has ls.length as few.arise (fun s hs => by obtain ⟨i, e, h⟩ := few.mem s hs; omega))
      have lsa := few.len
      refine ⟨_, rfl, _, _, _, _, _, rfl, .ty _, tyTup sqT, kit_ty (r := true) (by decide +kernel), _, rfl, iteF ?_⟩
      refine ⟨_, rfl, A1, _, rfl, .inr sqT, szl (Nat.le_of_ble_eq_true rfl), fun p9 np9 => ?_⟩
      have s1 : Same H (upd H p9 (.tup [.int 2, .int 3])) := same1 np9
      have hp9 : upd H p9 (.tup [.int 2, .int 3]) p9 = some (.tup [.int 2, .int 3]) := upd_same
      generalize upd H p9 (.tup [.int 2, .int 3]) = H1 at *
      have hT1 := s1 _ _ hT
      have sqT1 := SqT.of (K := K) hT1
      have FL1 := hF.same s1
      refine ⟨_, _, rfl, .inr (SqT.of hp9), rfl, by decide +kernel, ?_⟩
      simp only [if_true]
      rw [show (!inV (V.int (([V.str "stock", V.ref S, V.ref A].length : Nat) : Int)) [V.int 2, V.int 3]) = false from rfl]
      refine ⟨_, rfl, iteF ?_⟩
      refine ⟨_, rfl, A1, _, _, _, rfl, rfl, sqT1, atI_of (n := 0) rfl rfl, _, _, _, _, _, rfl, .ty _, .base (.str _), kit_ty (r := true) (by decide +kernel), _, rfl, iteF ?_⟩
      walk_at "w"
      intro p6 np6
      have s6 : Same H1 (upd H1 p6 (.tup [])) := same1 np6
      have FL6 := FL1.same s6
      walk_at "w"
      refine ⟨intsD [], _, dpT (zs := []) upd_same, FL6.dp, shInts _, shRows (fun l => l) _, ?_⟩
      rw [show ((ls.map fun l => intsD l).any fun z => PyData.eqv z (intsD [])) = false by
        cases q : ((ls.map fun l => intsD l).any fun z => PyData.eqv z (intsD [])) with
        | false => rfl
        | true =>
          obtain ⟨l', hl, e⟩ := (any_bare _).mp q
          exact absurd e (hB l' hl)]
      refine ⟨_, rfl, iteF ?_⟩
      have hT6 := s6 _ _ hT1
      have s06 := s1.trans s6
      generalize upd H1 p6 (.tup []) = H6 at *
      refine ⟨_, rfl, A1, _, _, _, rfl, rfl, SqT.of hT6, atI_of (n := 0) rfl rfl, rfl, _, rfl, ?_⟩
      rw [decide_eq_true rfl]
      refine iteF ?_
      refine ⟨_, rfl, A1, _, rfl, .inr (SqT.of hT6), rfl, _, rfl, ?_⟩
      rw [show decide (V.int (([V.str "stock", V.ref S, V.ref A].length : Nat) : Int) = V.int 2) = false from rfl]
      refine iteF ?_
      walk_at "w"
      intro p5 H5 s5 hp5
      have ec : cutV [V.str "stock", V.ref S, V.ref A] (some 1) none = [V.ref S, V.ref A] := (cutV_drop _ (n := 1) rfl).trans rfl
      rw [ec] at hp5
      have s05 := s06.trans s5
      have hS5 := s05 _ _ hS
      have hA5 := s05 _ _ hA
      have hD5 := s05 _ _ hD
      refine ⟨p5, _, rfl, SqT.of hp5, rfl, _, _, rfl, _, _, rfl, rfl, ?_⟩
      refine ⟨_, rfl, _, rfl, S, ss, (n : Int), rfl, hS5, by omega, fun s hs => by
        obtain ⟨i, hi, e⟩ := few.own s hs
        have := C.at (List.getElem?_eq_getElem hi)
        omega, few.rise, fun Ha sa => ?_⟩
      refine ⟨_, rfl, iteF ?_⟩
      have hAa := sa _ _ hA5
      have hSa := sa _ _ hS5
      have hDa := sa _ _ hD5
      refine ⟨_, rfl, _, rfl, D, _, rfl, .inl (SqL.of hDa), A, as, (ts.length : Int), rfl, hAa, by omega, fun s hs => by
        obtain ⟨i, e, h⟩ := few.mem s hs
        omega, few.arise, fun Hb sb => ?_⟩
      refine ⟨_, rfl, iteF ?_⟩
      have hAb := sb _ _ hAa
      have hSb := sb _ _ hSa
      have hDb := sb _ _ hDa
      have s0b := (s05.trans sa).trans sb
      have hts1 : ∀ (i : Nat) (v : V) (l : List Int), ts[i]? = some v → ls[i]? = some l → ∃ T, v = .ref T ∧ Hb T = some (.tup (l.map V.int)) := fun i v l e1 e2 => by
        obtain ⟨T, e, h⟩ := hts i v l e1 e2
        exact ⟨T, e, s0b _ _ h⟩
      refine ⟨_, rfl, S, _, rfl, .inr (SqT.of hSb), _, rfl, A, _, rfl, .inr (SqT.of hAb), ?_⟩
      refine ⟨rfl, _, rfl, ?_⟩
      rw [List.length_map, List.length_map, lsa, decide_eq_true rfl]
      refine iteF ?_
      clear hp5 hT6 hp9 sqT sqT1 FL6 FL1 hT1 hA5 hS5 hD5 hAa hSa hDa s05
      have good := (good_iff C).mpr few.hit
      have wS : Walk _ ss.length _ _ := (by have := walk_tup (K := K) (a := S) (xs := ss.map V.int); rwa [List.length_map] at this)
      walk_at "w"
      refine fun D2 nD2 => ?_
      refine lcz (n := ts.length) walk_list (fun _ _ g s => s.seq g) (ls.map fun l => some (V.bl (ss.any fun s => decide (s ∈ l)))) (by rw [List.length_map]; omega) (szs (by omega)) (SqL.of hDb) nD2 (fun i2 x2 Hc Hd z2 N2 M2 hi2 ez2 s3 yy2 hN2 hM2 => ?_) (fun H3 s3 hD2 => ?_)
      · obtain ⟨rfl, hx2⟩ := yy2
        have hl2 : ls[i2]? = some ls[i2] := List.getElem?_eq_getElem (by omega)
        obtain ⟨Tr, rfl, hTr⟩ := hts1 i2 x2 _ hx2 hl2
        rw [List.getElem?_map, hl2] at ez2
        cases ez2
        generalize ls[i2] = rn at *
        replace hTr := s3 _ _ hTr
        have hSc := s3 _ _ hSb
        refine ⟨rfl, yesT ?_⟩
        walk_at "w"
        refine fun D3 nD3 => ?_
        refine lcz (n := ss.length) wS (fun _ _ g s => s.sqt g) (ss.map fun s => some (V.bl (decide (s ∈ rn)))) (by rw [List.length_map]) (szs (by omega)) (SqT.of hSc) nD3 (fun i3 x3 He Hf z3 N3 M3 hi3 ez3 s4 yy3 hN3 hM3 => ?_) (fun H4 s4 hD3 => ?_)
        · obtain ⟨rfl, hx3⟩ := yy3
          have hl3 : ss[i3]? = some ss[i3] := List.getElem?_eq_getElem (by omega)
          rw [List.getElem?_map, hl3] at hx3 ez3
          cases hx3; cases ez3
          replace hTr := s4 _ _ hTr
          refine ⟨rfl, yesT ?_⟩
          refine ⟨_, rfl, _, rfl, _, _, rfl, .inr (SqT.of hTr), rfl, flat_ints _, ?_⟩
          simp only [Bool.false_eq_true, if_false]
          rw [inV_ints]
          exact hN3 _ _ rfl (Same.refl _)
        · rw [fmap_some] at hD3
          refine ⟨_, ss.map fun s => decide (s ∈ rn), rfl, SqL.of (by rw [hD3, List.map_map]; rfl), ?_⟩
          rw [map_any]
          exact hN2 _ _ rfl s4
      rw [fmap_some] at hD2
      refine ⟨_, ls.map fun l => ss.any fun s => decide (s ∈ l), rfl, SqL.of (by rw [hD2, List.map_map]; rfl), _, rfl, ?_⟩
      have eb : (ls.map fun l => ss.any fun s => decide (s ∈ l)).all _root_.id = goodB ls ss := by rw [List.all_map]; rfl
      rw [eb, good]
      refine iteF ?_
      have s0c := s0b.trans s3
      replace hAb := s3 _ _ hAb
      replace hDb := s3 _ _ hDb
      replace hts1 : ∀ (i : Nat) (v : V) (l : List Int), ts[i]? = some v → ls[i]? = some l → ∃ T, v = .ref T ∧ H3 T = some (.tup (l.map V.int)) := fun i v l e1 e2 => by
        obtain ⟨T, e, h⟩ := hts1 i v l e1 e2
        exact ⟨T, e, s3 _ _ h⟩
      clear hD2 nD2 eb hSb s3 sb sa s0b
      have w1 : Walk _ as.length _ _ := (by have := walk_tup (K := K) (a := A) (xs := as.map V.int); rwa [List.length_map] at this)
      walk_at "w"
      refine for_it w1 (fun i σ H' => (∃ v5 v6 : Option V, σ = [some (.ref A1), some (.ref D), some (.int (n : Int)), some (.ref S), some (.ref A), v5, v6, none, none]) ∧ Same H3 H') ⟨⟨_, _, rfl⟩, Same.refl _⟩ (fun i σ H' _ q => SqT.of (q.2 _ _ hAb)) ?_ ?_
      · rintro i x σ He Hf hi ⟨⟨v5, v6, rfl⟩, s8⟩ ⟨rfl, hx⟩
        rw [List.getElem?_map, List.getElem?_eq_getElem hi] at hx
        cases hx
        obtain ⟨ia, ea, hia⟩ := few.mem _ (List.getElem_mem hi)
        have hmi := List.getElem_mem hi
        generalize as[i] = one at *
        subst ea
        have hA8 := s8 _ _ hAb
        walk_at "w"
        refine for_it w1 (fun i σ H' => (∃ v6 : Option V, σ = [some (.ref A1), some (.ref D), some (.int (n : Int)), some (.ref S), some (.ref A), some (.int (ia : Int)), v6, none, none]) ∧ Same H3 H') ⟨⟨_, rfl⟩, s8⟩ (fun i σ H' _ q => SqT.of (q.2 _ _ hAb)) ?_ ?_
        · rintro j x σ He Hf hj ⟨⟨v6, rfl⟩, s9⟩ ⟨rfl, hx⟩
          rw [List.getElem?_map, List.getElem?_eq_getElem hj] at hx
          cases hx
          obtain ⟨ib, eb, hib⟩ := few.mem _ (List.getElem_mem hj)
          have hmj := List.getElem_mem hj
          generalize as[j] = oth at *
          subst eb
          have hD9 := s9 _ _ hDb
          walk_at "w"
          refine ite2 (fun e => ?_) (fun e => ?_)
          · have lt := of_decide_eq_true e
            have hla : ls[ia]? = some ls[ia] := List.getElem?_eq_getElem hia
            have hlb : ls[ib]? = some ls[ib] := List.getElem?_eq_getElem hib
            have no := apart_no C hla hlb (few.apart _ hmi _ hmj (by omega))
            obtain ⟨Ta, ea, hTa⟩ := FitsL.at (D := D) lts hts1 hla
            obtain ⟨Tb, eb, hTb⟩ := FitsL.at (D := D) lts hts1 hlb
            obtain ⟨aa, ma, la1, la2⟩ := C ia _ hla
            have lla : ls[ia].length ≤ 24 := by rw [la2, List.length_map, List.length_range']; omega
            generalize ls[ia] = ra at *
            generalize ls[ib] = rb at *
            replace hTa := s9 _ _ hTa
            replace hTb := s9 _ _ hTb
            walk_at "w"
            intro D7 nD7
            refine lcz (n := ra.length) (by have := walk_tup (K := K) (a := Ta) (xs := ra.map V.int); rwa [List.length_map] at this) (fun _ _ g s => s.sqt g) (ra.map fun s => some (V.bl (decide (s ∈ rb)))) (by rw [List.length_map]) (szs (by omega)) (SqT.of hTa) nD7 (fun i3 x3 He Hf z3 N3 M3 hi3 ez3 s4 yy3 hN3 hM3 => ?_) (fun HA s4 hD7 => ?_)
            · obtain ⟨rfl, hx3⟩ := yy3
              have hl3 : ra[i3]? = some ra[i3] := List.getElem?_eq_getElem (by omega)
              rw [List.getElem?_map, hl3] at hx3 ez3
              cases hx3; cases ez3
              replace hTb := s4 _ _ hTb
              replace hD9 := s4 _ _ hD9
              refine ⟨rfl, yesT ?_⟩
              refine ⟨_, rfl, _, rfl, _, rfl, D, ts, _, _, rfl, rfl, SqL.of hD9, atI_nat eb, Tb, _, rfl, .inr (SqT.of hTb), rfl, flat_ints _, ?_⟩
              simp only [Bool.false_eq_true, if_false]
              rw [inV_ints]
              exact hN3 _ _ rfl (Same.refl _)
            · rw [fmap_some] at hD7
              refine ⟨_, ra.map fun s => decide (s ∈ rb), rfl, SqL.of (by rw [hD7, List.map_map]; rfl), _, rfl, ?_⟩
              rw [map_any, no]
              exact iteF ⟨⟨_, rfl⟩, s9.trans s4⟩
          · exact ⟨⟨_, rfl⟩, s9⟩
        · rintro σ H9 ⟨⟨v6, rfl⟩, s9⟩
          exact ⟨⟨_, _, rfl⟩, s9⟩
      · rintro σ H8 ⟨⟨v5, v6, rfl⟩, s8⟩
        walk_at "w"
        exact kk _ (s0c.trans s8)
theorem ok_l_right {P : Program} {w : World} {K : PySem.W.Frag} {mg : Str → Option Value} {base : Heap} {φ : Fds} (T : Txt K mg φ) : FnOk P w K mg base CX0 8 (He.fAd K ("_law_right", none)) φ.l_right p_l_right (sp_lright43 K (He.ga K "Measure") (He.ga K "Ladder")) := by
  obtain ⟨_, B0v, B0⟩ := b_l_runs_4 T
  obtain ⟨_, B1v, B1⟩ := b_l_is_stock_3 T
  obtain ⟨_, B2v, B2⟩ := b_Measure_init_3 T
  obtain ⟨_, B3v, B3⟩ := b_shows_stock_5 T
  obtain ⟨_, B4v, B4⟩ := b_l_measures_1 T
  obtain ⟨_, B5v, B5⟩ := b_l_stock_1 T
  refine T.f_l_right.ok sc_l_right (fun vs H Q E h => ?_) (fun cdv A outer s H vs Q E hr h => ?_)
  · obtain ⟨p, l, S, A1, va, vb, k, j, m, us, fs, zs, xs, r, lo, hi, x, y, rfl, hL, hl, tq, hS, tf, lx, x0, ta, tb, k0, k1, j0, j1, m0, m1, SV, kk⟩ := h; rfl
  · obtain ⟨p, l, S, A1, va, vb, k, j, m, us, fs, zs, xs, r, lo, hi, x, y, rfl, hL, hl, tq, hS, tf, lx, x0, ta, tb, k0, k1, j0, j1, m0, m1, SV, kk⟩ := h
    refine ⟨_, PSs.nox (pss_cons (ps_set (i := 6) sc_l_right.nd rfl (Or.inl rfl) (pe_call (ok_l_runs (K := K) T) (hr.mono (by decide)) rfl T.g_l_runs T.f_l_runs.kp B0 B0v pass0 (pa_cons (pv 1) (pa_cons (pv 2) (pa_cons (pv 3) (pa_cons (pv 4) pa_nil))))))
      (pss_cons (ps_if (pt_not (pt_val (pe_call (ok_l_is_stock (K := K) T) (hr.mono (by decide)) rfl T.g_l_is_stock T.f_l_is_stock.kp B1 B1v pass0 (pa_cons (pv 5) (pa_cons (pv 6) (pa_cons (pe_callB (id := "len") (lenS (K := K)) (by rfl) T.z_len PySem.boot_len (pa_cons (pv 1) pa_nil)) pa_nil))))))
      (pss_one (ps_ret pe_bl))
      pss_nil)
      (pss_cons (ps_set (i := 7) sc_l_right.nd rfl (Or.inl rfl) (pe_make T.mk_Measure (ok_Measure_init (K := K) T) (hr.mono (by decide)) rfl T.g_Measure B2 B2v pass0 (pa_cons (pe_ix (ixt (K := K)) (pv 4) pe_int (fun _ _ => rfl)) (pa_cons (pe_ix (ixt (K := K)) (pv 4) pe_int (fun _ _ => rfl)) pa_nil))))
      (pss_cons (ps_if (pt_cmpR op_notBl (pe_call (ok_shows_stock (K := K) T) (hr.mono (by decide)) rfl T.g_shows_stock T.f_shows_stock.kp B3 B3v pass0 (pa_cons (pv 0) (pa_cons (pe_call (ok_l_measures (K := K) T) (hr.mono (by decide)) rfl T.g_l_measures T.f_l_measures.kp B4 B4v pass0 (pa_cons (pv 2) pa_nil)) (pa_cons (pe_make T.mk_Measure (ok_Measure_init (K := K) T) (hr.mono (by decide)) rfl T.g_Measure B2 B2v pass0 (pa_cons (pe_ix (ixt (K := K)) (pv 3) pe_int (fun _ _ => rfl)) (pa_cons (pe_ix (ixt (K := K)) (pv 3) pe_int (fun _ _ => rfl)) pa_nil))) (pa_cons (pv 7) (pa_cons (pv 5) pa_nil)))))) pe_bl (nomark _))
      (pss_one (ps_ret pe_bl))
      pss_nil)
      (pss_one (ps_ret (pe_or (pe_cmpR (inDK (K := K) (rm65 hr)) (pe_tup pa_nil) (pv 6) (by rfl)) (pe_one (pe_cmpR op_eq (pe_callB (id := "len") (lenS (K := K)) (by rfl) T.z_len PySem.boot_len (pa_cons (pe_ix (ixt (K := K)) (pv 5) pe_int (fun _ _ => rfl)) pa_nil)) (pe_callB (id := "len") (lenS (K := K)) (by rfl) T.z_len PySem.boot_len (pa_cons (pe_ix (ixt (K := K)) (pe_call (ok_l_stock (K := K) T) (hr.mono (by decide)) rfl T.g_l_stock T.f_l_stock.kp B5 B5v pass0 (pa_cons (pv 6) pa_nil)) pe_int (fun _ _ => rfl)) pa_nil)) (nomark _)))))))))), ?_⟩
    have cl_Ladder := T.cl_Ladder
    have na_Ladder_marks := T.na_Ladder_marks
    have na_Ladder_rule := T.na_Ladder_rule
    have na_Ladder_least := T.na_Ladder_least
    have na_Ladder_most := T.na_Ladder_most
    
    have lz := hL.len1
    walk_at "w"
    refine ⟨zs, xs, x, y, rfl, hl, tq, hS, tf, by omega, lz, ta, tb, j0, j1, m0, m1, fun D H1 s1 FL => ?_⟩
    have lus : us.length = zs.length := tq.len
    have lfs : fs.length = xs.length := tf.len
    have pzs := tq.posL
    have pxs := tf.posL
    have px := ta.pos
    have py := tb.pos
    have ri := hL.rise
    obtain ⟨ls, els⟩ : ∃ ls, ls = fitL zs xs x y := ⟨_, rfl⟩
    rw [← els] at FL SV
    have lls : ls.length = xs.length := by rw [els]; unfold fitL; rw [List.length_map]
    obtain ⟨o, hB, hSV⟩ : ∃ o, BareAt ls o ∧ StkV H A1 ls o := by
      rcases SV with ⟨n, b, h⟩ | ⟨b, h⟩
      · exact ⟨some n, b, h⟩
      · exact ⟨none, b, h⟩
    clear SV
    have C : o = none → RunsC ls zs.length := fun e => by
      subst e
      rw [els]
      refine fit_runs ri pzs pxs px py fun z hz => ?_
      have hm : idx zs.length (fitQ zs z x y) ∈ ls := by
        rw [els]; unfold fitL
        exact List.mem_map.mpr ⟨z, hz, rfl⟩
      have ne := hB _ hm
      obtain ⟨x0, hx0⟩ := List.exists_mem_of_ne_nil _ ne
      obtain ⟨i, hi, f, _⟩ := idx_mem.mp hx0
      exact ⟨i, hi, f⟩
    replace hSV := hSV.same s1
    replace hl := s1 _ _ hl
    replace hS := s1 _ _ hS
    replace tf := tf.same s1
    replace ta := ta.same s1
    replace tb := tb.same s1
    replace hL := hL.same s1
    refine ⟨_, rfl, _, rfl, _, rfl, l, _, rfl, .inl (SqL.of hl), A1, D, ls, zs.length, o, by rw [lus]; rfl, FL, by omega, lz, hB, hSV, C, fun H2 s2 => ?_⟩
    refine ⟨_, rfl, iteF ?_⟩
    replace FL := FL.same s2
    replace hSV := hSV.same s2
    replace hS := s2 _ _ hS
    replace tf := tf.same s2
    replace ta := ta.same s2
    replace tb := tb.same s2
    replace hL := hL.same s2
    have S02 := s1.trans s2
    clear s1 s2 tq hl
    obtain ⟨th, hth, eth⟩ : ∃ th, ThS H2 A1 th ∧ shwB zs.length ls o th = true := by
      cases o with
      | some n => exact ⟨.inl n, hSV, decide_eq_true rfl⟩
      | none =>
        obtain ⟨S', A', ss, as, hT, hS', hA', few⟩ := hSV
        have la : as.length ≤ ls.length := lots_mem _ _ (lots_has ls.length as few.arise (fun s hs => by obtain ⟨i, e, h⟩ := few.mem s hs; omega))
        have lsa := few.len
        refine ⟨.inr (ss, as), ⟨S', A', hT, hS', hA', (show ss.length ≤ 30 by omega), (show as.length ≤ 30 by omega)⟩, ?_⟩
        show (sizB zs.length ls ss && aptB ls as && decide (ss.length = as.length)) = true
        rw [siz_few (C rfl) few, apt_few (C rfl) few, lsa, decide_eq_true rfl]
        rfl
    obtain ⟨qa, rfl, hqa, pa, a1, a2⟩ := id ta
    obtain ⟨qb, rfl, hqb, pb, b1, b2⟩ := id tb
    walk_at "w"
    refine q_made (k := j) pb b1 b2 j0 (by omega) fun m2' H3 s3 A2 => ?_
    replace hqa := s3 _ _ hqa
    have hS3 := s3 _ _ hS
    have tf3 := tf.same s3
    refine ⟨_, rfl, _, rfl, S, j, fs, xs, rfl, .inl (SqL.of hS3), tf3, j0, by omega, by omega, fun F ps H4 s4 hF mF => ?_⟩
    replace hqa := s4 _ _ hqa
    walk_at "w"
    refine q_made (k := j) pa a1 a2 j0 (by omega) fun m1' H5 s5 A1' => ?_
    have s35 := s4.trans s5
    have s25 := s3.trans s35
    have ea : (x.1, x.2) = x := rfl
    refine ⟨_, rfl, _, rfl, p, F, m1', A1, .ref m2', k, j, ps, zs, r, lo, hi, xs, x, some y, o, th, rfl, hL.same s25, SqT.of (s5 _ _ hF), mF.same s5, A1', ⟨m2', rfl, A2.same s35⟩, k0, by omega, j0, by omega, by omega, hth.same s25, by show BareAt (fitL zs xs x y) o; rw [← els]; exact hB, fun H6 s6 => ?_⟩
    have e1 : shwB zs.length (fitL zs xs x ((some y).getD (0, 1))) o th = true := by
      show shwB zs.length (fitL zs xs x y) o th = true
      rw [← els]
      exact eth
    rw [e1]
    refine ⟨_, _, rfl, rfl, ?_⟩
    rw [decide_eq_true rfl]
    refine ⟨_, rfl, iteF ?_⟩
    have s26 := s25.trans s6
    replace FL := FL.same s26
    replace hSV := hSV.same s26
    have S06 := S02.trans s26
    walk_at "w"
    intro p7 np7
    have s7 : Same H6 (upd H6 p7 (.tup [])) := same1 np7
    have FL7 := FL.same s7
    replace hSV := hSV.same s7
    walk_at "w"
    refine ⟨intsD [], _, dpT (zs := []) upd_same, FL7.dp, shInts _, shRows (fun l => l) _, ?_⟩
    have S07 := S06.trans s7
    generalize upd H6 p7 (.tup []) = H7 at *
    cases o with
    | some n =>
      rw [(any_bare ls).mpr ⟨[], List.mem_of_getElem? hB.1, rfl⟩]
      refine ⟨_, rfl, iteT ?_⟩
      exact kk _ S07
    | none =>
      rw [show ((ls.map fun l => intsD l).any fun z => PyData.eqv z (intsD [])) = false by
        cases q : ((ls.map fun l => intsD l).any fun z => PyData.eqv z (intsD [])) with
        | false => rfl
        | true =>
          obtain ⟨l', hl, e⟩ := (any_bare _).mp q
          exact absurd e (hB l' hl)]
      refine ⟨_, rfl, iteF ?_⟩
      obtain ⟨S', A', ss, as, hT, hS', hA', few⟩ := hSV
      refine ⟨_, rfl, A1, _, _, _, rfl, rfl, SqT.of hT, atI_of (n := 1) rfl rfl, S', _, rfl, .inr (SqT.of hS'), ?_⟩
      refine ⟨_, rfl, D, ls, zs.length, rfl, FL7, by omega, lz, C rfl, fun T2 S2 A2 ss2 as2 H9 s9 hT2 hS2 hlen => ?_⟩
      refine ⟨T2, _, _, _, rfl, rfl, SqT.of hT2, atI_of (n := 1) rfl rfl, S2, _, rfl, .inr (SqT.of hS2), ?_⟩
      refine ⟨rfl, ?_⟩
      rw [List.length_map, List.length_map, hlen ss as few, decide_eq_true rfl]
      exact kk _ (S07.trans s9)
theorem ok_law {P : Program} {w : World} {K : PySem.W.Frag} {mg : Str → Option Value} {base : Heap} {φ : Fds} (T : Txt K mg φ) : FnOk P w K mg base CX0 9 (He.fAd K ("law", none)) φ.law p_law (sp_law K) := by
  obtain ⟨_, B0v, B0⟩ := b_l_hand_2 T
  obtain ⟨_, B1v, B1⟩ := b_l_marks_2 T
  obtain ⟨_, B2v, B2⟩ := b_l_pick_2 T
  obtain ⟨_, B3v, B3⟩ := b_l_any_ladder_2 T
  obtain ⟨_, B4v, B4⟩ := b_l_width_2 T
  obtain ⟨_, B5v, B5⟩ := b_l_feet_5 T
  obtain ⟨_, B6v, B6⟩ := b_Measure_init_3 T
  obtain ⟨_, B7v, B7⟩ := b_l_measures_1 T
  obtain ⟨_, B8⟩ := b_stock_for_0_tight_slack_feet_ladder T
  obtain ⟨_, B9v, B9⟩ := b_stock_for_4 T
  obtain ⟨_, B10v, B10⟩ := b_l_right_6 T
  obtain ⟨_, B11⟩ := b_stock_for_2_tight_slack T
  obtain ⟨_, B12v, B12⟩ := b_stock_for_3 T
  refine T.f_law.ok sc_law (fun vs H Q E h => ?_) (fun cdv A outer s H vs Q E hr h => ?_)
  · obtain ⟨a, ns, rfl, hS, hlen, kk⟩ := h; rfl
  · obtain ⟨a, ns, rfl, hS, hlen, kk⟩ := h
    refine ⟨_, PSs.nox (pss_cons (ps_for PassesOwn.never rfl (pi_range1 rfl T.z_range (pa_cons (pe_callB (id := "max") (call_max2 rfl) (by rfl) T.z_max (by decide +kernel) (pa_cons pe_int (pa_cons (pe_callB (id := "min") (call_min2 rfl) (by rfl) T.z_min (by decide +kernel) (pa_cons pe_int (pa_cons (pe_callB (id := "len") (lenS (K := K)) (by rfl) T.z_len PySem.boot_len (pa_cons (pv 0) pa_nil)) pa_nil))) pa_nil))) pa_nil)) (pg_name (i := 1) sc_law.nd rfl (Or.inl rfl))
      (pss_cons (ps_cut (ps_set (i := 2) sc_law.nd rfl (Or.inl rfl) (pe_call (ok_l_hand (K := K) T) (hr.mono (by decide)) rfl T.g_l_hand T.f_l_hand.kp B0 B0v pass0 (pa_cons (pv 0) (pa_cons (pv 1) pa_nil)))))
      (pss_cons (ps_cut (ps_set (i := 3) sc_law.nd rfl (Or.inr rfl) (pe_call (ok_l_marks (K := K) T) (hr.mono (by decide)) rfl T.g_l_marks T.f_l_marks.kp B1 B1v pass0 (pa_cons (pv 2) (pa_cons (pe_call (ok_l_pick (K := K) T) (hr.mono (by decide)) rfl T.g_l_pick T.f_l_pick.kp B2 B2v pass0 (pa_cons (pv 2) (pa_cons (pe_lst (pa_cons pe_int (pa_cons pe_int (pa_cons pe_int pa_nil)))) pa_nil))) pa_nil)))))
      (pss_cons (ps_cut (ps_set (i := 4) sc_law.nd rfl (Or.inr rfl) (pe_call (ok_l_any_ladder (K := K) T) (hr.mono (by decide)) rfl T.g_l_any_ladder T.f_l_any_ladder.kp B3 B3v pass0 (pa_cons (pv 2) (pa_cons (pv 3) pa_nil)))))
      (pss_cons (ps_cut (ps_asg (pe_tup (pa_cons (pe_call (ok_l_width (K := K) T) (hr.mono (by decide)) rfl T.g_l_width T.f_l_width.kp B4 B4v pass0 (pa_cons (pv 2) (pa_cons (pv 3) pa_nil))) (pa_cons (pe_call (ok_l_width (K := K) T) (hr.mono (by decide)) rfl T.g_l_width T.f_l_width.kp B4 B4v pass0 (pa_cons (pv 2) (pa_cons (pv 3) pa_nil))) pa_nil))) (pg_tup rfl (pgs_cons (pg_name (i := 5) sc_law.nd rfl (Or.inr rfl)) (pgs_cons (pg_name (i := 6) sc_law.nd rfl (Or.inr rfl)) pgs_nil)))))
      (pss_cons (ps_cut (ps_set (i := 7) sc_law.nd rfl (Or.inr rfl) (pe_call (ok_l_feet (K := K) T) (hr.mono (by decide)) rfl T.g_l_feet T.f_l_feet.kp B5 B5v pass0 (pa_cons (pv 2) (pa_cons (pv 3) (pa_cons (pv 5) (pa_cons (pv 6) (pa_cons (pe_call (ok_l_pick (K := K) T) (hr.mono (by decide)) rfl T.g_l_pick T.f_l_pick.kp B2 B2v pass0 (pa_cons (pv 2) (pa_cons (pe_lst (pa_cons pe_int (pa_cons pe_int (pa_cons pe_int pa_nil)))) pa_nil))) pa_nil))))))))
      (pss_cons (ps_cut (ps_par3 (i := 8) (j := 9) (l := 10) rfl sc_law.nd rfl rfl rfl (by decide) (by decide) (by decide) rfl rfl rfl (pa_cons (pe_call (ok_l_measures (K := K) T) (hr.mono (by decide)) rfl T.g_l_measures T.f_l_measures.kp B7 B7v pass0 (pa_cons (pv 7) pa_nil)) (pa_cons (pe_make T.mk_Measure (ok_Measure_init (K := K) T) (hr.mono (by decide)) rfl T.g_Measure B6 B6v pass0 (pa_cons (pe_ix (ixt (K := K)) (pv 5) pe_int (fun _ _ => rfl)) (pa_cons (pe_ix (ixt (K := K)) (pv 5) pe_int (fun _ _ => rfl)) pa_nil))) (pa_cons (pe_make T.mk_Measure (ok_Measure_init (K := K) T) (hr.mono (by decide)) rfl T.g_Measure B6 B6v pass0 (pa_cons (pe_ix (ixt (K := K)) (pv 6) pe_int (fun _ _ => rfl)) (pa_cons (pe_ix (ixt (K := K)) (pv 6) pe_int (fun _ _ => rfl)) pa_nil))) pa_nil))) (by rfl)))
      (pss_cons (ps_cut (ps_set (i := 11) sc_law.nd rfl (Or.inl rfl) (pe_lst (pa_cons (pe_call (ok_stock_for (K := K) T) (hr.mono (by decide)) rfl T.g_stock_for T.f_stock_for.kp B9 B9v pass0 (pa_cons (pv 4) (pa_cons (pv 8) (pa_cons (pv 9) (pa_cons (pv 10) pa_nil))))) (pa_cons (pe_callK0 (ok_stock_for (K := K) T) (hr.mono (by decide)) rfl T.g_stock_for T.f_stock_for.kp B8 pass0 (pk_cons (pv 10) (pk_cons (pv 9) (pk_cons (pv 8) (pk_cons (pv 4) pk_nil))))) pa_nil)))))
      (pss_cons (ps_cut (ps_if (pt_not (pt_val (pe_callB (id := "all") (allK (K := K)) (by rfl) T.z_all (by decide +kernel) (pa_cons (pe_lc (own := [("_law_one", 12)]) (g := gName 12) rfl sc_law.nd (pi_list (pv 11)) (blkOk_by (own := [("_law_one", 12)]) (N := N_law) (sc := (defScope s_law)) (by decide +kernel)) (fun _ _ _ _ _ => (pg_name (i := 12) sc_law.nd rfl (Or.inl rfl))) (fun _ _ _ _ _ => pts_nil) (fun _ _ _ _ _ => (pe_call (ok_l_right (K := K) T) (hr.mono (by decide)) rfl T.g_l_right T.f_l_right.kp B10 B10v pass0 (pa_cons (pv 4) (pa_cons (pv 3) (pa_cons (pv 7) (pa_cons (pv 5) (pa_cons (pv 6) (pa_cons (pv 12) pa_nil))))))))) pa_nil))))
      (pss_one (ps_ret pe_bl))
      pss_nil))
      (pss_cons (ps_cut (ps_set (i := 11) sc_law.nd rfl (Or.inl rfl) (pe_lst (pa_cons (pe_call (ok_stock_for (K := K) T) (hr.mono (by decide)) rfl T.g_stock_for T.f_stock_for.kp B12 B12v pass0 (pa_cons (pv 4) (pa_cons (pv 8) (pa_cons (pv 9) pa_nil)))) (pa_cons (pe_callN (ok_stock_for (K := K) T) (hr.mono (by decide)) rfl T.g_stock_for T.f_stock_for.kp B11 pass0 (pa_cons (pv 4) (pa_cons (pv 8) pa_nil)) (pk_cons pe_non (pk_cons (pv 9) pk_nil))) pa_nil)))))
      (pss_one (ps_if (pt_not (pt_val (pe_callB (id := "all") (allK (K := K)) (by rfl) T.z_all (by decide +kernel) (pa_cons (pe_lc (own := [("_law_one", 12)]) (g := gName 12) rfl sc_law.nd (pi_list (pv 11)) (blkOk_by (own := [("_law_one", 12)]) (N := N_law) (sc := (defScope s_law)) (by decide +kernel)) (fun _ _ _ _ _ => (pg_name (i := 12) sc_law.nd rfl (Or.inl rfl))) (fun _ _ _ _ _ => pts_nil) (fun _ _ _ _ _ => (pe_call (ok_l_right (K := K) T) (hr.mono (by decide)) rfl T.g_l_right T.f_l_right.kp B10 B10v pass0 (pa_cons (pv 4) (pa_cons (pv 3) (pa_cons (pv 7) (pa_cons (pv 5) (pa_cons (pe_tup (pa_cons pe_int (pa_cons pe_int pa_nil))) (pa_cons (pv 12) pa_nil))))))))) pa_nil))))
      (pss_one (ps_ret pe_bl))
      pss_nil))))))))))))
      (pss_one (ps_ret pe_bl))), ?_⟩
    have cl_Ladder := T.cl_Ladder
    have na_Ladder_marks := T.na_Ladder_marks
    have na_Ladder_rule := T.na_Ladder_rule
    have na_Ladder_least := T.na_Ladder_least
    have na_Ladder_most := T.na_Ladder_most
    
    walk_at "w"
    refine for_range (fun i σ H' => (∃ v1 v2 v3 v4 v5 v6 v7 v8 v9 v10 v11 v12 : Option V, σ = [some (.ref a), v1, v2, v3, v4, v5, v6, v7, v8, v9, v10, v11, v12]) ∧ Same H H') ?_ ?_ ?_
    · exact ⟨⟨_, _, _, _, _, _, _, _, _, _, _, _, rfl⟩, fun _ _ z => z⟩
    · rintro i σ H1 hi ⟨⟨v1, v2, v3, v4, v5, v6, v7, v8, v9, v10, v11, v12, rfl⟩, s1⟩
      have hi4 : i < 3 := by
        refine Nat.lt_of_lt_of_le hi ?_
        split <;> split <;> omega
      clear hi
      obtain ⟨J1, eJ1⟩ : ∃ J : L2.St → Hp → Prop, J = fun σ' H' => ∃ h, σ' = [some (.ref a), some (.int (0 + (i : Int))), some (.ref h), v3, v4, v5, v6, v7, v8, v9, v10, v11, v12] ∧ HandAt H' h 0 ∧ Same H1 H' ∧ H1 h = none := ⟨_, rfl⟩
      refine ⟨J1, ?_, ?_⟩
      · walk_at "w"
        refine ⟨ns, i, by show [V.ref a, V.int (0 + (i : Int))] = _; rw [Int.zero_add], s1.seq hS, by omega, fun h H3 nh s3 hh => ?_⟩
        subst eJ1
        exact ⟨h, rfl, hh, s3, nh⟩
      rintro σ1 H2 hJ1
      subst eJ1
      obtain ⟨h, rfl, hh, S2, nh⟩ := hJ1
      obtain ⟨J2, eJ2⟩ : ∃ J : L2.St → Hp → Prop, J = fun σ' H' => ∃ l us zs, σ' = [some (.ref a), some (.int (0 + (i : Int))), some (.ref h), some (.ref l), v4, v5, v6, v7, v8, v9, v10, v11, v12] ∧ HandAt H' h 70 ∧ Kp h H2 H' ∧ l ≠ h ∧ H' l = some (.lst us) ∧ Tqs H' 520 us zs ∧ 0 < zs.length ∧ zs.length ≤ 24 ∧ RiseQ zs := ⟨_, rfl⟩
      refine ⟨J2, ?_, ?_⟩
      · walk_at "w"
        intro p1 np1
        refine ⟨h, p1, _, _, rfl, hh.up np1, by omega, SqL.of upd_same, hh.ne np1, by decide, by decide, fun i1 vm H4 hr1 hh4 k4 => ?_⟩
        have hma : ∃ m : Nat, vm = .int m ∧ 0 < m ∧ m ≤ 24 := by
          have hm := List.mem_of_getElem? hr1
          simp at hm
          rcases hm with rfl | rfl | rfl
          · exact ⟨3, rfl, by decide, by decide⟩
          · exact ⟨9, rfl, by decide, by decide⟩
          · exact ⟨24, rfl, by decide, by decide⟩
        obtain ⟨m, rfl, m0, m1⟩ := hma
        refine ⟨h, _, m, rfl, hh4, by omega, m0, m1, fun l us zs H5 hh5 k5 nlh hl tq l0 l1 ri => ?_⟩
        replace tq := tq.mono (show 12 + 21 * m ≤ 520 by omega)
        subst eJ2
        exact ⟨l, us, zs, rfl, hh5.mono (by omega), (((Kp.refl h H2).up (u := .lst [V.int 3, V.int 9, V.int 24]) np1).trans k4).trans k5, nlh, hl, tq, l0, by omega, ri⟩
      rintro σ2 H3 hJ2
      subst eJ2
      obtain ⟨l, us, zs, rfl, hh3, k3, nlh, hl, tq, l0, l24, ri⟩ := hJ2
      have S3 := S2.ofKp nh k3
      clear k3 S2 hh
      obtain ⟨J3, eJ3⟩ : ∃ J : L2.St → Hp → Prop, J = fun σ' H' => ∃ pc r lo hi, σ' = [some (.ref a), some (.int (0 + (i : Int))), some (.ref h), some (.ref l), some (.ref pc), v5, v6, v7, v8, v9, v10, v11, v12] ∧ HandAt H' h 80 ∧ Kp h H3 H' ∧ LadAt K (He.ga K "Measure") (He.ga K "Ladder") H' pc 524 zs r lo hi := ⟨_, rfl⟩
      refine ⟨J3, ?_, ?_⟩
      · walk_at "w"
        refine ⟨zs, rfl, hh3, by omega, nlh, hl, tq, by decide, by decide, l0, by omega, ri, fun c2 r lo hi H8 hh8 k8 L2' => ?_⟩
        subst eJ3
        exact ⟨c2, r, lo, hi, rfl, hh8.mono (by omega), k8, L2'⟩
      rintro σ3 H4 hJ3
      subst eJ3
      obtain ⟨pc, r, lo, hi', rfl, hh4, k4, hL⟩ := hJ3
      replace hl := k4 _ _ hl nlh
      replace tq := tq.kp hh3 k4
      have S4 := S3.ofKp nh k4
      clear k4 S3 hh3
      obtain ⟨J4, eJ4⟩ : ∃ J : L2.St → Hp → Prop, J = fun σ' H' => ∃ va vb x y, σ' = [some (.ref a), some (.int (0 + (i : Int))), some (.ref h), some (.ref l), some (.ref pc), some va, some vb, v7, v8, v9, v10, v11, v12] ∧ HandAt H' h 90 ∧ Kp h H4 H' ∧ TQ H' va 1044 x ∧ TQ H' vb 1044 y := ⟨_, rfl⟩
      refine ⟨J4, ?_, ?_⟩
      · walk_at "w"
        refine ⟨zs, rfl, hh4, by omega, nlh, hl, tq, by decide, by decide, l0, by omega, ri, fun va x HA hhA kA ta _ => ?_⟩
        have hlA := kA _ _ hl nlh
        have tqA := tq.kp hh4 kA
        walk_at "w"
        refine ⟨zs, rfl, hhA, by omega, nlh, hlA, tqA, by decide, by decide, l0, by omega, ri, fun vb y HB hhB kB tb _ => ?_⟩
        walk_at "w"
        intro p8 np8
        have s8 : Same HB (upd HB p8 (.tup [va, vb])) := same1 np8
        refine ⟨p8, _, rfl, SqT.of upd_same, rfl, _, _, rfl, _, _, rfl, rfl, ?_⟩
        subst eJ4
        exact ⟨va, vb, x, y, rfl, (hhB.same s8).mono (by omega), (kA.trans kB).trans (Kp.same s8), (ta.kp hhA kB).same s8, tb.same s8⟩
      rintro σ4 H5 hJ4
      subst eJ4
      obtain ⟨va, vb, x, y, rfl, hh5, k5, ta, tb⟩ := hJ4
      replace hl := k5 _ _ hl nlh
      replace tq := tq.kp hh4 k5
      replace hL := hL.kp hh4 k5
      have S5 := S4.ofKp nh k5
      clear k5 S4 hh4
      obtain ⟨J5, eJ5⟩ : ∃ J : L2.St → Hp → Prop, J = fun σ' H' => ∃ S fs xs, σ' = [some (.ref a), some (.int (0 + (i : Int))), some (.ref h), some (.ref l), some (.ref pc), some va, some vb, some (.ref S), v8, v9, v10, v11, v12] ∧ Kp h H5 H' ∧ H' S = some (.lst fs) ∧ Tqs H' 1600 fs xs ∧ 0 < xs.length ∧ xs.length ≤ 24 := ⟨_, rfl⟩
      refine ⟨J5, ?_, ?_⟩
      · walk_at "w"
        intro p1 np1
        refine ⟨h, p1, _, _, rfl, hh5.up np1, by omega, SqL.of upd_same, hh5.ne np1, by decide, by decide, fun i1 vm H7 hr1 hh7 k7 => ?_⟩
        have hma : ∃ m : Nat, vm = .int m ∧ 0 < m ∧ m ≤ 24 := by
          have hm := List.mem_of_getElem? hr1
          simp at hm
          rcases hm with rfl | rfl | rfl
          · exact ⟨3, rfl, by decide, by decide⟩
          · exact ⟨8, rfl, by decide, by decide⟩
          · exact ⟨24, rfl, by decide, by decide⟩
        obtain ⟨m, rfl, m0, m1⟩ := hma
        have kA := ((Kp.refl h H5).up (u := .lst [V.int 3, V.int 8, V.int 24]) np1).trans k7
        refine ⟨h, l, va, vb, _, 520, m, us, zs, x, y, rfl, hh7, by omega, nlh, kA _ _ hl nlh, tq.kp hh5 kA, by decide, by decide, l0, l24, ta.kp hh5 kA, tb.kp hh5 kA, m0, m1, fun S fs xs H8 hh8 k8 nSh hS8 tf x0 x24 => ?_⟩
        subst eJ5
        exact ⟨S, fs, xs, rfl, kA.trans k8, hS8, tf, x0, x24⟩
      rintro σ5 H6 hJ5
      subst eJ5
      obtain ⟨S, fs, xs, rfl, k6, hSf, tf, x0, x24⟩ := hJ5
      replace hl := k6 _ _ hl nlh
      replace tq := tq.kp hh5 k6
      replace hL := hL.kp hh5 k6
      replace ta := ta.kp hh5 k6
      replace tb := tb.kp hh5 k6
      have S6 := S5.ofKp nh k6
      clear k6 S5 hh5
      obtain ⟨J6, eJ6⟩ : ∃ J : L2.St → Hp → Prop, J = fun σ' H' => ∃ F ps qb qn, σ' = [some (.ref a), some (.int (0 + (i : Int))), some (.ref h), some (.ref l), some (.ref pc), some va, some vb, some (.ref S), some (.ref F), some (.ref qb), some (.ref qn), v11, v12] ∧ Same H6 H' ∧ H' F = some (.tup ps) ∧ Mks (He.ga K "Measure") H' 1600 ps xs ∧ QAt (He.ga K "Measure") H' qb 1600 x ∧ QAt (He.ga K "Measure") H' qn 1600 y := ⟨_, rfl⟩
      refine ⟨J6, ?_, ?_⟩
      · obtain ⟨qa, rfl, hqa, pa, a1, a2⟩ := id ta
        obtain ⟨q2, rfl, hq2, p2, b1, b2⟩ := id tb
        refine ⟨_, rfl, S, 1600, fs, xs, rfl, .inl (SqL.of hSf), tf, by decide, by decide, by omega, fun F ps H7 s7 hF mF => ?_⟩
        replace hqa := s7 _ _ hqa
        replace hq2 := s7 _ _ hq2
        walk_at "w"
        refine q_made (k := 1044) pa a1 a2 (by decide) (by decide) fun qb H8 s8 A1 => ?_
        replace hq2 := s8 _ _ hq2
        walk_at "w"
        refine q_made (k := 1044) p2 b1 b2 (by decide) (by decide) fun qn H9 s9 A2 => ?_
        walk_at "w"
        subst eJ6
        have s89 := s8.trans s9
        exact ⟨F, ps, qb, qn, rfl, (s7.trans s8).trans s9, s89 _ _ hF, mF.same s89, (A1.same s9).mono (by decide), A2.mono (by decide)⟩
      rintro σ6 H7 hJ6
      subst eJ6
      obtain ⟨F, ps, qb, qn, rfl, s7, hF, mF, Ab, An⟩ := hJ6
      replace hl := s7 _ _ hl
      replace tq := tq.same s7
      replace hL := hL.same s7
      replace ta := ta.same s7
      replace tb := tb.same s7
      replace hSf := s7 _ _ hSf
      replace tf := tf.same s7
      have S7 := S6.trans s7
      clear s7 S6
      obtain ⟨J7, eJ7⟩ : ∃ J : L2.St → Hp → Prop, J = fun σ' H' => ∃ TD t1 t2, σ' = [some (.ref a), some (.int (0 + (i : Int))), some (.ref h), some (.ref l), some (.ref pc), some va, some vb, some (.ref S), some (.ref F), some (.ref qb), some (.ref qn), some (.ref TD), v12] ∧ Same H7 H' ∧ H' TD = some (.lst [.ref t1, .ref t2]) ∧ StockV H' t1 (fitL zs xs x y) ∧ StockV H' t2 (fitL zs xs x y) := ⟨_, rfl⟩
      refine ⟨J7, ?_, ?_⟩
      · refine ⟨_, rfl, _, rfl, _, rfl, _, rfl, pc, F, qb, .ref qn, 524, 1600, ps, zs, r, lo, hi', xs, x, some y, rfl, hL, SqT.of hF, mF, Ab, ⟨qn, rfl, An⟩, by decide, by decide, by decide, by decide, by omega, fun t1 Ha sa SV1 => ?_⟩
        refine ⟨_, rfl, _, rfl, _, rfl, _, rfl, rfl, rfl, ?_⟩
        refine ⟨pc, F, qb, .ref qn, 524, 1600, ps, zs, r, lo, hi', xs, x, some y, rfl, hL.same sa, SqT.of (sa _ _ hF), mF.same sa, Ab.same sa, ⟨qn, rfl, An.same sa⟩, by decide, by decide, by decide, by decide, by omega, fun t2 Hb sb SV2 => ?_⟩
        refine ⟨szl (Nat.le_of_ble_eq_true rfl), fun TD nTD => ?_⟩
        have sN : Same Hb (upd Hb TD (.lst [.ref t1, .ref t2])) := same1 nTD
        subst eJ7
        exact ⟨TD, t1, t2, rfl, (sa.trans sb).trans sN, upd_same, (SV1.same sb).same sN, SV2.same sN⟩
      rintro σ7 H8 hJ7
      subst eJ7
      obtain ⟨TD, t1, t2, rfl, s8, hTD, SV1, SV2⟩ := hJ7
      replace hl := s8 _ _ hl
      replace tq := tq.same s8
      replace hL := hL.same s8
      replace ta := ta.same s8
      replace tb := tb.same s8
      replace hSf := s8 _ _ hSf
      replace tf := tf.same s8
      replace hF := s8 _ _ hF
      replace mF := mF.same s8
      replace Ab := Ab.same s8
      have S8 := S7.trans s8
      clear s8 S7
      obtain ⟨J8, eJ8⟩ : ∃ J : L2.St → Hp → Prop, J = fun σ' H' => σ' = [some (.ref a), some (.int (0 + (i : Int))), some (.ref h), some (.ref l), some (.ref pc), some va, some vb, some (.ref S), some (.ref F), some (.ref qb), some (.ref qn), some (.ref TD), v12] ∧ Same H8 H' := ⟨_, rfl⟩
      refine ⟨J8, ?_, ?_⟩
      · refine ⟨_, rfl, _, rfl, ⟨_, SqL.of hTD⟩, fun D nD => ?_⟩
        refine lcz (n := [V.ref t1, V.ref t2].length) walk_list (fun _ _ g s => s.seq g) (List.replicate 2 (some (V.bl true))) rfl (szs (Nat.le_of_ble_eq_true rfl)) (SqL.of hTD) nD (fun i2 x2 Hc Hd z2 N2 M2 hi2 ez2 s3 yy2 hN2 hM2 => ?_) (fun H3 s3 hD2 => ?_)
        · obtain ⟨rfl, hx2⟩ := yy2
          have hi3 : i2 < 2 := hi2
          rw [List.getElem?_replicate, if_pos hi3] at ez2
          cases ez2
          obtain ⟨t, rfl, SVt⟩ : ∃ t, x2 = .ref t ∧ StockV H8 t (fitL zs xs x y) := by
            obtain rfl | rfl : i2 = 0 ∨ i2 = 1 := by omega
            · cases hx2; exact ⟨_, rfl, SV1⟩
            · cases hx2; exact ⟨_, rfl, SV2⟩
          refine ⟨rfl, yesT ?_⟩
          refine ⟨_, rfl, _, rfl, _, rfl, _, rfl, _, rfl, _, rfl, pc, l, S, t, va, vb, 524, 1600, 520, us, fs, zs, xs, r, lo, hi', x, y, rfl, hL.same s3, s3 _ _ hl, tq.same s3, s3 _ _ hSf, tf.same s3, x24, x0, (ta.same s3).mono (by decide), (tb.same s3).mono (by decide), by decide, by decide, by decide, by decide, by decide, by decide, SVt.same s3, fun H9 s9 => hN2 _ _ rfl s9⟩
        have e9 : (List.replicate 2 (some (V.bl true))).filterMap _root_.id = [true, true].map V.bl := rfl
        rw [e9] at hD2
        refine ⟨D, _, rfl, SqL.of hD2, ?_⟩
        refine ⟨_, rfl, iteF ?_⟩
        subst eJ8
        exact ⟨rfl, s3⟩
      rintro σ8 H9 hJ8
      subst eJ8
      obtain ⟨rfl, s9⟩ := hJ8
      replace hl := s9 _ _ hl
      replace tq := tq.same s9
      replace hL := hL.same s9
      replace ta := ta.same s9
      replace hSf := s9 _ _ hSf
      replace tf := tf.same s9
      replace hF := s9 _ _ hF
      replace mF := mF.same s9
      replace Ab := Ab.same s9
      have S9 := S8.trans s9
      clear s9 S8 SV1 SV2 tb hTD An
      obtain ⟨J9, eJ9⟩ : ∃ J : L2.St → Hp → Prop, J = fun σ' H' => ∃ TD t1 t2, σ' = [some (.ref a), some (.int (0 + (i : Int))), some (.ref h), some (.ref l), some (.ref pc), some va, some vb, some (.ref S), some (.ref F), some (.ref qb), some (.ref qn), some (.ref TD), v12] ∧ Same H9 H' ∧ H' TD = some (.lst [.ref t1, .ref t2]) ∧ StockV H' t1 (fitL zs xs x (0, 1)) ∧ StockV H' t2 (fitL zs xs x (0, 1)) := ⟨_, rfl⟩
      refine ⟨J9, ?_, ?_⟩
      · refine ⟨_, rfl, _, rfl, _, rfl, pc, F, qb, .non, 524, 1600, ps, zs, r, lo, hi', xs, x, none, rfl, hL, SqT.of hF, mF, Ab, rfl, by decide, by decide, by decide, by decide, by omega, fun t1 Ha sa SV1 => ?_⟩
        refine ⟨_, rfl, _, rfl, _, rfl, rfl, rfl, ?_⟩
        refine ⟨pc, F, qb, .non, 524, 1600, ps, zs, r, lo, hi', xs, x, none, rfl, hL.same sa, SqT.of (sa _ _ hF), mF.same sa, Ab.same sa, rfl, by decide, by decide, by decide, by decide, by omega, fun t2 Hb sb SV2 => ?_⟩
        refine ⟨szl (Nat.le_of_ble_eq_true rfl), fun TD nTD => ?_⟩
        have sN : Same Hb (upd Hb TD (.lst [.ref t1, .ref t2])) := same1 nTD
        subst eJ9
        exact ⟨TD, t1, t2, rfl, (sa.trans sb).trans sN, upd_same, (SV1.same sb).same sN, SV2.same sN⟩
      rintro σ9 H10 hJ9
      subst eJ9
      obtain ⟨TD2, t3, t4, rfl, s10, hTD, SV1, SV2⟩ := hJ9
      replace hl := s10 _ _ hl
      replace tq := tq.same s10
      replace hL := hL.same s10
      replace ta := ta.same s10
      replace hSf := s10 _ _ hSf
      replace tf := tf.same s10
      have S10 := S9.trans s10
      clear s10 S9
      refine ⟨_, rfl, _, rfl, ⟨_, SqL.of hTD⟩, fun D nD => ?_⟩
      refine lcz (n := [V.ref t3, V.ref t4].length) walk_list (fun _ _ g s => s.seq g) (List.replicate 2 (some (V.bl true))) rfl (szs (Nat.le_of_ble_eq_true rfl)) (SqL.of hTD) nD (fun i2 x2 Hc Hd z2 N2 M2 hi2 ez2 s3 yy2 hN2 hM2 => ?_) (fun H3 s3 hD2 => ?_)
      · obtain ⟨rfl, hx2⟩ := yy2
        have hi3 : i2 < 2 := hi2
        rw [List.getElem?_replicate, if_pos hi3] at ez2
        cases ez2
        obtain ⟨t, rfl, SVt⟩ : ∃ t, x2 = .ref t ∧ StockV H10 t (fitL zs xs x (0, 1)) := by
          obtain rfl | rfl : i2 = 0 ∨ i2 = 1 := by omega
          · cases hx2; exact ⟨_, rfl, SV1⟩
          · cases hx2; exact ⟨_, rfl, SV2⟩
        refine ⟨rfl, yesT ?_⟩
        refine ⟨_, rfl, _, rfl, _, rfl, _, rfl, szl (Nat.le_of_ble_eq_true rfl), fun p9 np9 => ?_⟩
        have sN : Same Hd (upd Hd p9 (.tup [.int 0, .int 1])) := same1 np9
        have t01 : TQ (upd Hd p9 (.tup [.int 0, .int 1])) (.ref p9) 1600 (0, 1) := (TQ.mk (k := 1) upd_same (by decide) (by decide) (by decide)).mono (by decide)
        have s3N := s3.trans sN
        refine ⟨_, rfl, pc, l, S, t, va, .ref p9, 524, 1600, 520, us, fs, zs, xs, r, lo, hi', x, (0, 1), rfl, hL.same s3N, s3N _ _ hl, tq.same s3N, s3N _ _ hSf, tf.same s3N, x24, x0, (ta.same s3N).mono (by decide), t01, by decide, by decide, by decide, by decide, by decide, by decide, SVt.same s3N, fun H9 s9 => hN2 _ _ rfl (sN.trans s9)⟩
      have e9 : (List.replicate 2 (some (V.bl true))).filterMap _root_.id = [true, true].map V.bl := rfl
      rw [e9] at hD2
      refine ⟨D, _, rfl, SqL.of hD2, ?_⟩
      refine ⟨_, rfl, iteF ?_⟩
      exact ⟨⟨_, _, _, _, _, _, _, _, _, _, _, _, rfl⟩, s1.trans (S10.trans s3)⟩
    · rintro σ H1 ⟨⟨v1, v2, v3, v4, v5, v6, v7, v8, v9, v10, v11, v12, rfl⟩, s1⟩
      walk_at "w"
      exact kk _
end K43

open PySem PySem.W PySem.Calls PyProof.Rows
set_option maxRecDepth 100000 in
set_option maxHeartbeats 0 in
theorem PySem.Challenge.cw_sizeladders_k43_fewest_sizes_walked_holds : PySem.Challenge.rw_sizeladders_k43_fewest_sizes_walked.Holds := by
  exact K43.pre fun T => K43.ok_law T
