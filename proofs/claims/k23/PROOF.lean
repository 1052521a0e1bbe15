import PyProof.Rows.All
import Wide.All
import OpenK.AllK
import Wide.FinOn
import KE.KStateDown
import HandS.ForMost
import HandS.More
import HandS.WordsExc
import HandS.Defaults
import HandS.MakeKw
import HandS.MakeKwOnly
import HandS.Wide
import HandS.IsInst
import HandS.Flow
import HandS.Style
import HandS.OwnEq
import HandS.Head0
import HandS.Head1
import HandS.Head2
import HandS.HeadEnd
import HandS.HeadHook1
import HandS.HeadHook2
import HandS.ExcIs
import HandS.ExcOwn
import HandS.TryOnly
import HandS.ExcBuiltin
import HandS.FStr
import HandS.Text
import HandS.Codes
import HandS.StrMore
import HandS.Walk
import HandS.Zip
import HandS.Conv
import HandS.Iter
import KE.GoesEnum
import KE.DataMinMax
import HandS.SortKw
import HandS.TupAny
import HandS.FStrTup
import HandS.Deep
import HandS.SetFor
import HandS.Strs
import PyProof.ReprHeadsTuple
import PyProof.ReprNest
import KE.KFmtOwn
import HandS.RevRange
import PySem.Challenge.RW_sizeladders_k23_whole_as_many_as_can_ris
set_option Elab.async false
set_option linter.all false
set_option maxRecDepth 100000
set_option maxHeartbeats 4000000
namespace My
open PySem PySem.Spec PyProof.Rows L2
/-! ### operators of great numbers -/
section
variable {X : Cx}
theorem op_fd : OpR X (binaryOp .FloorDiv) (rI (fun _ j => j ≠ 0 ∧ j.natAbs.log2 < 9000) fun i j => .int (i.fdiv j)) :=
  opI fun _ _ _ _ _ _ _ hc q => floordiv_int hc.1 q (.inl (PyProof.noPylong_of_log2 hc.2))
theorem op_mulA : OpR X (binaryOp .Mult) (rI (fun i j => CMul i j ∨ CMulW i j) fun i j => .int (i * j)) :=
  opI fun _ _ _ _ _ _ _ hc q => mul_int q (hc.elim (fun h => h.ok) (fun h => h.ok))
/-! ### cuts: what is wanted behind a piece, said by a word of one's own -/
def tCutS (t : TS) : TS := fun D σ H => ∃ J : L2.St → Hp → Prop, t { D with nx := J } σ H ∧ ∀ σ' H', J σ' H' → D.nx σ' H'
theorem ps_cut {st : Stmt} {t : TS} (h : PS X st t) : PS X st (tCutS t) := by
  refine ⟨fun pins s σ H D I hw => ?_⟩
  obtain ⟨J, h1, h2⟩ := hw
  refine thn (h.run pins s σ H _ I h1) fun f s' q => ?_
  cases f with
  | next => obtain ⟨σ', H', I', q'⟩ := q; exact ⟨σ', H', I', h2 _ _ q'⟩
  | brk => exact q
  | cont => exact q
  | ret u => exact q
/-! ### calls by keywords -/
variable {CX : CXT} {k n : Nat} {f C : Addr} {fd : FuncData} {ps ks : List Str} {sp : Sp} {E : XK} {x m : Str} {p pos apos : Pos} {o e : Expr} {es : List Expr} {kws : List Keyword} {ta : TE} {t tk : TA} {g : List Value → List Value → List Value} {gV : List V → List V → List V}
/-- f(k = v, ..) -/
theorem pe_callK0 (F : FnOk X.prog X.w X.K X.mg X.base CX k f fd ps sp) (hr : Room k X.A) (hg : Gl X x) (hm : X.mg x = some (.ref f)) (hk : PySem.W.keepIn X.K (.ref f) = true) (hb : KBn X.K fd ps 0 ks g gV) (hx : Passes CX X E)
    (hkw : PK X kws tk) (hall : (backToKw pos (keywordEach kws X.env)).all (·.1.isSome) = true := by rfl) (hks : (backToKw pos (keywordEach kws X.env)).filterMap (·.1) = ks := by rfl)
    (hdb : (x == ("__debug__" : Str)) = false := by decide) (hpl : ((backTo pos (starEach [] X.env)).any (·.1) || (backToKw pos (keywordEach kws X.env)).any (·.1.isNone)) = false := by rfl) :
    PE X (.Call (.Name x p) [] kws pos) (tCallN 0 ks.length sp gV E tNil tk) := by
  refine ⟨fun pins s σ H Q I h => ?_⟩
  refine wpAny_Call_Name_kw (ld_glob I hg hm ?_ hdb)
  refine PySem.W.callWith_KW0 (h₀ := X.base) I.ok.mod.kin hk hall ?_ hpl
  refine thn (hkw.run pos pins s σ H _ I h) fun ws s2 ⟨zs, H2, I2, rz, l1, l2, q2⟩ => ⟨I2.kIn, ?_⟩
  rw [hks]
  exact run_fnN (us := []) (vs := []) F hr hb hx I2 .nil rz rfl l2 q2
end
theorem kb_none {K : PySem.W.Frag} {x qual : Str} {params : Arguments} {body : List Stmt} {scope : Scope} {kws : List (Str × V)} {f : Addr} {fd : FuncData} {ps : List Str} {n : Nat} {ks : List Str}
    (F : FunD K x qual params body scope [] kws f fd) (g : {α : Type} → List α → List α → List α)
    (hrel : ∀ {vs zs : List V} {us ws : List Value}, Vals vs us → Vals zs ws → Vals (g vs zs) (g us ws))
    (h : ∀ (kV doc pm : Value) (an : Option Addr) (cdv ct : Value) (us ws : List Value), us.length = n → ws.length = ks.length → bindArgs (PySem.W.fnOf x qual params body scope .none kV doc pm an cdv ct) ⟨us, ks.zip ws⟩ = pure (ps.zip (g us ws))) :
    KBn K fd ps n ks (fun us ws => g us ws) (fun vs zs => g vs zs) := by
  obtain ⟨oc, od, dV, kV, doc, pm, an, cdv, ct, osl, rfl, lk, hcd, hD, hK⟩ := F.ex
  rcases hD with ⟨_, rfl⟩ | ⟨e, _⟩
  · exact ⟨fun s us ws X l1 l2 => .of_eq (h kV doc pm an cdv ct us ws l1 l2), fun r1 r2 => hrel r1 r2⟩
  · exact absurd rfl e
/-! ### heaps -/
theorem up1 {H : Hp} {p x : Addr} {o u : HO} (hp : H p = none) (hx : H x = some o) : upd H p u x = some o := by
  rw [upd_ne (ne_of_none hx hp)]; exact hx
theorem same1 {H : Hp} {p : Addr} {u : HO} (hp : H p = none) : Same H (upd H p u) := fun _ _ e => up1 hp e
theorem _root_.L2.Same.sqt {K : PySem.W.Frag} {H H' : Hp} {a : Addr} {xs : List V} (e : Same H H') (h : SqT K H a xs) : SqT K H' a xs := by
  rcases h with (h | ⟨o, h⟩) | h
  · exact .inl (.inl (e _ _ h))
  · exact .inl (.inr ⟨o, e _ _ h⟩)
  · exact .inr h
/-- all stays but what stands at h -/
def Kp (h : Addr) (H H' : Hp) : Prop := ∀ b o, H b = some o → b ≠ h → H' b = some o
theorem Kp.refl (h : Addr) (H : Hp) : Kp h H H := fun _ _ e _ => e
theorem Kp.trans {h : Addr} {H H1 H2 : Hp} (a : Kp h H H1) (b : Kp h H1 H2) : Kp h H H2 := fun c o e n => b c o (a c o e n) n
theorem Kp.same {h : Addr} {H H1 : Hp} (a : Same H H1) : Kp h H H1 := fun c o e _ => a c o e
theorem Kp.up {h p : Addr} {H H1 : Hp} {u : HO} (a : Kp h H H1) (hp : H1 p = none) : Kp h H (upd H1 p u) := fun c o e n => up1 hp (a c o e n)
theorem Kp.set {h : Addr} {H H1 : Hp} {u : HO} (a : Kp h H H1) : Kp h H (upd H1 h u) := fun c o e n => by
  rw [upd_ne n]; exact a c o e n
/-- a list other than that at h, the script among them -/
theorem Kp.seq {K : PySem.W.Frag} {h a : Addr} {H H1 : Hp} {xs : List V} (k : Kp h H H1) (n : a ≠ h) (s : SqL K H a xs) : SqL K H1 a xs := by
  rcases s with (s | ⟨o, s⟩) | s
  · exact .inl (.inl (k _ _ s n))
  · exact .inl (.inr ⟨o, k _ _ s n⟩)
  · exact .inr s
/-! ### the hand: a list of three ints, drawn from -/
def HandAt (H : Hp) (h : Addr) (n : Nat) : Prop := ∃ a b c : Int, H h = some (.lst [.int a, .int b, .int c]) ∧ 0 ≤ a ∧ 0 ≤ b ∧ b < 4611686018427387904 ∧ 0 ≤ c ∧ c ≤ n
theorem HandAt.mono {H : Hp} {h : Addr} {n m : Nat} (a : HandAt H h n) (l : n ≤ m) : HandAt H h m := by
  obtain ⟨x, y, z, h1, h2, h3, h4, h5, h6⟩ := a
  exact ⟨x, y, z, h1, h2, h3, h4, h5, by omega⟩
theorem HandAt.same {H H' : Hp} {h : Addr} {n : Nat} (a : HandAt H h n) (s : Same H H') : HandAt H' h n := by
  obtain ⟨x, y, z, h1, h2⟩ := a
  exact ⟨x, y, z, s _ _ h1, h2⟩
theorem HandAt.up {H : Hp} {h p : Addr} {u : HO} {n : Nat} (a : HandAt H h n) (hp : H p = none) : HandAt (upd H p u) h n := a.same (same1 hp)
theorem HandAt.ne {H : Hp} {h p : Addr} {n : Nat} (a : HandAt H h n) (hp : H p = none) : p ≠ h := by
  obtain ⟨x, y, z, h1, _⟩ := a
  exact (ne_of_none h1 hp).symm
def notHand : HO → Bool
  | .lst _ => false
  | _ => true
theorem HandAt.apart {H : Hp} {h p : Addr} {o : HO} {n : Nat} (a : HandAt H h n) (hp : H p = some o) (ho : notHand o = true) : p ≠ h := by
  obtain ⟨x, y, z, h1, _⟩ := a
  exact ne_of hp h1 (by intro e; rw [e] at ho; cases ho)
def sp_take : Sp := fun vs H Q _ => ∃ (h : Addr) (n : Nat) (m : Int), vs = [.ref h, .int m] ∧ HandAt H h n ∧ n < 1000000 ∧ 0 < m ∧ m.natAbs.log2 < 9000 ∧
  ∀ (d : Int) (H' : Hp), 0 ≤ d → d < m → HandAt H' h (n + 1) → Kp h H H' → Q (.int d) H'
def sp_hand (K : PySem.W.Frag) : Sp := fun vs H Q _ => ∃ (a : Addr) (ns : List Int) (k : Nat), vs = [.ref a, .int k] ∧ SqL K H a (ns.map V.int) ∧ k ≤ 1000 ∧
  ∀ (p : Addr) (H' : Hp), H p = none → Same H H' → HandAt H' p 0 → Q (.ref p) H'
/-! ### numbers -/
abbrev Sz (k : Nat) (z : Int) : Prop := z.natAbs < 2 ^ k
theorem Sz.mono {a b : Nat} {z : Int} (h : Sz a z) (l : a ≤ b) : Sz b z := Nat.lt_of_lt_of_le h (Nat.pow_le_pow_right (by decide) l)
theorem Sz.mul {a b : Nat} {x y : Int} (h : Sz a x) (g : Sz b y) : Sz (a + b) (x * y) := wide_lt h g
theorem Sz.add {a : Nat} {x y : Int} (h : Sz a x) (g : Sz a y) : Sz (a + 1) (x + y) := by
  show (x + y).natAbs < 2 ^ (a + 1)
  have h1 : x.natAbs < 2 ^ a := h
  have h2 : y.natAbs < 2 ^ a := g
  rw [Nat.pow_succ]; omega
theorem Sz.sub {a : Nat} {x y : Int} (h : Sz a x) (g : Sz a y) : Sz (a + 1) (x - y) := by
  show (x - y).natAbs < 2 ^ (a + 1)
  have h1 : x.natAbs < 2 ^ a := h
  have h2 : y.natAbs < 2 ^ a := g
  rw [Nat.pow_succ]; omega
theorem Sz.le {a : Nat} {x y : Int} (h : Sz a x) (l : y.natAbs ≤ x.natAbs) : Sz a y := Nat.lt_of_le_of_lt l h
theorem Sz.cmul {a b : Nat} {x y : Int} (h : Sz a x) (g : Sz b y) (h0 : 0 < a) (h1 : 0 < b) (l : a + b ≤ 1000000) : CMul x y ∨ CMulW x y := .inr (wide_mul h g h0 h1 l)
theorem Sz.log {a : Nat} {x : Int} (h : Sz a x) (h0 : 0 < a) (l : a ≤ 9000) : x.natAbs.log2 < 9000 := Nat.lt_of_lt_of_le (PySem.Flt.log2_lt_of h0 h) l
theorem dI {i j : Int} : decide (V.int i = V.int j) = decide (i = j) := by
  rw [dec_int, Bool.beq_eq_decide_eq]
/-- t / u is a / b in lowest terms -/
structure Fr (t u a b : Int) : Prop where
  pos : 0 < u
  eq : t * b = a * u
  co : Int.gcd t u = 1
  lt : t.natAbs ≤ a.natAbs
  lu : u.natAbs ≤ b.natAbs
def sgn (b : Int) : Int := if 0 < b then 1 else -1
theorem gcd_step {g s : Int} (hs : 0 < s) (hg : 0 ≤ g) : Int.gcd s (g % s) = Int.gcd g s := by
  obtain ⟨m, rfl⟩ := Int.eq_ofNat_of_zero_le hg
  obtain ⟨n, rfl⟩ := Int.eq_ofNat_of_zero_le (Int.le_of_lt hs)
  show Nat.gcd n (m % n) = Nat.gcd m n
  rw [Nat.gcd_comm m n, Nat.gcd_comm n (m % n), ← Nat.gcd_rec]
theorem fr_mk {a b c : Int} (hb : b ≠ 0) (hc : c = sgn b * (Int.gcd a b : Int)) : c ≠ 0 ∧ c.natAbs ≤ b.natAbs ∧ Fr (a.fdiv c) (b.fdiv c) a b := by
  have g0 : 0 < Int.gcd a b := Int.gcd_pos_of_ne_zero_right a hb
  have gd : (Int.gcd a b : Int) ∣ a := Int.gcd_dvd_left ..
  have gb : (Int.gcd a b : Int) ∣ b := Int.gcd_dvd_right ..
  have hs : sgn b = 1 ∨ sgn b = -1 := by unfold sgn; split <;> simp
  have cd : c ∣ a := by
    rcases hs with e | e <;> rw [hc, e]
    · rw [Int.one_mul]; exact gd
    · rw [Int.neg_one_mul]; exact (Int.neg_dvd).mpr gd
  have cb : c ∣ b := by
    rcases hs with e | e <;> rw [hc, e]
    · rw [Int.one_mul]; exact gb
    · rw [Int.neg_one_mul]; exact (Int.neg_dvd).mpr gb
  have cn : c.natAbs = Int.gcd a b := by
    rcases hs with e | e <;> rw [hc, e]
    · rw [Int.one_mul, Int.natAbs_natCast]
    · rw [Int.neg_one_mul, Int.natAbs_neg, Int.natAbs_natCast]
  have c0 : c ≠ 0 := by
    intro e; rw [e] at cn; simp at cn; omega
  have ta : a.fdiv c * c = a := Int.fdiv_mul_cancel cd
  have tb : b.fdiv c * c = b := Int.fdiv_mul_cancel cb
  have c1 : 1 ≤ c.natAbs := by omega
  have na : a.natAbs = (a.fdiv c).natAbs * c.natAbs := by rw [← Int.natAbs_mul, ta]
  have nb : b.natAbs = (b.fdiv c).natAbs * c.natAbs := by rw [← Int.natAbs_mul, tb]
  refine ⟨c0, ?_, ?_, ?_, ?_, ?_, ?_⟩
  · rw [cn]
    exact Nat.le_of_dvd (by omega) (Int.gcd_dvd_natAbs_right a b)
  · rcases Int.lt_trichotomy b 0 with h | h | h
    · have e : sgn b = -1 := by unfold sgn; rw [if_neg (by omega)]
      have cneg : c < 0 := by rw [hc, e]; omega
      rcases Int.lt_or_le 0 (b.fdiv c) with z | z
      · exact z
      · have : 0 ≤ b.fdiv c * c := Int.mul_nonneg_of_nonpos_of_nonpos z (by omega)
        omega
    · exact absurd h hb
    · have e : sgn b = 1 := by unfold sgn; rw [if_pos h]
      have cpos : 0 < c := by rw [hc, e]; omega
      rcases Int.lt_or_le 0 (b.fdiv c) with z | z
      · exact z
      · have : b.fdiv c * c ≤ 0 := Int.mul_nonpos_of_nonpos_of_nonneg z (by omega)
        omega
  · have : a.fdiv c * (b.fdiv c * c) = a.fdiv c * c * b.fdiv c := by
      rw [Int.mul_assoc, Int.mul_comm c]
    rw [tb, ta] at this
    exact this
  · have e : Int.gcd a b = Int.gcd (a.fdiv c) (b.fdiv c) * c.natAbs := by
      have := Int.gcd_mul_right (a.fdiv c) c (b.fdiv c)
      rw [ta, tb] at this
      exact this
    rw [← cn] at e
    have e2 : 1 * c.natAbs = Int.gcd (a.fdiv c) (b.fdiv c) * c.natAbs := by rw [Nat.one_mul]; exact e
    exact (Nat.eq_of_mul_eq_mul_right (by omega) e2).symm
  · rw [na]; exact Nat.le_mul_of_pos_right _ (by omega)
  · rw [nb]; exact Nat.le_mul_of_pos_right _ (by omega)
/-! ### a Measure -/
def mf (t u : Int) : List (Str × V) := [("top", .int t), ("bottom", .int u)]
theorem ne_tb : ¬ (("top" : Str) = "bottom") := by decide +kernel
theorem mf_put (t u : Int) : putF "bottom" (.int u) (putF "top" (.int t) []) = mf t u := by
  show (if ("top" : Str) = "bottom" then [(("top" : Str), V.int u)] else (("top" : Str), V.int t) :: putF "bottom" (V.int u) []) = mf t u
  rw [if_neg ne_tb] <;> rfl
theorem mf_top (t u : Int) : (mf t u).lookup ("top" : Str) = some (.int t) := by
  rw [← mf_put, lookup_putF, if_neg ne_tb, lookup_putF, if_pos rfl]
theorem mf_bottom (t u : Int) : (mf t u).lookup ("bottom" : Str) = some (.int u) := by
  rw [← mf_put, lookup_putF, if_pos rfl]
theorem mf_no (t u : Int) {m : Str} (h1 : ¬ m = "top") (h2 : ¬ m = "bottom") : (mf t u).lookup m = none := by
  rw [← mf_put, lookup_putF, if_neg h2, lookup_putF, if_neg h1] <;> rfl
def MAt (C : Addr) (H : Hp) (p : Addr) (t u : Int) : Prop := ∃ dx, H p = some (.ins C dx (mf t u))
theorem MAt.same {C p : Addr} {H H' : Hp} {t u : Int} (m : MAt C H p t u) (s : Same H H') : MAt C H' p t u := by
  obtain ⟨dx, h⟩ := m; exact ⟨dx, s _ _ h⟩
theorem MAt.kp {C p h : Addr} {H H' : Hp} {t u : Int} {n : Nat} (m : MAt C H p t u) (hh : HandAt H h n) (s : Kp h H H') : MAt C H' p t u := by
  obtain ⟨dx, e⟩ := m; exact ⟨dx, s _ _ e (hh.apart e rfl)⟩
def sp_minit (C : Addr) : Sp := fun vs H Q _ => ∃ (p dx : Addr) (a b : Int), vs = [.ref p, .int a, .int b] ∧ H p = some (.ins C dx []) ∧ b ≠ 0 ∧ b.natAbs.log2 < 9000 ∧
  ∀ (t u : Int) (H' : Hp), Fr t u a b → H' p = some (.ins C dx (mf t u)) → (∀ c o, H c = some o → c ≠ p → H' c = some o) → Q .non H'
theorem made {C : Addr} {H : Hp} {Q : VK} {E : XK} {a b : Int} (hb : b ≠ 0) (hl : b.natAbs.log2 < 9000) (k : ∀ (p : Addr) (t u : Int) (H' : Hp), H p = none → Same H H' → MAt C H' p t u → Fr t u a b → Q (.ref p) H') :
    ∀ x dx, H x = none → H dx = none → dx ≠ x → sp_minit C [.ref x, .int a, .int b] (upd (upd H dx (.own x)) x (.ins C dx [])) (fun v H2 => v = .non ∧ Q (.ref x) H2) E := by
  intro x dx nx nd ne
  refine ⟨x, dx, a, b, rfl, upd_same, hb, hl, fun t u H' fr hx kp => ⟨rfl, ?_⟩⟩
  refine k x t u H' nx (fun c o e => ?_) ⟨dx, hx⟩ fr
  have n1 : c ≠ x := ne_of_none e nx
  refine kp c o ?_ n1
  rw [upd_ne n1]
  exact up1 nd e
def sp_whole : Sp := fun vs H Q _ => ∃ n : Int, vs = [.int n] ∧ Q (.bl true) H
def sp_common : Sp := fun vs H Q _ => ∃ a b : Int, vs = [.int a, .int b] ∧ Q (.int (Int.gcd a b : Int)) H
def lessA (t u t' u' : Int) (al : Bool) : Bool := decide (t * u' < t' * u) || (al && decide (t * u' = t' * u))
def sp_below (C : Addr) : Sp := fun vs H Q _ => ∃ (p q : Addr) (t u t' u' : Int) (al : Bool), vs = [.ref p, .ref q, .bl al] ∧ MAt C H p t u ∧ MAt C H q t' u' ∧ Sz 9000 t ∧ Sz 9000 u ∧ Sz 9000 t' ∧ Sz 9000 u' ∧ Q (.bl (lessA t u t' u' al)) H
theorem Kp.get {h q : Addr} {H H' : Hp} {o : HO} {n : Nat} (k : Kp h H H') (hh : HandAt H h n) (e : H q = some o) (no : notHand o = true) : H' q = some o := k _ _ e (hh.apart e no)
theorem _root_.L2.Same.get {q : Addr} {H H' : Hp} {o : HO} (k : Same H H') (e : H q = some o) : H' q = some o := k _ _ e
theorem _root_.L2.Same.ofKp {h : Addr} {H H1 H2 : Hp} (s : Same H H1) (nh : H h = none) (k : Kp h H1 H2) : Same H H2 := fun c o e => k c o (s c o e) (ne_of_none e nh)
theorem _root_.L2.Same.up {p : Addr} {H H1 : Hp} {u : HO} (s : Same H H1) (hp : H1 p = none) : Same H (upd H1 p u) := s.trans (same1 hp)
theorem sgn_cases (b : Int) : sgn b = 1 ∨ sgn b = -1 := by unfold sgn; split <;> simp
/-! ### rules with the written part by its name (for the blocks of comprehensions) -/
section
variable {X : Cx} {K : PySem.W.Frag}
theorem ixl (hK : X.K = K := by rfl) : IxR X (rIxL K) := by subst hK; exact ix_list
theorem ixt (hK : X.K = K := by rfl) : IxR X (rIxT K) := by subst hK; exact ix_tup
theorem isi (hK : X.K = K := by rfl) : CallR X (.builtin "isinstance") (rIsi K) := by subst hK; exact call_isi
def rLenS (K : PySem.W.Frag) : List V → Hp → VK → Prop := fun xs H Q => ∃ p ys, xs = [.ref p] ∧ (SqL K H p ys ∨ SqT K H p ys) ∧ Q (.int (ys.length : Int)) H
theorem lenS (hK : X.K = K := by rfl) : CallR X (.builtin "len") (rLenS K) := by subst hK; exact call_len_seq
theorem allK (hK : X.K = K := by rfl) (hc : X.calm = true := by rfl) : CallR X (.builtin "all") (rAll K) := by subst hK; exact cr_all hc
theorem anyK (hK : X.K = K := by rfl) (hc : X.calm = true := by rfl) : CallR X (.builtin "any") (rAny K) := by subst hK; exact cr_any hc
theorem neDK (hu : X.A.units + 64 < cLine) (hK : X.K = K := by rfl) : OpR X (compareOp .NotEq) (rNeD K) := by subst hK; exact op_neD hu
theorem fldK {e : Expr} {f : Str} {pos : Pos} {ta : TE} (he : PE X e ta) (hb : attributeBase e f X.env (eval e X.env) = eval e X.env) (hK : X.K = K := by rfl) : PE X (.Attribute e f pos) (tFld K ta f) := by subst hK; exact pe_fld he hb
end
theorem yesT {te : TE} {σ : L2.St} {H : Hp} {N : VK} {M : Hp → Prop} (h : te σ H N) : tYes σ H (fun b H3 => if b = true then te σ H3 N else M H3) := by
  show (if true = true then te σ H N else M H)
  rw [if_pos rfl]; exact h
theorem made_same {H H' : Hp} {x dx C : Addr} (nx : H x = none) (nd : H dx = none) (kp : ∀ c o, (upd (upd H dx (.own x)) x (.ins C dx [])) c = some o → c ≠ x → H' c = some o) : Same H H' := fun c o e => by
  have n1 : c ≠ x := ne_of_none e nx
  refine kp c o ?_ n1
  rw [upd_ne n1]
  exact up1 nd e
/-! ### the head's facts, and more of them -/
def obsM (n : Nat) (fa : List He.Fa) (fn : List He.DefD) (ex : List (PySem.W.Frag → Bool)) (g : Addr → Option Obj) : He.AlD × Bool := (He.obsDG n fa fn g, ex.all fun f => f (He.frG g (He.asD g n)))
def hookM (n : Nat) (fa : List He.Fa) (fn : List He.DefD) (ex : List (PySem.W.Frag → Bool)) : PySem.W.Hook where
  α := He.AlD × Bool
  obs := fun s => obsM n fa fn ex s.heap.get?
  val := fun _ => (He.valD fn, true)
  says := fun _ h => ∃ K : PySem.W.Frag, K.In h ∧ He.SaysD fa fn K ∧ (ex.all fun f => f K) = true
  of := fun _ _ e => ⟨_, He.frG_in, congrArg (fun z : He.AlD × Bool => z.1) e, congrArg (fun z : He.AlD × Bool => z.2) e⟩
  keeps := fun _ _ _ ⟨K, hK, c⟩ k => ⟨K, PySem.W.Frag.In.keeps hK k, c⟩
theorem obsM_eq {n : Nat} {fa : List He.Fa} {fn : List He.DefD} {ex : List (PySem.W.Frag → Bool)} {g : Addr → Option Obj} {s : Shared} (h : ∀ a, g a = s.heap.get? a) : obsM n fa fn ex g = (hookM n fa fn ex).obs s := by
  have e : g = s.heap.get? := funext h
  rw [e] <;> rfl
theorem ex_at {ex : List (PySem.W.Frag → Bool)} {K : PySem.W.Frag} (c : (ex.all fun f => f K) = true) (i : Nat) {f : PySem.W.Frag → Bool} (h : ex[i]? = some f) : f K = true := List.all_eq_true.mp c f (List.mem_of_getElem? h)
/-- what isinstance asks of an own class -/
structure IsC (K : PySem.W.Frag) (C : Addr) : Prop where
  ha : PySem.W.findIn K (.ref C) "__class__" = some (some (.builtin "object.__class__"))
  hn : PySem.W.specialIn K (.builtin "object.__class__") "__get__" = some (some (.builtin "getset_descriptor.__get__"))
  htk : PySem.W.takesIn K (.builtin "object.__class__") = some true
  hm : PySem.W.mroIn K C (.type "object") = some true
def isCB (x : Str) : PySem.W.Frag → Bool := fun K => He.eqO (PySem.W.findIn K (.ref (He.ga K x)) "__class__") (some (some (.builtin "object.__class__"))) && (He.eqO (PySem.W.specialIn K (.builtin "object.__class__") "__get__") (some (some (.builtin "getset_descriptor.__get__"))) &&
  (decide (PySem.W.takesIn K (.builtin "object.__class__") = some true) && decide (PySem.W.mroIn K (He.ga K x) (.type "object") = some true)))
theorem isC_ok {x : Str} {K : PySem.W.Frag} (c : isCB x K = true) : IsC K (He.ga K x) := by
  obtain ⟨c1, c⟩ := He.ba c
  obtain ⟨c2, c⟩ := He.ba c
  obtain ⟨c3, c4⟩ := He.ba c
  exact ⟨He.eqO_ok c1, He.eqO_ok c2, of_decide_eq_true c3, of_decide_eq_true c4⟩
/-- a class by name: an own one, a built-in one -/
def cv (K : PySem.W.Frag) : Str ⊕ String → Value
  | .inl x => .ref (He.ga K x)
  | .inr n => .type n
def kitF (a b : Str ⊕ String) (r : Bool) : PySem.W.Frag → Bool := fun K => decide (PySem.W.kitOne K (cv K a) (cv K b) = some r)
theorem kitF_ok {a b : Str ⊕ String} {r : Bool} {K : PySem.W.Frag} (c : kitF a b r K = true) : PySem.W.kitOne K (cv K a) (cv K b) = some r := of_decide_eq_true c
theorem tyM {K : PySem.W.Frag} {H : Hp} {a C dx : Addr} {fs : List (Str × V)} (e : H a = some (.ins C dx fs)) (cl : Cls K C) (i : IsC K C) : TyX K H (.ref a) (.ref C) := .base (.ins e cl i.ha i.hn i.htk i.hm)
/-! ### sums and parts of Measures -/
/-- the same fraction once more -/
theorem Fr.of {t u a b c d : Int} (f : Fr t u a b) (hb : b ≠ 0) (e : a * d = c * b) : t * d = c * u := by
  have h1 := f.eq
  have h2 : (t * d) * b = (c * u) * b := by
    calc (t * d) * b = (t * b) * d := by simp only [Int.mul_assoc, Int.mul_comm, Int.mul_left_comm]
      _ = (a * u) * d := by rw [h1]
      _ = (a * d) * u := by simp only [Int.mul_assoc, Int.mul_comm, Int.mul_left_comm]
      _ = (c * b) * u := by rw [e]
      _ = (c * u) * b := by simp only [Int.mul_assoc, Int.mul_comm, Int.mul_left_comm]
  exact Int.eq_of_mul_eq_mul_right hb h2
/-- what stood at the start stands (by another name than the steps') -/
structure Old (H H' : Hp) : Prop where
  s : Same H H'
theorem Old.refl (H : Hp) : Old H H := ⟨Same.refl _⟩
theorem Old.up {p : Addr} {H H1 : Hp} {u : HO} (a : Old H H1) (hp : H1 p = none) : Old H (upd H1 p u) := ⟨a.s.up hp⟩
theorem Old.then {H H1 H2 : Hp} (a : Old H H1) (b : Same H1 H2) : Old H H2 := ⟨a.s.trans b⟩
theorem Old.kp {h : Addr} {H H1 H2 : Hp} (a : Old H H1) (nh : H h = none) (k : Kp h H1 H2) : Old H H2 := ⟨a.s.ofKp nh k⟩
theorem Old.put {h : Addr} {H H1 : Hp} {u : HO} (a : Old H H1) (nh : H h = none) : Old H (upd H1 h u) := ⟨fun c o e => by rw [upd_ne (ne_of_none e nh)]; exact a.s _ _ e⟩
/-- a list is changed, what is no list stays -/
theorem up2 {H : Hp} {l x : Addr} {xs : List V} {o u : HO} (hl : H l = some (.lst xs)) (hx : H x = some o) (no : notHand o = true) : upd H l u x = some o := by
  rw [upd_ne (ne_of hx hl (by intro e; rw [e] at no; cases no))]; exact hx
end My
namespace K23
open PySem PySem.Spec PyProof.Rows L2 My
/-! ### the text by places -/
def topS (i : Nat) : Stmt := PySem.Challenge.pw_sizeladders_k23_whole_as_many_as_can_ris.main.body.getD i (.Pass ⟨0, 0, 0, 0⟩)
abbrev s_is_whole : Stmt := (topS 2)
abbrev s_is_tuple_of : Stmt := (topS 3)
abbrev s_are_wholes : Stmt := (topS 4)
abbrev s_all_below : Stmt := (topS 5)
abbrev s_are_rising : Stmt := (topS 6)
abbrev s_common_part : Stmt := (topS 12)
abbrev s_Measure_init : Stmt := (inClass (topS 14) 0)
abbrev s_Measure_is_below : Stmt := (inClass (topS 14) 8)
abbrev s_slip_of : Stmt := (topS 16)
abbrev s_rises_without : Stmt := (topS 17)
abbrev s_singles_of : Stmt := (topS 18)
abbrev s_heights_of : Stmt := (topS 20)
abbrev s_kept_by : Stmt := (topS 21)
abbrev s_rise_of : Stmt := (topS 22)
abbrev s_is_kept : Stmt := (topS 23)
abbrev s_rises_in_one : Stmt := (topS 24)
abbrev s_is_numbering : Stmt := (topS 25)
abbrev s_shows_rise : Stmt := (topS 26)
abbrev s_l_hand : Stmt := (topS 28)
abbrev s_l_take : Stmt := (topS 29)
abbrev s_l_of : Stmt := (topS 30)
abbrev s_l_rows : Stmt := (topS 31)
abbrev s_l_made : Stmt := (topS 32)
abbrev s_l_longest : Stmt := (topS 33)
abbrev s_l_is_whole : Stmt := (topS 34)
abbrev s_l_told : Stmt := (topS 35)
abbrev s_law : Stmt := (topS 36)
abbrev N_is_whole : List Str := ["thing"]
abbrev p_is_whole : List Str := ["thing"]
theorem sc_is_whole : FnScope N_is_whole p_is_whole (defScope s_is_whole) := ⟨rfl, rfl, rfl, by decide +kernel, rfl, by decide +kernel, by decide +kernel⟩
abbrev N_is_tuple_of : List Str := ["thing", "many"]
abbrev p_is_tuple_of : List Str := ["thing", "many"]
theorem sc_is_tuple_of : FnScope N_is_tuple_of p_is_tuple_of (defScope s_is_tuple_of) := ⟨rfl, rfl, rfl, by decide +kernel, rfl, by decide +kernel, by decide +kernel⟩
abbrev N_are_wholes : List Str := ["thing", "part"]
abbrev p_are_wholes : List Str := ["thing"]
theorem sc_are_wholes : FnScope N_are_wholes p_are_wholes (defScope s_are_wholes) := ⟨rfl, rfl, rfl, by decide +kernel, rfl, by decide +kernel, by decide +kernel⟩
abbrev N_all_below : List Str := ["numbers", "many", "number"]
abbrev p_all_below : List Str := ["numbers", "many"]
theorem sc_all_below : FnScope N_all_below p_all_below (defScope s_all_below) := ⟨rfl, rfl, rfl, by decide +kernel, rfl, by decide +kernel, by decide +kernel⟩
abbrev N_are_rising : List Str := ["thing", "many", "at"]
abbrev p_are_rising : List Str := ["thing", "many"]
theorem sc_are_rising : FnScope N_are_rising p_are_rising (defScope s_are_rising) := ⟨rfl, rfl, rfl, by decide +kernel, rfl, by decide +kernel, by decide +kernel⟩
abbrev N_common_part : List Str := ["one", "other", "great", "small"]
abbrev p_common_part : List Str := ["one", "other"]
theorem sc_common_part : FnScope N_common_part p_common_part (defScope s_common_part) := ⟨rfl, rfl, rfl, by decide +kernel, rfl, by decide +kernel, by decide +kernel⟩
abbrev N_Measure_init : List Str := ["self", "top", "bottom", "common"]
abbrev p_Measure_init : List Str := ["self", "top", "bottom"]
theorem sc_Measure_init : FnScope N_Measure_init p_Measure_init (defScope s_Measure_init) := ⟨rfl, rfl, rfl, by decide +kernel, rfl, by decide +kernel, by decide +kernel⟩
abbrev N_Measure_is_below : List Str := ["self", "other", "alike", "here", "there"]
abbrev p_Measure_is_below : List Str := ["self", "other", "alike"]
theorem sc_Measure_is_below : FnScope N_Measure_is_below p_Measure_is_below (defScope s_Measure_is_below) := ⟨rfl, rfl, rfl, by decide +kernel, rfl, by decide +kernel, by decide +kernel⟩
abbrev N_slip_of : List Str := ["rows", "number"]
abbrev p_slip_of : List Str := ["rows"]
theorem sc_slip_of : FnScope N_slip_of p_slip_of (defScope s_slip_of) := ⟨rfl, rfl, rfl, by decide +kernel, rfl, by decide +kernel, by decide +kernel⟩
abbrev N_rises_without : List Str := ["rows", "number"]
abbrev p_rises_without : List Str := ["rows", "number"]
theorem sc_rises_without : FnScope N_rises_without p_rises_without (defScope s_rises_without) := ⟨rfl, rfl, rfl, by decide +kernel, rfl, by decide +kernel, by decide +kernel⟩
abbrev N_singles_of : List Str := ["rows", "number"]
abbrev p_singles_of : List Str := ["rows"]
theorem sc_singles_of : FnScope N_singles_of p_singles_of (defScope s_singles_of) := ⟨rfl, rfl, rfl, by decide +kernel, rfl, by decide +kernel, by decide +kernel⟩
abbrev N_heights_of : List Str := ["rows", "heights", "number", "ahead", "at"]
abbrev p_heights_of : List Str := ["rows"]
theorem sc_heights_of : FnScope N_heights_of p_heights_of (defScope s_heights_of) := ⟨rfl, rfl, rfl, by decide +kernel, rfl, by decide +kernel, by decide +kernel⟩
abbrev N_kept_by : List Str := ["heights", "kept", "wanted", "number"]
abbrev p_kept_by : List Str := ["heights"]
theorem sc_kept_by : FnScope N_kept_by p_kept_by (defScope s_kept_by) := ⟨rfl, rfl, rfl, by decide +kernel, rfl, by decide +kernel, by decide +kernel⟩
abbrev N_rise_of : List Str := ["rows", "heights"]
abbrev p_rise_of : List Str := ["rows"]
theorem sc_rise_of : FnScope N_rise_of p_rise_of (defScope s_rise_of) := ⟨rfl, rfl, rfl, by decide +kernel, rfl, by decide +kernel, by decide +kernel⟩
abbrev N_is_kept : List Str := ["rows", "thing", "number"]
abbrev p_is_kept : List Str := ["rows", "thing"]
theorem sc_is_kept : FnScope N_is_kept p_is_kept (defScope s_is_kept) := ⟨rfl, rfl, rfl, by decide +kernel, rfl, by decide +kernel, by decide +kernel⟩
abbrev N_rises_in_one : List Str := ["rows", "numbers", "last", "at"]
abbrev p_rises_in_one : List Str := ["rows", "numbers", "last"]
theorem sc_rises_in_one : FnScope N_rises_in_one p_rises_in_one (defScope s_rises_in_one) := ⟨rfl, rfl, rfl, by decide +kernel, rfl, by decide +kernel, by decide +kernel⟩
abbrev N_is_numbering : List Str := ["rows", "thing", "many", "last"]
abbrev p_is_numbering : List Str := ["rows", "thing", "many"]
theorem sc_is_numbering : FnScope N_is_numbering p_is_numbering (defScope s_is_numbering) := ⟨rfl, rfl, rfl, by decide +kernel, rfl, by decide +kernel, by decide +kernel⟩
abbrev N_shows_rise : List Str := ["rows", "thing", "kept", "numbers"]
abbrev p_shows_rise : List Str := ["rows", "thing"]
theorem sc_shows_rise : FnScope N_shows_rise p_shows_rise (defScope s_shows_rise) := ⟨rfl, rfl, rfl, by decide +kernel, rfl, by decide +kernel, by decide +kernel⟩
abbrev N_l_hand : List Str := ["_law_script", "_law_k", "_law_cell", "_law_own"]
abbrev p_l_hand : List Str := ["_law_script", "_law_k"]
theorem sc_l_hand : FnScope N_l_hand p_l_hand (defScope s_l_hand) := ⟨rfl, rfl, rfl, by decide +kernel, rfl, by decide +kernel, by decide +kernel⟩
abbrev N_l_take : List Str := ["_law_hand_here", "_law_many", "_law_digit", "_law_turn", "_law_prime", "_law_mixed"]
abbrev p_l_take : List Str := ["_law_hand_here", "_law_many"]
theorem sc_l_take : FnScope N_l_take p_l_take (defScope s_l_take) := ⟨rfl, rfl, rfl, by decide +kernel, rfl, by decide +kernel, by decide +kernel⟩
abbrev N_l_of : List Str := ["_law_hand_here", "_law_some"]
abbrev p_l_of : List Str := ["_law_hand_here", "_law_some"]
theorem sc_l_of : FnScope N_l_of p_l_of (defScope s_l_of) := ⟨rfl, rfl, rfl, by decide +kernel, rfl, by decide +kernel, by decide +kernel⟩
abbrev N_l_rows : List Str := ["_law_hand_here", "_law_way", "_law_part", "_law_many", "_law_tops", "_law_top", "_law_k", "_law_at", "_law_other"]
abbrev p_l_rows : List Str := ["_law_hand_here"]
theorem sc_l_rows : FnScope N_l_rows p_l_rows (defScope s_l_rows) := ⟨rfl, rfl, rfl, by decide +kernel, rfl, by decide +kernel, by decide +kernel⟩
abbrev N_l_made : List Str := ["_law_its_rows", "_law_top"]
abbrev p_l_made : List Str := ["_law_its_rows"]
theorem sc_l_made : FnScope N_l_made p_l_made (defScope s_l_made) := ⟨rfl, rfl, rfl, by decide +kernel, rfl, by decide +kernel, by decide +kernel⟩
abbrev N_l_longest : List Str := ["_law_tops", "_law_found", "_law_at", "_law_behind", "_law_long", "_law_k"]
abbrev p_l_longest : List Str := ["_law_tops"]
theorem sc_l_longest : FnScope N_l_longest p_l_longest (defScope s_l_longest) := ⟨rfl, rfl, rfl, by decide +kernel, rfl, by decide +kernel, by decide +kernel⟩
abbrev N_l_is_whole : List Str := ["_law_its_thing", "_law_many"]
abbrev p_l_is_whole : List Str := ["_law_its_thing", "_law_many"]
theorem sc_l_is_whole : FnScope N_l_is_whole p_l_is_whole (defScope s_l_is_whole) := ⟨rfl, rfl, rfl, by decide +kernel, rfl, by decide +kernel, by decide +kernel⟩
abbrev N_l_told : List Str := ["_law_tops", "_law_told_here", "_law_kept", "_law_numbers", "_law_at", "_law_number", "_law_one", "_law_other", "_law_k"]
abbrev p_l_told : List Str := ["_law_tops", "_law_told_here"]
theorem sc_l_told : FnScope N_l_told p_l_told (defScope s_l_told) := ⟨rfl, rfl, rfl, by decide +kernel, rfl, by decide +kernel, by decide +kernel⟩
abbrev N_law : List Str := ["_law_script", "_law_k", "_law_its_rows", "_law_made_here", "_law_tops", "_law_told_here", "_law_less", "_law_singles", "_law_at"]
abbrev p_law : List Str := ["_law_script"]
theorem sc_law : FnScope N_law p_law (defScope s_law) := ⟨rfl, rfl, rfl, by decide +kernel, rfl, by decide +kernel, by decide +kernel⟩
/-! ### what the top has written -/
structure Fds where
  is_whole : FuncData
  is_tuple_of : FuncData
  are_wholes : FuncData
  all_below : FuncData
  are_rising : FuncData
  common_part : FuncData
  Measure_init : FuncData
  Measure_is_below : FuncData
  slip_of : FuncData
  rises_without : FuncData
  singles_of : FuncData
  heights_of : FuncData
  kept_by : FuncData
  rise_of : FuncData
  is_kept : FuncData
  rises_in_one : FuncData
  is_numbering : FuncData
  shows_rise : FuncData
  l_hand : FuncData
  l_take : FuncData
  l_of : FuncData
  l_rows : FuncData
  l_made : FuncData
  l_longest : FuncData
  l_is_whole : FuncData
  l_told : FuncData
  law : FuncData
structure Txt (K : PySem.W.Frag) (mg : Str → Option Value) (φ : Fds) : Prop where
  g_is_whole : mg "is_whole" = some (.ref (He.ga K "is_whole"))
  g_is_tuple_of : mg "is_tuple_of" = some (.ref (He.ga K "is_tuple_of"))
  g_are_wholes : mg "are_wholes" = some (.ref (He.ga K "are_wholes"))
  g_all_below : mg "all_below" = some (.ref (He.ga K "all_below"))
  g_are_rising : mg "are_rising" = some (.ref (He.ga K "are_rising"))
  g_common_part : mg "common_part" = some (.ref (He.ga K "common_part"))
  g_slip_of : mg "slip_of" = some (.ref (He.ga K "slip_of"))
  g_rises_without : mg "rises_without" = some (.ref (He.ga K "rises_without"))
  g_singles_of : mg "singles_of" = some (.ref (He.ga K "singles_of"))
  g_heights_of : mg "heights_of" = some (.ref (He.ga K "heights_of"))
  g_kept_by : mg "kept_by" = some (.ref (He.ga K "kept_by"))
  g_rise_of : mg "rise_of" = some (.ref (He.ga K "rise_of"))
  g_is_kept : mg "is_kept" = some (.ref (He.ga K "is_kept"))
  g_rises_in_one : mg "rises_in_one" = some (.ref (He.ga K "rises_in_one"))
  g_is_numbering : mg "is_numbering" = some (.ref (He.ga K "is_numbering"))
  g_shows_rise : mg "shows_rise" = some (.ref (He.ga K "shows_rise"))
  g_l_hand : mg "_law_hand" = some (.ref (He.ga K "_law_hand"))
  g_l_take : mg "_law_take" = some (.ref (He.ga K "_law_take"))
  g_l_of : mg "_law_of" = some (.ref (He.ga K "_law_of"))
  g_l_rows : mg "_law_rows" = some (.ref (He.ga K "_law_rows"))
  g_l_made : mg "_law_made" = some (.ref (He.ga K "_law_made"))
  g_l_longest : mg "_law_longest" = some (.ref (He.ga K "_law_longest"))
  g_l_is_whole : mg "_law_is_whole" = some (.ref (He.ga K "_law_is_whole"))
  g_l_told : mg "_law_told" = some (.ref (He.ga K "_law_told"))
  g_law : mg "law" = some (.ref (He.ga K "law"))
  g_Measure : mg "Measure" = some (.ref (He.ga K "Measure"))
  z_abs : mg "abs" = none
  z_all : mg "all" = none
  z_any : mg "any" = none
  z_bool : mg "bool" = none
  z_enumerate : mg "enumerate" = none
  z_int : mg "int" = none
  z_isinstance : mg "isinstance" = none
  z_len : mg "len" = none
  z_max : mg "max" = none
  z_min : mg "min" = none
  z_range : mg "range" = none
  z_reversed : mg "reversed" = none
  z_tuple : mg "tuple" = none
  z_zip : mg "zip" = none
  cl_Measure : Cls K (He.ga K "Measure")
  na_Measure_top : NoAttr K (He.ga K "Measure") "top"
  na_Measure_bottom : NoAttr K (He.ga K "Measure") "bottom"
  me_Measure_is_below : Meth K (He.ga K "Measure") "is_below" (He.ma K (He.ga K "Measure") "is_below")
  mk_Measure : Mk K (He.ga K "Measure") (He.ma K (He.ga K "Measure") "__init__")
  ii_Measure : IsC K (He.ga K "Measure")
  k_Measure_Measure : PySem.W.kitOne K (.ref (He.ga K "Measure")) (.ref (He.ga K "Measure")) = some true
  f_is_whole : FunD K "is_whole" "is_whole" (defArgs s_is_whole) (defBody s_is_whole) (defScope s_is_whole) [] [] (He.fAd K ("is_whole", none)) φ.is_whole
  f_is_tuple_of : FunD K "is_tuple_of" "is_tuple_of" (defArgs s_is_tuple_of) (defBody s_is_tuple_of) (defScope s_is_tuple_of) [] [] (He.fAd K ("is_tuple_of", none)) φ.is_tuple_of
  f_are_wholes : FunD K "are_wholes" "are_wholes" (defArgs s_are_wholes) (defBody s_are_wholes) (defScope s_are_wholes) [] [] (He.fAd K ("are_wholes", none)) φ.are_wholes
  f_all_below : FunD K "all_below" "all_below" (defArgs s_all_below) (defBody s_all_below) (defScope s_all_below) [] [] (He.fAd K ("all_below", none)) φ.all_below
  f_are_rising : FunD K "are_rising" "are_rising" (defArgs s_are_rising) (defBody s_are_rising) (defScope s_are_rising) [] [] (He.fAd K ("are_rising", none)) φ.are_rising
  f_common_part : FunD K "common_part" "common_part" (defArgs s_common_part) (defBody s_common_part) (defScope s_common_part) [] [] (He.fAd K ("common_part", none)) φ.common_part
  f_Measure_init : FunD K "__init__" "Measure.__init__" (defArgs s_Measure_init) (defBody s_Measure_init) (defScope s_Measure_init) [V.int 1] [] (He.fAd K ("Measure", some "__init__")) φ.Measure_init
  f_Measure_is_below : FunD K "is_below" "Measure.is_below" (defArgs s_Measure_is_below) (defBody s_Measure_is_below) (defScope s_Measure_is_below) [V.bl false] [] (He.fAd K ("Measure", some "is_below")) φ.Measure_is_below
  f_slip_of : FunD K "slip_of" "slip_of" (defArgs s_slip_of) (defBody s_slip_of) (defScope s_slip_of) [] [] (He.fAd K ("slip_of", none)) φ.slip_of
  f_rises_without : FunD K "rises_without" "rises_without" (defArgs s_rises_without) (defBody s_rises_without) (defScope s_rises_without) [] [] (He.fAd K ("rises_without", none)) φ.rises_without
  f_singles_of : FunD K "singles_of" "singles_of" (defArgs s_singles_of) (defBody s_singles_of) (defScope s_singles_of) [] [] (He.fAd K ("singles_of", none)) φ.singles_of
  f_heights_of : FunD K "heights_of" "heights_of" (defArgs s_heights_of) (defBody s_heights_of) (defScope s_heights_of) [] [] (He.fAd K ("heights_of", none)) φ.heights_of
  f_kept_by : FunD K "kept_by" "kept_by" (defArgs s_kept_by) (defBody s_kept_by) (defScope s_kept_by) [] [] (He.fAd K ("kept_by", none)) φ.kept_by
  f_rise_of : FunD K "rise_of" "rise_of" (defArgs s_rise_of) (defBody s_rise_of) (defScope s_rise_of) [] [] (He.fAd K ("rise_of", none)) φ.rise_of
  f_is_kept : FunD K "is_kept" "is_kept" (defArgs s_is_kept) (defBody s_is_kept) (defScope s_is_kept) [] [] (He.fAd K ("is_kept", none)) φ.is_kept
  f_rises_in_one : FunD K "rises_in_one" "rises_in_one" (defArgs s_rises_in_one) (defBody s_rises_in_one) (defScope s_rises_in_one) [] [] (He.fAd K ("rises_in_one", none)) φ.rises_in_one
  f_is_numbering : FunD K "is_numbering" "is_numbering" (defArgs s_is_numbering) (defBody s_is_numbering) (defScope s_is_numbering) [] [] (He.fAd K ("is_numbering", none)) φ.is_numbering
  f_shows_rise : FunD K "shows_rise" "shows_rise" (defArgs s_shows_rise) (defBody s_shows_rise) (defScope s_shows_rise) [] [] (He.fAd K ("shows_rise", none)) φ.shows_rise
  f_l_hand : FunD K "_law_hand" "_law_hand" (defArgs s_l_hand) (defBody s_l_hand) (defScope s_l_hand) [] [] (He.fAd K ("_law_hand", none)) φ.l_hand
  f_l_take : FunD K "_law_take" "_law_take" (defArgs s_l_take) (defBody s_l_take) (defScope s_l_take) [] [] (He.fAd K ("_law_take", none)) φ.l_take
  f_l_of : FunD K "_law_of" "_law_of" (defArgs s_l_of) (defBody s_l_of) (defScope s_l_of) [] [] (He.fAd K ("_law_of", none)) φ.l_of
  f_l_rows : FunD K "_law_rows" "_law_rows" (defArgs s_l_rows) (defBody s_l_rows) (defScope s_l_rows) [] [] (He.fAd K ("_law_rows", none)) φ.l_rows
  f_l_made : FunD K "_law_made" "_law_made" (defArgs s_l_made) (defBody s_l_made) (defScope s_l_made) [] [] (He.fAd K ("_law_made", none)) φ.l_made
  f_l_longest : FunD K "_law_longest" "_law_longest" (defArgs s_l_longest) (defBody s_l_longest) (defScope s_l_longest) [] [] (He.fAd K ("_law_longest", none)) φ.l_longest
  f_l_is_whole : FunD K "_law_is_whole" "_law_is_whole" (defArgs s_l_is_whole) (defBody s_l_is_whole) (defScope s_l_is_whole) [] [] (He.fAd K ("_law_is_whole", none)) φ.l_is_whole
  f_l_told : FunD K "_law_told" "_law_told" (defArgs s_l_told) (defBody s_l_told) (defScope s_l_told) [] [] (He.fAd K ("_law_told", none)) φ.l_told
  f_law : FunD K "law" "law" (defArgs s_law) (defBody s_law) (defScope s_law) [] [] (He.fAd K ("law", none)) φ.law
/-! ### the head -/
def h_is_whole : He.DefD := ⟨("is_whole", none), "is_whole", "is_whole", defArgs s_is_whole, defBody s_is_whole, defScope s_is_whole, [], []⟩
def h_is_tuple_of : He.DefD := ⟨("is_tuple_of", none), "is_tuple_of", "is_tuple_of", defArgs s_is_tuple_of, defBody s_is_tuple_of, defScope s_is_tuple_of, [], []⟩
def h_are_wholes : He.DefD := ⟨("are_wholes", none), "are_wholes", "are_wholes", defArgs s_are_wholes, defBody s_are_wholes, defScope s_are_wholes, [], []⟩
def h_all_below : He.DefD := ⟨("all_below", none), "all_below", "all_below", defArgs s_all_below, defBody s_all_below, defScope s_all_below, [], []⟩
def h_are_rising : He.DefD := ⟨("are_rising", none), "are_rising", "are_rising", defArgs s_are_rising, defBody s_are_rising, defScope s_are_rising, [], []⟩
def h_common_part : He.DefD := ⟨("common_part", none), "common_part", "common_part", defArgs s_common_part, defBody s_common_part, defScope s_common_part, [], []⟩
def h_Measure_init : He.DefD := ⟨("Measure", some "__init__"), "__init__", "Measure.__init__", defArgs s_Measure_init, defBody s_Measure_init, defScope s_Measure_init, [.int 1], []⟩
def h_Measure_is_below : He.DefD := ⟨("Measure", some "is_below"), "is_below", "Measure.is_below", defArgs s_Measure_is_below, defBody s_Measure_is_below, defScope s_Measure_is_below, [.bl false], []⟩
def h_slip_of : He.DefD := ⟨("slip_of", none), "slip_of", "slip_of", defArgs s_slip_of, defBody s_slip_of, defScope s_slip_of, [], []⟩
def h_rises_without : He.DefD := ⟨("rises_without", none), "rises_without", "rises_without", defArgs s_rises_without, defBody s_rises_without, defScope s_rises_without, [], []⟩
def h_singles_of : He.DefD := ⟨("singles_of", none), "singles_of", "singles_of", defArgs s_singles_of, defBody s_singles_of, defScope s_singles_of, [], []⟩
def h_heights_of : He.DefD := ⟨("heights_of", none), "heights_of", "heights_of", defArgs s_heights_of, defBody s_heights_of, defScope s_heights_of, [], []⟩
def h_kept_by : He.DefD := ⟨("kept_by", none), "kept_by", "kept_by", defArgs s_kept_by, defBody s_kept_by, defScope s_kept_by, [], []⟩
def h_rise_of : He.DefD := ⟨("rise_of", none), "rise_of", "rise_of", defArgs s_rise_of, defBody s_rise_of, defScope s_rise_of, [], []⟩
def h_is_kept : He.DefD := ⟨("is_kept", none), "is_kept", "is_kept", defArgs s_is_kept, defBody s_is_kept, defScope s_is_kept, [], []⟩
def h_rises_in_one : He.DefD := ⟨("rises_in_one", none), "rises_in_one", "rises_in_one", defArgs s_rises_in_one, defBody s_rises_in_one, defScope s_rises_in_one, [], []⟩
def h_is_numbering : He.DefD := ⟨("is_numbering", none), "is_numbering", "is_numbering", defArgs s_is_numbering, defBody s_is_numbering, defScope s_is_numbering, [], []⟩
def h_shows_rise : He.DefD := ⟨("shows_rise", none), "shows_rise", "shows_rise", defArgs s_shows_rise, defBody s_shows_rise, defScope s_shows_rise, [], []⟩
def h_l_hand : He.DefD := ⟨("_law_hand", none), "_law_hand", "_law_hand", defArgs s_l_hand, defBody s_l_hand, defScope s_l_hand, [], []⟩
def h_l_take : He.DefD := ⟨("_law_take", none), "_law_take", "_law_take", defArgs s_l_take, defBody s_l_take, defScope s_l_take, [], []⟩
def h_l_of : He.DefD := ⟨("_law_of", none), "_law_of", "_law_of", defArgs s_l_of, defBody s_l_of, defScope s_l_of, [], []⟩
def h_l_rows : He.DefD := ⟨("_law_rows", none), "_law_rows", "_law_rows", defArgs s_l_rows, defBody s_l_rows, defScope s_l_rows, [], []⟩
def h_l_made : He.DefD := ⟨("_law_made", none), "_law_made", "_law_made", defArgs s_l_made, defBody s_l_made, defScope s_l_made, [], []⟩
def h_l_longest : He.DefD := ⟨("_law_longest", none), "_law_longest", "_law_longest", defArgs s_l_longest, defBody s_l_longest, defScope s_l_longest, [], []⟩
def h_l_is_whole : He.DefD := ⟨("_law_is_whole", none), "_law_is_whole", "_law_is_whole", defArgs s_l_is_whole, defBody s_l_is_whole, defScope s_l_is_whole, [], []⟩
def h_l_told : He.DefD := ⟨("_law_told", none), "_law_told", "_law_told", defArgs s_l_told, defBody s_l_told, defScope s_l_told, [], []⟩
def h_law : He.DefD := ⟨("law", none), "law", "law", defArgs s_law, defBody s_law, defScope s_law, [], []⟩
def fn : List He.DefD := [h_is_whole, h_is_tuple_of, h_are_wholes, h_all_below, h_are_rising, h_common_part, h_Measure_init, h_Measure_is_below, h_slip_of, h_rises_without, h_singles_of, h_heights_of, h_kept_by, h_rise_of, h_is_kept, h_rises_in_one, h_is_numbering, h_shows_rise, h_l_hand, h_l_take, h_l_of, h_l_rows, h_l_made, h_l_longest, h_l_is_whole, h_l_told, h_law]
def fa : List He.Fa := [.glo "is_whole", .glo "is_tuple_of", .glo "are_wholes", .glo "all_below", .glo "are_rising", .glo "common_part", .glo "slip_of", .glo "rises_without", .glo "singles_of", .glo "heights_of", .glo "kept_by", .glo "rise_of", .glo "is_kept", .glo "rises_in_one", .glo "is_numbering", .glo "shows_rise", .glo "_law_hand", .glo "_law_take", .glo "_law_of", .glo "_law_rows", .glo "_law_made", .glo "_law_longest", .glo "_law_is_whole", .glo "_law_told", .glo "law", .glo "Measure", .free "abs", .free "all", .free "any", .free "bool", .free "enumerate", .free "int", .free "isinstance", .free "len", .free "max", .free "min", .free "range", .free "reversed", .free "tuple", .free "zip", .cls "Measure", .noat "Measure" "top", .noat "Measure" "bottom", .meth "Measure" "is_below", .mkr "Measure"]
abbrev R : PySem.W.OpenRow := PySem.W.OpenLaw.row PySem.Challenge.rw_sizeladders_k23_whole_as_many_as_can_ris
def ex : List (PySem.W.Frag → Bool) := [isCB "Measure", kitF (.inl "Measure") (.inl "Measure") true]
abbrev hk : PySem.W.Hook := hookM 5 fa fn ex
def ob (s : PySem.W.SharedT) : He.AlD × Bool := obsM 5 fa fn ex (HandSHeadRun.getT s)
theorem ob_eq (s : PySem.W.SharedT) : ob s = hk.obs s.abs := obsM_eq (HandSHeadRun.getT_eq s)
theorem run (w : World) : HandSHeadRun.RunEq R (PySem.W.view R.prog [36]) hk ob 20000 [("_wall" : PySem.Str), ("is_whole" : PySem.Str), ("is_tuple_of" : PySem.Str), ("are_wholes" : PySem.Str), ("all_below" : PySem.Str), ("are_rising" : PySem.Str), ("LadderError" : PySem.Str), ("NoMeasure" : PySem.Str), ("NoBottom" : PySem.Str), ("common_part" : PySem.Str), ("written" : PySem.Str), ("Measure" : PySem.Str), ("slip_of" : PySem.Str), ("rises_without" : PySem.Str), ("singles_of" : PySem.Str), ("heights_of" : PySem.Str), ("kept_by" : PySem.Str), ("rise_of" : PySem.Str), ("is_kept" : PySem.Str), ("rises_in_one" : PySem.Str), ("is_numbering" : PySem.Str), ("shows_rise" : PySem.Str), ("_law_hand" : PySem.Str), ("_law_take" : PySem.Str), ("_law_of" : PySem.Str), ("_law_rows" : PySem.Str), ("_law_made" : PySem.Str), ("_law_longest" : PySem.Str), ("_law_is_whole" : PySem.Str), ("_law_told" : PySem.Str)] w := by
  intro os
  kernel_rfl

theorem facts {K : PySem.W.Frag} {h : Heap} {mg : Str → Option Value} (X : K.In h) (G : h.Ns mainGlobals mg) (c : He.SaysD fa fn K) (cx : (ex.all fun f => f K) = true) : ∃ φ : Fds, Txt K mg φ := by
  obtain ⟨d0, F0⟩ := c.def_ 0 (d := h_is_whole) rfl
  obtain ⟨d1, F1⟩ := c.def_ 1 (d := h_is_tuple_of) rfl
  obtain ⟨d2, F2⟩ := c.def_ 2 (d := h_are_wholes) rfl
  obtain ⟨d3, F3⟩ := c.def_ 3 (d := h_all_below) rfl
  obtain ⟨d4, F4⟩ := c.def_ 4 (d := h_are_rising) rfl
  obtain ⟨d5, F5⟩ := c.def_ 5 (d := h_common_part) rfl
  obtain ⟨d6, F6⟩ := c.def_ 6 (d := h_Measure_init) rfl
  obtain ⟨d7, F7⟩ := c.def_ 7 (d := h_Measure_is_below) rfl
  obtain ⟨d8, F8⟩ := c.def_ 8 (d := h_slip_of) rfl
  obtain ⟨d9, F9⟩ := c.def_ 9 (d := h_rises_without) rfl
  obtain ⟨d10, F10⟩ := c.def_ 10 (d := h_singles_of) rfl
  obtain ⟨d11, F11⟩ := c.def_ 11 (d := h_heights_of) rfl
  obtain ⟨d12, F12⟩ := c.def_ 12 (d := h_kept_by) rfl
  obtain ⟨d13, F13⟩ := c.def_ 13 (d := h_rise_of) rfl
  obtain ⟨d14, F14⟩ := c.def_ 14 (d := h_is_kept) rfl
  obtain ⟨d15, F15⟩ := c.def_ 15 (d := h_rises_in_one) rfl
  obtain ⟨d16, F16⟩ := c.def_ 16 (d := h_is_numbering) rfl
  obtain ⟨d17, F17⟩ := c.def_ 17 (d := h_shows_rise) rfl
  obtain ⟨d18, F18⟩ := c.def_ 18 (d := h_l_hand) rfl
  obtain ⟨d19, F19⟩ := c.def_ 19 (d := h_l_take) rfl
  obtain ⟨d20, F20⟩ := c.def_ 20 (d := h_l_of) rfl
  obtain ⟨d21, F21⟩ := c.def_ 21 (d := h_l_rows) rfl
  obtain ⟨d22, F22⟩ := c.def_ 22 (d := h_l_made) rfl
  obtain ⟨d23, F23⟩ := c.def_ 23 (d := h_l_longest) rfl
  obtain ⟨d24, F24⟩ := c.def_ 24 (d := h_l_is_whole) rfl
  obtain ⟨d25, F25⟩ := c.def_ 25 (d := h_l_told) rfl
  obtain ⟨d26, F26⟩ := c.def_ 26 (d := h_law) rfl
  refine ⟨⟨d0, d1, d2, d3, d4, d5, d6, d7, d8, d9, d10, d11, d12, d13, d14, d15, d16, d17, d18, d19, d20, d21, d22, d23, d24, d25, d26⟩, ?_⟩
  exact {
    g_is_whole := He.glo_ok X G (c.fact 0 (f := .glo "is_whole") rfl),
    g_is_tuple_of := He.glo_ok X G (c.fact 1 (f := .glo "is_tuple_of") rfl),
    g_are_wholes := He.glo_ok X G (c.fact 2 (f := .glo "are_wholes") rfl),
    g_all_below := He.glo_ok X G (c.fact 3 (f := .glo "all_below") rfl),
    g_are_rising := He.glo_ok X G (c.fact 4 (f := .glo "are_rising") rfl),
    g_common_part := He.glo_ok X G (c.fact 5 (f := .glo "common_part") rfl),
    g_slip_of := He.glo_ok X G (c.fact 6 (f := .glo "slip_of") rfl),
    g_rises_without := He.glo_ok X G (c.fact 7 (f := .glo "rises_without") rfl),
    g_singles_of := He.glo_ok X G (c.fact 8 (f := .glo "singles_of") rfl),
    g_heights_of := He.glo_ok X G (c.fact 9 (f := .glo "heights_of") rfl),
    g_kept_by := He.glo_ok X G (c.fact 10 (f := .glo "kept_by") rfl),
    g_rise_of := He.glo_ok X G (c.fact 11 (f := .glo "rise_of") rfl),
    g_is_kept := He.glo_ok X G (c.fact 12 (f := .glo "is_kept") rfl),
    g_rises_in_one := He.glo_ok X G (c.fact 13 (f := .glo "rises_in_one") rfl),
    g_is_numbering := He.glo_ok X G (c.fact 14 (f := .glo "is_numbering") rfl),
    g_shows_rise := He.glo_ok X G (c.fact 15 (f := .glo "shows_rise") rfl),
    g_l_hand := He.glo_ok X G (c.fact 16 (f := .glo "_law_hand") rfl),
    g_l_take := He.glo_ok X G (c.fact 17 (f := .glo "_law_take") rfl),
    g_l_of := He.glo_ok X G (c.fact 18 (f := .glo "_law_of") rfl),
    g_l_rows := He.glo_ok X G (c.fact 19 (f := .glo "_law_rows") rfl),
    g_l_made := He.glo_ok X G (c.fact 20 (f := .glo "_law_made") rfl),
    g_l_longest := He.glo_ok X G (c.fact 21 (f := .glo "_law_longest") rfl),
    g_l_is_whole := He.glo_ok X G (c.fact 22 (f := .glo "_law_is_whole") rfl),
    g_l_told := He.glo_ok X G (c.fact 23 (f := .glo "_law_told") rfl),
    g_law := He.glo_ok X G (c.fact 24 (f := .glo "law") rfl),
    g_Measure := He.glo_ok X G (c.fact 25 (f := .glo "Measure") rfl),
    z_abs := He.free_ok X G (c.fact 26 (f := .free "abs") rfl),
    z_all := He.free_ok X G (c.fact 27 (f := .free "all") rfl),
    z_any := He.free_ok X G (c.fact 28 (f := .free "any") rfl),
    z_bool := He.free_ok X G (c.fact 29 (f := .free "bool") rfl),
    z_enumerate := He.free_ok X G (c.fact 30 (f := .free "enumerate") rfl),
    z_int := He.free_ok X G (c.fact 31 (f := .free "int") rfl),
    z_isinstance := He.free_ok X G (c.fact 32 (f := .free "isinstance") rfl),
    z_len := He.free_ok X G (c.fact 33 (f := .free "len") rfl),
    z_max := He.free_ok X G (c.fact 34 (f := .free "max") rfl),
    z_min := He.free_ok X G (c.fact 35 (f := .free "min") rfl),
    z_range := He.free_ok X G (c.fact 36 (f := .free "range") rfl),
    z_reversed := He.free_ok X G (c.fact 37 (f := .free "reversed") rfl),
    z_tuple := He.free_ok X G (c.fact 38 (f := .free "tuple") rfl),
    z_zip := He.free_ok X G (c.fact 39 (f := .free "zip") rfl),
    cl_Measure := He.cls_ok (c.fact 40 (f := .cls "Measure") rfl),
    na_Measure_top := He.noat_ok (c.fact 41 (f := .noat "Measure" "top") rfl),
    na_Measure_bottom := He.noat_ok (c.fact 42 (f := .noat "Measure" "bottom") rfl),
    me_Measure_is_below := He.meth_ok (c.fact 43 (f := .meth "Measure" "is_below") rfl),
    mk_Measure := He.mkr_ok (c.fact 44 (f := .mkr "Measure") rfl),
    ii_Measure := isC_ok (ex_at cx 0 (f := isCB "Measure") rfl),
    k_Measure_Measure := kitF_ok (ex_at cx 1 (f := kitF (.inl "Measure") (.inl "Measure") true) rfl),
    f_is_whole := F0,
    f_is_tuple_of := F1,
    f_are_wholes := F2,
    f_all_below := F3,
    f_are_rising := F4,
    f_common_part := F5,
    f_Measure_init := F6,
    f_Measure_is_below := F7,
    f_slip_of := F8,
    f_rises_without := F9,
    f_singles_of := F10,
    f_heights_of := F11,
    f_kept_by := F12,
    f_rise_of := F13,
    f_is_kept := F14,
    f_rises_in_one := F15,
    f_is_numbering := F16,
    f_shows_rise := F17,
    f_l_hand := F18,
    f_l_take := F19,
    f_l_of := F20,
    f_l_rows := F21,
    f_l_made := F22,
    f_l_longest := F23,
    f_l_is_whole := F24,
    f_l_told := F25,
    f_law := F26 }
def sp_law (K : PySem.W.Frag) : Sp := fun vs H Q _ => ∃ (a : Addr) (ns : List Int), vs = [.ref a] ∧ SqL K H a (ns.map V.int) ∧ ns.length ≤ 63 ∧ ∀ H', Q (.bl true) H'

end K23
open PySem PySem.W PySem.Calls PyProof.Rows in
set_option maxRecDepth 100000 in
set_option maxHeartbeats 0 in
theorem K23.pre (hl : ∀ {P : Program} {w : World} {K : PySem.W.Frag} {mg : Str → Option Value} {base : Heap} {φ : K23.Fds} (T : K23.Txt K mg φ), L2.FnOk P w K mg base L2.CX0 6 (He.fAd K ("law", none)) φ.law K23.p_law (K23.sp_law K)) : PySem.Challenge.rw_sizeladders_k23_whole_as_many_as_can_ris.Holds := by
  w_on; o_law
  refine HandSHeadRun.head_any (r := OpenLaw.row PySem.Challenge.rw_sizeladders_k23_whole_as_many_as_can_ris) (q := view (OpenLaw.row PySem.Challenge.rw_sizeladders_k23_whole_as_many_as_can_ris).prog [36]) (H := K23.hk) (ob := K23.ob) (M := 20000) (loose := [("_wall" : PySem.Str), ("is_whole" : PySem.Str), ("is_tuple_of" : PySem.Str), ("are_wholes" : PySem.Str), ("all_below" : PySem.Str), ("are_rising" : PySem.Str), ("LadderError" : PySem.Str), ("NoMeasure" : PySem.Str), ("NoBottom" : PySem.Str), ("common_part" : PySem.Str), ("written" : PySem.Str), ("Measure" : PySem.Str), ("slip_of" : PySem.Str), ("rises_without" : PySem.Str), ("singles_of" : PySem.Str), ("heights_of" : PySem.Str), ("kept_by" : PySem.Str), ("rise_of" : PySem.Str), ("is_kept" : PySem.Str), ("rises_in_one" : PySem.Str), ("is_numbering" : PySem.Str), ("shows_rise" : PySem.Str), ("_law_hand" : PySem.Str), ("_law_take" : PySem.Str), ("_law_of" : PySem.Str), ("_law_rows" : PySem.Str), ("_law_made" : PySem.Str), ("_law_longest" : PySem.Str), ("_law_is_whole" : PySem.Str), ("_law_told" : PySem.Str)]) (d := HandSHeadRun.topDef (OpenLaw.row PySem.Challenge.rw_sizeladders_k23_whole_as_many_as_can_ris).prog 36) (kwd := []) K23.ob_eq
    (by kernel_rfl) (fun s => by kernel_rfl) K23.run (by kernel_rfl) (by kernel_rfl) (by kernel_rfl) (by rfl) (by first | assumption | decide +kernel) (by decide +kernel) ⟨rfl, rfl, rfl, rfl, rfl, by decide +kernel⟩ ?hw ?hc
  case hw => w_witness2
  case hc =>
    refine L2.walk_ofE (l := PySem.Challenge.rw_sizeladders_k23_whole_as_many_as_can_ris) (n := 63) (k := 6) (x := "_law_script") (CX := L2.CX0) rfl (by decide) (by kernel_rfl) ⟨rfl, by decide, by decide⟩ ?F (fun _ _ _ _ z => z)
    intro w mg fa h Y G hmg0
    obtain ⟨K, KX, c, cx⟩ := Y
    have hmg : mg ("law" : PySem.Str) = some (.ref fa) := by
      have e : (HandSHeadRun.topDef (OpenLaw.row PySem.Challenge.rw_sizeladders_k23_whole_as_many_as_can_ris).prog 36).name = ("law" : PySem.Str) := by kernel_rfl
      rw [← e]
      exact hmg0
    obtain ⟨φ, T⟩ := K23.facts KX G c cx
    have e := hmg.symm.trans T.g_law
    cases e
    have b := L2.FunD.bindsA (ps := K23.p_law) T.f_law fun _ _ _ _ _ _ us hl => match us, hl with | [_], _ => rfl
    exact ⟨K, φ.law, K23.sp_law K, KX, fun s v => b s [v] rfl, fun H a ns hl _ hS => ⟨a, ns, rfl, hS, hl, fun _ => rfl⟩, fun base _ _ => hl T⟩

namespace My
open PySem PySem.Spec PyProof.Rows L2
/-! ### fractions as pairs, stretches as ends -/
abbrev Q2 := Int × Int
def ltq (a b : Q2) : Bool := decide (a.1 * b.2 < b.1 * a.2)
def eqq (a b : Q2) : Bool := decide (a.1 * b.2 = b.1 * a.2)
def someB : Option Q2 → Option Q2 → Bool → Bool → Bool
  | some a, some b, ia, ib => ltq a b || (eqq a b && ia && ib)
  | _, _, _, _ => true
def Re (a b : Q2) : Prop := 0 < a.2 ∧ 0 < b.2 ∧ a.1 * b.2 = b.1 * a.2
def ReO : Option Q2 → Option Q2 → Prop
  | none, none => True
  | some a, some b => Re a b
  | _, _ => False
theorem Re.symm {a b : Q2} (h : Re a b) : Re b a := ⟨h.2.1, h.1, h.2.2.symm⟩
theorem Re.refl {a : Q2} (h : 0 < a.2) : Re a a := ⟨h, h, rfl⟩
theorem ReO.symm : ∀ {a b : Option Q2}, ReO a b → ReO b a
  | none, none, _ => trivial
  | some _, some _, h => Re.symm h
  | none, some _, h => h.elim
  | some _, none, h => h.elim
theorem pos_key {a b c d : Q2} (h : Re a c) (g : Re b d) : (a.1 * b.2) * (c.2 * d.2) = (c.1 * d.2) * (a.2 * b.2) := by
  have := h.2.2
  grind
theorem pos_key' {a b c d : Q2} (h : Re a c) (g : Re b d) : (b.1 * a.2) * (c.2 * d.2) = (d.1 * c.2) * (a.2 * b.2) := by
  have := g.2.2
  grind
theorem ltq_congr {a b c d : Q2} (h : Re a c) (g : Re b d) : ltq a b = ltq c d := by
  unfold ltq
  have k1 := pos_key h g
  have k2 := pos_key' h g
  have p1 : 0 < c.2 * d.2 := Int.mul_pos h.2.1 g.2.1
  have p2 : 0 < a.2 * b.2 := Int.mul_pos h.1 g.1
  refine decide_eq_decide.mpr ⟨fun x => ?_, fun x => ?_⟩
  · have := Int.mul_lt_mul_of_pos_right x p1
    rw [k1, k2] at this
    exact Int.lt_of_mul_lt_mul_right this (Int.le_of_lt p2)
  · have := Int.mul_lt_mul_of_pos_right x p2
    rw [← k1, ← k2] at this
    exact Int.lt_of_mul_lt_mul_right this (Int.le_of_lt p1)
theorem eqq_congr {a b c d : Q2} (h : Re a c) (g : Re b d) : eqq a b = eqq c d := by
  unfold eqq
  have k1 := pos_key h g
  have k2 := pos_key' h g
  have p1 : 0 < c.2 * d.2 := Int.mul_pos h.2.1 g.2.1
  have p2 : 0 < a.2 * b.2 := Int.mul_pos h.1 g.1
  refine decide_eq_decide.mpr ⟨fun x => ?_, fun x => ?_⟩
  · rw [x] at k1
    rw [k1] at k2
    exact Int.eq_of_mul_eq_mul_right (by omega) k2
  · rw [x] at k1
    rw [← k2] at k1
    exact Int.eq_of_mul_eq_mul_right (by omega) k1
theorem someB_congr : ∀ {a b c d : Option Q2} {i j : Bool}, ReO a c → ReO b d → someB a b i j = someB c d i j
  | some a, some b, some c, some d, i, j, h, g => by
    show (ltq a b || (eqq a b && i && j)) = (ltq c d || (eqq c d && i && j))
    rw [ltq_congr h g, eqq_congr h g]
  | none, some _, none, some _, _, _, _, _ => rfl
  | none, none, none, none, _, _, _, _ => rfl
  | some _, none, some _, none, _, _, _, _ => rfl
  | some _, _, none, _, _, _, h, _ => h.elim
  | none, _, some _, _, _, _, h, _ => h.elim
  | some _, some _, some _, none, _, _, _, g => g.elim
  | some _, none, some _, some _, _, _, _, g => g.elim
  | none, some _, none, none, _, _, _, g => g.elim
  | none, none, none, some _, _, _, _, g => g.elim
/-- in lowest terms, its numbers of less than four thousand bits -/
structure Low (a : Q2) : Prop where
  pos : 0 < a.2
  co : Int.gcd a.1 a.2 = 1
  s1 : Sz 4000 a.1
  s2 : Sz 4000 a.2
def LowO : Option Q2 → Prop
  | none => True
  | some a => Low a
theorem dvd_co {a b c : Int} (h : a ∣ b * c) (g : Int.gcd a b = 1) : a ∣ c := by
  have h1 : a.natAbs ∣ b.natAbs * c.natAbs := by rw [← Int.natAbs_mul]; exact Int.natAbs_dvd_natAbs.mpr h
  exact Int.natAbs_dvd_natAbs.mp (Nat.Coprime.dvd_of_dvd_mul_left g h1)
/-! ### their values -/
/-- None, or the tuple of an end's two numbers -/
def EndV (k : Nat) (H : Hp) (v : V) : Option Q2 → Prop
  | none => v = .non
  | some a => ∃ p, v = .ref p ∧ H p = some (.tup [.int a.1, .int a.2]) ∧ 0 < a.2 ∧ Sz k a.1 ∧ Sz k a.2
theorem EndV.mono {k j : Nat} (l : k ≤ j) {H : Hp} {v : V} : ∀ {e : Option Q2}, EndV k H v e → EndV j H v e
  | none, h => h
  | some _, ⟨p, h1, h2, h3, h4, h5⟩ => ⟨p, h1, h2, h3, h4.mono l, h5.mono l⟩
def MsV (C : Addr) (H : Hp) (v : V) : Option Q2 → Prop
  | none => v = .non
  | some a => ∃ p, v = .ref p ∧ MAt C H p a.1 a.2
theorem EndV.same {k : Nat} {H H' : Hp} {v : V} : ∀ {e : Option Q2}, EndV k H v e → Same H H' → EndV k H' v e
  | none, h, _ => h
  | some _, ⟨p, h1, h2, h3⟩, s => ⟨p, h1, s _ _ h2, h3⟩
theorem EndV.kp {j : Nat} {H H' : Hp} {h : Addr} {n : Nat} {v : V} : ∀ {e : Option Q2}, EndV j H v e → HandAt H h n → Kp h H H' → EndV j H' v e
  | none, h, _, _ => h
  | some _, ⟨p, h1, h2, h3⟩, hh, k => ⟨p, h1, k.get hh h2 rfl, h3⟩
theorem MsV.same {C : Addr} {H H' : Hp} {v : V} : ∀ {e : Option Q2}, MsV C H v e → Same H H' → MsV C H' v e
  | none, h, _ => h
  | some _, ⟨p, h1, h2⟩, s => ⟨p, h1, h2.same s⟩
theorem MsV.kp {C : Addr} {H H' : Hp} {h : Addr} {n : Nat} {v : V} : ∀ {e : Option Q2}, MsV C H v e → HandAt H h n → Kp h H H' → MsV C H' v e
  | none, h, _, _ => h
  | some _, ⟨p, h1, h2⟩, hh, k => ⟨p, h1, h2.kp hh k⟩
/-! ### a Stretch -/
def sf (l h : V) (li hi : Bool) : List (Str × V) := [("low", l), ("high", h), ("low_in", .bl li), ("high_in", .bl hi)]
theorem sf_put (l h : V) (li hi : Bool) : putF "high_in" (.bl hi) (putF "low_in" (.bl li) (putF "high" h (putF "low" l []))) = sf l h li hi := by
  have e1 : putF ("high" : Str) h (putF ("low" : Str) l []) = ([("low", l), ("high", h)] : List (Str × V)) := by
    show (if ("low" : Str) = "high" then [(("low" : Str), h)] else (("low" : Str), l) :: putF "high" h []) = _
    rw [if_neg (by decide +kernel)] <;> rfl
  have e2 : putF ("low_in" : Str) (.bl li) [("low", l), ("high", h)] = ([("low", l), ("high", h), ("low_in", .bl li)] : List (Str × V)) := by
    show (if ("low" : Str) = "low_in" then _ else (("low" : Str), l) :: (if ("high" : Str) = "low_in" then _ else (("high" : Str), h) :: putF "low_in" (V.bl li) [])) = _
    rw [if_neg (by decide +kernel), if_neg (by decide +kernel)] <;> rfl
  have e3 : putF ("high_in" : Str) (.bl hi) [("low", l), ("high", h), ("low_in", .bl li)] = sf l h li hi := by
    show (if ("low" : Str) = "high_in" then _ else (("low" : Str), l) :: (if ("high" : Str) = "high_in" then _ else (("high" : Str), h) :: (if ("low_in" : Str) = "high_in" then _ else (("low_in" : Str), V.bl li) :: putF "high_in" (V.bl hi) []))) = _
    rw [if_neg (by decide +kernel), if_neg (by decide +kernel), if_neg (by decide +kernel)] <;> rfl
  rw [e1, e2, e3]
theorem sf_low (l h : V) (li hi : Bool) : (sf l h li hi).lookup ("low" : Str) = some l := by
  rw [← sf_put, lookup_putF, if_neg (by decide +kernel), lookup_putF, if_neg (by decide +kernel), lookup_putF, if_neg (by decide +kernel), lookup_putF, if_pos rfl]
theorem sf_high (l h : V) (li hi : Bool) : (sf l h li hi).lookup ("high" : Str) = some h := by
  rw [← sf_put, lookup_putF, if_neg (by decide +kernel), lookup_putF, if_neg (by decide +kernel), lookup_putF, if_pos rfl]
theorem sf_low_in (l h : V) (li hi : Bool) : (sf l h li hi).lookup ("low_in" : Str) = some (.bl li) := by
  rw [← sf_put, lookup_putF, if_neg (by decide +kernel), lookup_putF, if_pos rfl]
theorem sf_high_in (l h : V) (li hi : Bool) : (sf l h li hi).lookup ("high_in" : Str) = some (.bl hi) := by
  rw [← sf_put, lookup_putF, if_pos rfl]
theorem sf_no (l h : V) (li hi : Bool) {m : Str} (h1 : ¬ m = "low") (h2 : ¬ m = "high") (h3 : ¬ m = "low_in") (h4 : ¬ m = "high_in") : (sf l h li hi).lookup m = none := by
  rw [← sf_put, lookup_putF, if_neg h4, lookup_putF, if_neg h3, lookup_putF, if_neg h2, lookup_putF, if_neg h1] <;> rfl
/-- a Stretch at p: its ends, whether they are in -/
structure StAt (CM CS : Addr) (H : Hp) (p : Addr) (lo hi : Option Q2) (li hj : Bool) : Prop where
  ob : ∃ dx l h, H p = some (.ins CS dx (sf l h li hj)) ∧ MsV CM H l lo ∧ MsV CM H h hi
  l1 : LowO lo
  l2 : LowO hi
  n1 : lo = none → li = false
  n2 : hi = none → hj = false
theorem StAt.same {CM CS p : Addr} {H H' : Hp} {lo hi : Option Q2} {li hj : Bool} (a : StAt CM CS H p lo hi li hj) (s : Same H H') : StAt CM CS H' p lo hi li hj := by
  obtain ⟨⟨dx, l, h, h1, h2, h3⟩, a1, a2, a3, a4⟩ := a
  exact ⟨⟨dx, l, h, s _ _ h1, h2.same s, h3.same s⟩, a1, a2, a3, a4⟩
theorem StAt.kp {CM CS p h : Addr} {H H' : Hp} {n : Nat} {lo hi : Option Q2} {li hj : Bool} (a : StAt CM CS H p lo hi li hj) (hh : HandAt H h n) (s : Kp h H H') : StAt CM CS H' p lo hi li hj := by
  obtain ⟨⟨dx, l, h, h1, h2, h3⟩, a1, a2, a3, a4⟩ := a
  exact ⟨⟨dx, l, h, s.get hh h1 rfl, h2.kp hh s, h3.kp hh s⟩, a1, a2, a3, a4⟩
/-! ### promises -/
/-- the tuple of two ends and two truths, between which something is -/
structure EndsAt (H : Hp) (p : Addr) (ea eb : Option Q2) (ia ib : Bool) : Prop where
  ob : ∃ va vb, H p = some (.tup [va, vb, .bl ia, .bl ib]) ∧ EndV 140 H va ea ∧ EndV 140 H vb eb
  so : someB ea eb ia ib = true
theorem EndsAt.same {H H' : Hp} {p : Addr} {ea eb : Option Q2} {ia ib : Bool} (a : EndsAt H p ea eb ia ib) (s : Same H H') : EndsAt H' p ea eb ia ib := by
  obtain ⟨⟨va, vb, h1, h2, h3⟩, h4⟩ := a
  exact ⟨⟨va, vb, s _ _ h1, h2.same s, h3.same s⟩, h4⟩
theorem EndsAt.kp {H H' : Hp} {p h : Addr} {n : Nat} {ea eb : Option Q2} {ia ib : Bool} (a : EndsAt H p ea eb ia ib) (hh : HandAt H h n) (s : Kp h H H') : EndsAt H' p ea eb ia ib := by
  obtain ⟨⟨va, vb, h1, h2, h3⟩, h4⟩ := a
  exact ⟨⟨va, vb, s.get hh h1 rfl, h2.kp hh s, h3.kp hh s⟩, h4⟩
theorem MsV.put {CM p C dx : Addr} {H : Hp} {v : V} {o : HO} (hp : H p = some (.ins C dx [])) : ∀ {m : Option Q2}, MsV CM H v m → MsV CM (upd H p o) v m
  | none, h => h
  | some _, ⟨q, h1, ⟨dy, h2⟩⟩ => ⟨q, h1, ⟨dy, by
      rw [upd_ne (ne_of h2 hp (by intro e; injection e with _ _ e; cases e))]; exact h2⟩⟩
theorem ReO.isS : ∀ {a b : Option Q2}, ReO a b → a.isSome = b.isSome
  | none, none, _ => rfl
  | some _, some _, _ => rfl
  | none, some _, h => h.elim
  | some _, none, h => h.elim
/-! ### what two stretches have in common -/
def cutLo : Option Q2 → Bool → Option Q2 → Bool → Option Q2 × Bool
  | none, _, n, j => (n, j)
  | some a, i, none, _ => (some a, i)
  | some a, i, some b, j => if ltq a b then (some b, j) else if eqq a b then (some a, i && j) else (some a, i)
def cutHi : Option Q2 → Bool → Option Q2 → Bool → Option Q2 × Bool
  | none, _, n, j => (n, j)
  | some a, i, none, _ => (some a, i)
  | some a, i, some b, j => if ltq b a then (some b, j) else if eqq a b then (some a, i && j) else (some a, i)
/-- the same end, and in or not alike where there is one -/
def Alike (x y : Option Q2 × Bool) : Prop := ReO x.1 y.1 ∧ (x.1.isSome = true → x.2 = y.2)
theorem Alike.someB {x y z w : Option Q2 × Bool} (h : Alike x y) (g : Alike z w) : My.someB x.1 z.1 x.2 z.2 = My.someB y.1 w.1 y.2 w.2 := by
  obtain ⟨x, i⟩ := x
  obtain ⟨y, j⟩ := y
  obtain ⟨z, k⟩ := z
  obtain ⟨w, l⟩ := w
  obtain ⟨h1, h2⟩ := h
  obtain ⟨g1, g2⟩ := g
  rw [someB_congr h1 g1]
  cases x with
  | none => cases y with
    | none => rfl
    | some _ => exact h1.elim
  | some a => cases z with
    | none => cases w with
      | none => cases y <;> rfl
      | some _ => exact g1.elim
    | some b =>
      have e1 : i = j := h2 rfl
      have e2 : k = l := g2 rfl
      rw [e1, e2]
/-- a Stretch, or None where nothing is between -/
def CutV (CM CS : Addr) (H : Hp) (v : V) (lo hi : Option Q2 × Bool) : Prop :=
  (someB lo.1 hi.1 lo.2 hi.2 = true ∧ ∃ r, v = .ref r ∧ StAt CM CS H r lo.1 hi.1 (lo.2 && lo.1.isSome) (hi.2 && hi.1.isSome)) ∨ (someB lo.1 hi.1 lo.2 hi.2 = false ∧ v = .non)
/-- the law's own: a tuple of four, or None -/
def DueV (H : Hp) (v : V) (lo hi : Option Q2 × Bool) : Prop :=
  (someB lo.1 hi.1 lo.2 hi.2 = true ∧ ∃ r, v = .ref r ∧ EndsAt H r lo.1 hi.1 lo.2 hi.2) ∨ (someB lo.1 hi.1 lo.2 hi.2 = false ∧ v = .non)
theorem DueV.same {H H' : Hp} {v : V} {lo hi : Option Q2 × Bool} (h : DueV H v lo hi) (s : Same H H') : DueV H' v lo hi := by
  rcases h with ⟨h1, r, h2, h3⟩ | h
  · exact .inl ⟨h1, r, h2, h3.same s⟩
  · exact .inr h
theorem CutV.same {CM CS : Addr} {H H' : Hp} {v : V} {lo hi : Option Q2 × Bool} (h : CutV CM CS H v lo hi) (s : Same H H') : CutV CM CS H' v lo hi := by
  rcases h with ⟨h1, r, h2, h3⟩ | h
  · exact .inl ⟨h1, r, h2, h3.same s⟩
  · exact .inr h
def sp_kept (CM : Addr) : Sp := fun vs H Q _ => ∃ (v w : V) (e m : Option Q2), vs = [v, w] ∧ EndV 140 H v e ∧ MsV CM H w m ∧ ReO m e ∧ LowO m ∧ ∀ H', Same H H' → Q (.bl true) H'
/-- what is told is what is due -/
def Match (CM CS : Addr) (H : Hp) (found due : V) : Prop :=
  (found = .non ∧ due = .non) ∨ ∃ (r d : Addr) (lo hi ea eb : Option Q2) (ia ib : Bool), found = .ref r ∧ due = .ref d ∧ EndsAt H d ea eb ia ib ∧ StAt CM CS H r lo hi (ia && ea.isSome) (ib && eb.isSome) ∧ ReO lo ea ∧ ReO hi eb
theorem Match.same {CM CS : Addr} {H H' : Hp} {f d : V} (h : Match CM CS H f d) (s : Same H H') : Match CM CS H' f d := by
  rcases h with h | ⟨r, d, lo, hi, ea, eb, ia, ib, h1, h2, h3, h4, h5, h6⟩
  · exact .inl h
  · exact .inr ⟨r, d, lo, hi, ea, eb, ia, ib, h1, h2, h3.same s, h4.same s, h5, h6⟩
theorem Re.trans {a b c : Q2} (h : Re a b) (g : Re b c) : Re a c := by
  obtain ⟨h1, h2, h3⟩ := h
  obtain ⟨g1, g2, g3⟩ := g
  refine ⟨h1, g2, Int.eq_of_mul_eq_mul_right (show b.2 ≠ 0 by omega) ?_⟩
  grind
theorem ReO.trans : ∀ {a b c : Option Q2}, ReO a b → ReO b c → ReO a c
  | none, none, none, _, _ => trivial
  | some _, some _, some _, h, g => Re.trans h g
  | none, some _, _, h, _ => h.elim
  | some _, none, _, h, _ => h.elim
  | none, none, some _, _, g => g.elim
  | some _, some _, none, _, g => g.elim
def PosO : Option Q2 → Prop
  | none => True
  | some a => 0 < a.2
theorem ReO.refl : ∀ {a : Option Q2}, PosO a → ReO a a
  | none, _ => trivial
  | some _, h => Re.refl h
theorem Alike.trans {x y z : Option Q2 × Bool} (h : Alike x y) (g : Alike y z) : Alike x z := ⟨h.1.trans g.1, fun e => (h.2 e).trans (g.2 (by rw [← h.1.isS]; exact e))⟩
theorem StAt.raw {CM CS p : Addr} {H : Hp} {lo hi : Option Q2} {li hj : Bool} (a : StAt CM CS H p lo hi li hj) {m : Str} (h1 : ¬ m = "low") (h2 : ¬ m = "high") (h3 : ¬ m = "low_in") (h4 : ¬ m = "high_in") : ∃ dx fs, H p = some (.ins CS dx fs) ∧ fs.lookup m = none := by
  obtain ⟨⟨dx, l, h, e, _⟩, _⟩ := a
  exact ⟨dx, _, e, sf_no _ _ _ _ h1 h2 h3 h4⟩
theorem EndsAt.due {H : Hp} {p : Addr} {ea eb : Option Q2} {ia ib : Bool} (a : EndsAt H p ea eb ia ib) : DueV H (.ref p) (ea, ia) (eb, ib) := .inl ⟨a.so, p, rfl, a⟩
/-! ### what a stretch holds -/
def loIn : Option Q2 → Bool → Q2 → Bool
  | none, _, _ => true
  | some a, i, x => ltq a x || (i && eqq a x)
def hiIn : Option Q2 → Bool → Q2 → Bool
  | none, _, _ => true
  | some b, j, x => ltq x b || (j && eqq x b)
/-! ### sums, once more, by the size of the new bottom -/
def sp_bin2 (C : Addr) (f g : Int → Int → Int → Int → Int) : Sp := fun vs H Q _ => ∃ (p q : Addr) (t u t' u' : Int), vs = [.ref p, .ref q] ∧ MAt C H p t u ∧ MAt C H q t' u' ∧ 0 < u ∧ 0 < u' ∧ Sz 100000 t ∧ Sz 100000 u ∧ Sz 100000 t' ∧ Sz 100000 u' ∧ Sz 9000 (u * u') ∧
  ∀ (r : Addr) (t2 u2 : Int) (H' : Hp), H r = none → Same H H' → MAt C H' r t2 u2 → Fr t2 u2 (f t u t' u') (g t u t' u') → Q (.ref r) H'
/-- a Measure that the stretch holds -/
structure Held (CM : Addr) (H : Hp) (r : Addr) (x : Q2) (lo hi : Option Q2) (li hj : Bool) : Prop where
  at_ : MAt CM H r x.1 x.2
  pos : 0 < x.2
  s1 : Sz 15000 x.1
  s2 : Sz 15000 x.2
  low : loIn lo li x = true
  high : hiIn hi hj x = true
/-- a Measure in both, or None -/
def ShV (CM : Addr) (H : Hp) (v : V) (m1 m2 n1 n2 : Option Q2) (i1 i2 j1 j2 : Bool) : Prop :=
  (someB (cutLo m1 i1 n1 j1).1 (cutHi m2 i2 n2 j2).1 (cutLo m1 i1 n1 j1).2 (cutHi m2 i2 n2 j2).2 = true ∧ ∃ r x, v = .ref r ∧ Held CM H r x m1 m2 i1 i2 ∧ Held CM H r x n1 n2 j1 j2) ∨
  (someB (cutLo m1 i1 n1 j1).1 (cutHi m2 i2 n2 j2).1 (cutLo m1 i1 n1 j1).2 (cutHi m2 i2 n2 j2).2 = false ∧ v = .non)
theorem Held.same {CM r : Addr} {H H' : Hp} {x : Q2} {lo hi : Option Q2} {li hj : Bool} (a : Held CM H r x lo hi li hj) (s : Same H H') : Held CM H' r x lo hi li hj := ⟨a.at_.same s, a.pos, a.s1, a.s2, a.low, a.high⟩
theorem ShV.same {CM : Addr} {H H' : Hp} {v : V} {m1 m2 n1 n2 : Option Q2} {i1 i2 j1 j2 : Bool} (a : ShV CM H v m1 m2 n1 n2 i1 i2 j1 j2) (s : Same H H') : ShV CM H' v m1 m2 n1 n2 i1 i2 j1 j2 := by
  rcases a with ⟨e, r, x, h1, h2, h3⟩ | h
  · exact .inl ⟨e, r, x, h1, h2.same s, h3.same s⟩
  · exact .inr h
theorem eqq_self (a : Q2) : eqq a a = true := decide_eq_true rfl
/-! ### lists of points, made in comprehensions -/
/-- all but lists stays -/
def Nl (H H' : Hp) : Prop := ∀ c o, H c = some o → notHand o = true → H' c = some o
theorem Nl.of {H H' : Hp} (s : Same H H') : Nl H H' := fun c o e _ => s c o e
theorem Nl.put {H : Hp} {l : Addr} {xs : List V} {u : HO} (h : H l = some (.lst xs)) : Nl H (upd H l u) := fun c o e no => up2 h e no
theorem EndV.nl {k : Nat} {H H' : Hp} {v : V} : ∀ {e : Option Q2}, EndV k H v e → Nl H H' → EndV k H' v e
  | none, h, _ => h
  | some _, ⟨p, h1, h2, h3⟩, s => ⟨p, h1, s _ _ h2 rfl, h3⟩
def PtV (k : Nat) (H : Hp) (v : V) : Prop := ∃ a : Q2, EndV k H v (some a)
theorem PtV.nl {k : Nat} {H H' : Hp} {v : V} (h : PtV k H v) (s : Nl H H') : PtV k H' v := by
  obtain ⟨a, h⟩ := h
  exact ⟨a, h.nl s⟩
theorem lcpT {K : PySem.W.Frag} {a : Addr} {xs : List V} {g : TG} {tt : TT} {te : TE} {vs : List Nat} {σ : L2.St} {H1 : Hp} {D : Addr} {Qd : Hp → Prop} (R : Hp → V → Prop) (hR : ∀ H H' y, R H y → Nl H H' → R H' y) (hz : xs.length < sizeLine) (hS : SqT K H1 a xs) (hD : H1 D = none)
    (hs : ∀ (i : Nat) (x : V) (H : Hp) (N : VK) (M : Hp → Prop), xs[i]? = some x → Same H1 H → (∀ y H4, Same H H4 → R H4 y → N y H4) → M H → g x (wipe σ vs) H fun σ2 H2 => wipe σ2 vs = wipe σ vs ∧ tt σ2 H2 fun b H3 => if b = true then te σ2 H3 N else M H3)
    (hd : ∀ H ys, Same H1 H → H D = some (.lst ys) → ys.length ≤ xs.length → (∀ y ∈ ys, R H y) → Qd H) :
    ∃ W : Nat → Nat → Hp → Prop, (∃ m, W 0 m (upd H1 D (.lst []))) ∧ ∀ i m H, W i m H →
      ((Itt K a).stop i H ∧ Qd H) ∨ ((Itt K a).go i H ∧ ∃ Nx : Hp → Prop, (∀ H', Nx H' → ∃ m', m' < m ∧ W (i + 1) m' H') ∧ ∀ x H', (Itt K a).yld i H x H' → g x (wipe σ vs) H' fun σ2 H2 => wipe σ2 vs = wipe σ vs ∧ tt σ2 H2 fun b H3 =>
        if b = true then te σ2 H3 fun y H4 => ∃ acc, H4 D = some (.lst acc) ∧ acc.length < sizeLine ∧ Nx (upd H4 D (.lst (acc ++ [y]))) else Nx H3) := by
  refine lc_tup (fun i H => Same H1 H ∧ ∃ ys, H D = some (.lst ys) ∧ ys.length ≤ i ∧ ∀ y ∈ ys, R H y) ⟨same1 hD, [], upd_same, Nat.le_refl _, fun y hy => nomatch hy⟩ (fun i H _ p => p.1.sqt hS) (fun i x H hx p => ?_) (fun H p => ?_)
  · have hi : i < xs.length := (List.getElem?_eq_some_iff.mp hx).1
    obtain ⟨s1, ys, h1, h2, h3⟩ := p
    refine hs i x H _ _ hx s1 (fun y H4 s4 r4 => ⟨ys, s4 _ _ h1, by omega, ?_, ys ++ [y], upd_same, ?_, ?_⟩) ⟨s1, ys, h1, by omega, h3⟩
    · intro c o e
      rw [upd_ne (ne_of_none e hD)]
      exact s4 _ _ (s1 _ _ e)
    · rw [List.length_append, List.length_singleton]; omega
    · intro z hz
      have n4 : Nl H4 (upd H4 D (.lst (ys ++ [y]))) := Nl.put (s4 _ _ h1)
      rcases List.mem_append.mp hz with hz | hz
      · exact hR _ _ _ (hR _ _ _ (h3 z hz) (Nl.of s4)) n4
      · have : z = y := by simpa using hz
        subst this
        exact hR _ _ _ r4 n4
  · obtain ⟨s1, ys, h1, h2, h3⟩ := p
    exact hd H ys s1 h1 h2 h3
end My
namespace My
open PySem PySem.Spec PyProof.Rows L2
/-! ### errors -/
section
variable {P : Program} {w : World} {K : PySem.W.Frag} {mg : Str → Option Value} {base : Heap} {k : Nat} {f : Addr} {fd : FuncData} {ps : List Str}
/-- a def that lets nothing out keeps its promise where more may be let out -/
theorem lift {CX : CXT} {sp : Sp} (F : FnOk P w K mg base CX0 k f fd ps sp) : FnOk P w K mg base CX k f fd ps sp :=
  ⟨F.len, fun A outer s H args us vs Q E hr he hb hv hs => codeAny_mono (F.run A outer s H args us vs Q E hr he hb hv hs) fun r s' hq => by
    cases r with
    | error e => exact False.elim hq
    | ok fl => cases fl <;> exact hq⟩
end
section
variable {X : Cx} {CX : CXT} {k : Nat} {f C : Addr} {fd : FuncData} {ps : List Str} {sp : Sp} {dvs : List V} {ds : List Value} {x : Str} {p pos : Pos} {e : Expr} {es : List Expr} {t : TA} {E : L2.St → XK}
end
/-! ### several clauses, each with the error by the same name; nothing leaves -/
/-! ### facts of error classes -/
/-! ### things of any kind -/
/-- a thing that is no Measure and no Stretch; h: not the hand -/
def Thing (h : Addr) (H : Hp) (v : V) : Prop := v = .non ∨ (∃ b, v = .bl b) ∨ (∃ i, v = .int i) ∨ (∃ z, v = .str z) ∨ (∃ a xs, v = .ref a ∧ a ≠ h ∧ H a = some (.lst xs)) ∨ (∃ a xs, v = .ref a ∧ H a = some (.tup xs)) ∨ (∃ a kvs, v = .ref a ∧ H a = some (.dK kvs))
theorem Thing.same {h : Addr} {H H' : Hp} {v : V} (t : Thing h H v) (s : Same H H') : Thing h H' v := by
  rcases t with t | t | t | t | ⟨a, xs, e, n, t⟩ | ⟨a, xs, e, t⟩ | ⟨a, xs, e, t⟩
  · exact .inl t
  · exact .inr (.inl t)
  · exact .inr (.inr (.inl t))
  · exact .inr (.inr (.inr (.inl t)))
  · exact .inr (.inr (.inr (.inr (.inl ⟨a, xs, e, n, s _ _ t⟩))))
  · exact .inr (.inr (.inr (.inr (.inr (.inl ⟨a, xs, e, s _ _ t⟩)))))
  · exact .inr (.inr (.inr (.inr (.inr (.inr ⟨a, xs, e, s _ _ t⟩)))))
theorem Thing.kp {h : Addr} {n : Nat} {H H' : Hp} {v : V} (t : Thing h H v) (hh : HandAt H h n) (s : Kp h H H') : Thing h H' v := by
  rcases t with t | t | t | t | ⟨a, xs, e, n, t⟩ | ⟨a, xs, e, t⟩ | ⟨a, xs, e, t⟩
  · exact .inl t
  · exact .inr (.inl t)
  · exact .inr (.inr (.inl t))
  · exact .inr (.inr (.inr (.inl t)))
  · exact .inr (.inr (.inr (.inr (.inl ⟨a, xs, e, n, s _ _ t n⟩))))
  · exact .inr (.inr (.inr (.inr (.inr (.inl ⟨a, xs, e, s.get hh t rfl⟩)))))
  · exact .inr (.inr (.inr (.inr (.inr (.inr ⟨a, xs, e, s.get hh t rfl⟩)))))
/-- its class, as isinstance asks it -/
theorem Thing.ty {K : PySem.W.Frag} {h : Addr} {H : Hp} {v : V} (t : Thing h H v) : ∃ n : String, TyX K H v (.type n) ∧ (n = "NoneType" ∨ n = "bool" ∨ n = "int" ∨ n = "str" ∨ n = "list" ∨ n = "tuple" ∨ n = "dict") := by
  rcases t with rfl | ⟨b, rfl⟩ | ⟨i, rfl⟩ | ⟨z, rfl⟩ | ⟨a, xs, rfl, n, t⟩ | ⟨a, xs, rfl, t⟩ | ⟨a, xs, rfl, t⟩
  · exact ⟨_, .base .non, .inl rfl⟩
  · exact ⟨_, .base (.bl b), .inr (.inl rfl)⟩
  · exact ⟨_, .base (.int i), .inr (.inr (.inl rfl))⟩
  · exact ⟨_, .base (.str z), .inr (.inr (.inr (.inl rfl)))⟩
  · exact ⟨_, .base (.lst t), .inr (.inr (.inr (.inr (.inl rfl))))⟩
  · exact ⟨_, .base (.tup t), .inr (.inr (.inr (.inr (.inr (.inl rfl)))))⟩
  · exact ⟨_, .base (.dK t), .inr (.inr (.inr (.inr (.inr (.inr rfl)))))⟩
end My
namespace My
open PySem PySem.Spec PyProof.Rows L2
/-! ### == and != by an own __eq__, beside things of any kind -/
section
open AutoSeq1 (wpAny_loadPart')
variable {prog : Program} {w : World} {A : Around} {E : Value → Shared → Prop} {s : Shared}
end
/-- a value of a built-in kind -/
inductive Bk (H : Hp) : V → String → Prop where
  | non : Bk H .non "NoneType"
  | bl (b : Bool) : Bk H (.bl b) "bool"
  | int (i : Int) : Bk H (.int i) "int"
  | str (z : Str) : Bk H (.str z) "str"
  | lst {a : Addr} {xs : List V} (e : H a = some (.lst xs)) : Bk H (.ref a) "list"
  | tup {a : Addr} {xs : List V} (e : H a = some (.tup xs)) : Bk H (.ref a) "tuple"
theorem Bk.ty {K : PySem.W.Frag} {H : Hp} {x : V} {T : String} (b : Bk H x T) : TyX K H x (.type T) := by
  cases b with
  | non => exact .base .non
  | bl b => exact .base (.bl b)
  | int i => exact .base (.int i)
  | str z => exact .base (.str z)
  | lst e => exact .base (.lst e)
  | tup e => exact .base (.tup e)
theorem Bk.same {H H' : Hp} {x : V} {T : String} (b : Bk H x T) (s : Same H H') : Bk H' x T := by
  cases b with
  | non => exact .non
  | bl b => exact .bl b
  | int i => exact .int i
  | str z => exact .str z
  | lst e => exact .lst (s _ _ e)
  | tup e => exact .tup (s _ _ e)
/-- the kinds that no own class stands under -/
def kinds : List String := ["NoneType", "bool", "int", "str", "list", "tuple"]
theorem Bk.mem {H : Hp} {x : V} {T : String} (b : Bk H x T) : T ∈ kinds := by
  cases b <;> simp [kinds]
/-- what == and != ask of a class with an own __eq__ and no own __ne__ -/
structure EqC (K : PySem.W.Frag) (C : Addr) : Prop where
  ne : PySem.W.findIn K (.ref C) "__ne__" = some (some (.builtin "object.__ne__"))
  ob : PySem.W.mroIn K C (.type "object") = some true
  sub : ∀ T, T ∈ kinds → PySem.W.subIn K (.ref C) (.type T) = some false
  nf : ∀ T, T ∈ kinds → PySem.W.notFirst K C (.type T) = true
  kit : ∀ T, T ∈ kinds → PySem.W.kitOne K (.type T) (.ref C) = some false
section
variable {X : Cx} {pins : List (Addr × Obj)} {σ : L2.St} {H : Hp} {s : Shared} {A : Around} {E : Value → Shared → Prop}
end
/-- how == answers: x == y tells b, and nothing changes -/
abbrev Eqb := V → V → Hp → Bool → Prop
def RcB (X : Cx) (n : Nat) (D : Eqb) : Prop := ∀ (A : Around) (pins : List (Addr × Obj)) (s : Shared) (σ : L2.St) (H : Hp) (x y : V) (u v : Value) (b : Bool), Sub X n A → Inv X pins σ H s → RelV x u → RelV y v → D x y H b →
  wpAny (model X.prog X.w) A (richCompare .Eq u v) (fun r s' => r = .bool b ∧ Inv X pins σ H s') X.xe s
def EqB (X : Cx) (n : Nat) (D : Eqb) : Prop := ∀ (A : Around) (pins : List (Addr × Obj)) (s : Shared) (σ : L2.St) (H : Hp) (x y : V) (u v : Value) (b : Bool), Sub X n A → Inv X pins σ H s → RelV x u → RelV y v → D x y H b →
  wpAny (model X.prog X.w) A (eqBool u v) (fun r s' => r = b ∧ Inv X pins σ H s') X.xe s
/-- the own object first -/
def DOwn (K : PySem.W.Frag) (C : Addr) (R : Eqb) : Eqb := fun x y H b => ∃ a dx fs tb, x = .ref a ∧ H a = some (.ins C dx fs) ∧ TyX K H y tb ∧ PySem.W.notFirst K C tb = true ∧ (x = y → b = true) ∧ R x y H b
/-- the own object behind a thing of a built-in kind -/
def DRef (C : Addr) (R : Eqb) : Eqb := fun x y H b => ∃ a dx fs T, y = .ref a ∧ H a = some (.ins C dx fs) ∧ Bk H x T ∧ (x = y → b = true) ∧ R y x H b
def DOr (D D' : Eqb) : Eqb := fun x y H b => D x y H b ∨ D' x y H b
section
variable {X : Cx} {n : Nat} {CX : CXT} {C f : Addr} {fd : FuncData} {ps : List Str} {R D D' : Eqb} {E : XK}
theorem RcB.mono {m : Nat} (h : RcB X n D) (l : n ≤ m) : RcB X m D := fun A pins s σ H x y u v b sb I rx ry d => h A pins s σ H x y u v b (sb.mono l) I rx ry d
theorem EqB.mono {m : Nat} (h : EqB X n D) (l : n ≤ m) : EqB X m D := fun A pins s σ H x y u v b sb I rx ry d => h A pins s σ H x y u v b (sb.mono l) I rx ry d
theorem RcB.or (h : RcB X n D) (h' : RcB X n D') : RcB X n (DOr D D') := fun A pins s σ H x y u v b sb I rx ry d => d.elim (h A pins s σ H x y u v b sb I rx ry) (h' A pins s σ H x y u v b sb I rx ry)
theorem EqB.or (h : EqB X n D) (h' : EqB X n D') : EqB X n (DOr D D') := fun A pins s σ H x y u v b sb I rx ry d => d.elim (h A pins s σ H x y u v b sb I rx ry) (h' A pins s σ H x y u v b sb I rx ry)
/-! ### in, by an own == -/
def InB (D : Eqb) (x : V) (H : Hp) : List V → Bool → Prop
  | [], b => b = false
  | y :: r, b => (D y x H true ∧ b = true) ∨ (D y x H false ∧ InB D x H r b)
open AutoSeq1 (wpAny_loadPart') in
open AutoSeq1 (wpAny_loadPart') in
/-- a text beside a thing of a built-in kind -/
def DTxt : Eqb := fun x y H b => ∃ (z : Str) (T : String), x = .str z ∧ Bk H y T ∧ b = decide (y = .str z)
end
/-! ### Measures alike, beside Measures and things of built-in kinds -/
def REq (K : PySem.W.Frag) (C : Addr) : Eqb := fun x y H b => ∃ p t u, x = .ref p ∧ MAt C H p t u ∧ ((∃ q t' u', y = .ref q ∧ MAt C H q t' u' ∧ b = (decide (t = t') && decide (u = u'))) ∨ ∃ tv, TyX K H y tv ∧ PySem.W.kitOne K tv (.ref C) = some false ∧ b = false)
inductive Like (C : Addr) (H : Hp) (p : Addr) : V → Bool → Prop where
  | ms {q : Addr} {t u t' u' : Int} (a : MAt C H p t u) (b : MAt C H q t' u') : Like C H p (.ref q) (decide (t = t') && decide (u = u'))
  | kd {y : V} {T : String} {t u : Int} (a : MAt C H p t u) (b : Bk H y T) : Like C H p y false
theorem Like.same {C p : Addr} {H H' : Hp} {y : V} {b : Bool} (h : Like C H p y b) (s : Same H H') : Like C H' p y b := by
  cases h with
  | ms a b => exact .ms (a.same s) (b.same s)
  | kd a k => exact .kd (a.same s) (k.same s)
theorem mf_inj {t u t' u' : Int} (h : mf t u = mf t' u') : t = t' ∧ u = u' := by
  unfold mf at h
  injection h with h1 h2
  injection h2 with h3 _
  exact ⟨V.int.inj (congrArg Prod.snd h1), V.int.inj (congrArg Prod.snd h3)⟩
theorem MAt.uniq {C p : Addr} {H : Hp} {t u t' u' : Int} (a : MAt C H p t u) (b : MAt C H p t' u') : t = t' ∧ u = u' := by
  obtain ⟨d, a⟩ := a
  obtain ⟨d', b⟩ := b
  rw [a] at b
  have e := HO.ins.inj (Option.some.inj b)
  exact mf_inj e.2.2
theorem Bk.notIns {C p dx : Addr} {H : Hp} {T : String} {fs : List (Str × V)} (b : Bk H (.ref p) T) (e : H p = some (.ins C dx fs)) : False := by
  cases b with
  | lst z => rw [z] at e; cases e
  | tup z => rw [z] at e; cases e
section
variable {K : PySem.W.Frag} {C p : Addr} {H : Hp} {y : V} {b : Bool}
theorem nf_self : PySem.W.notFirst K C (.ref C) = true := by simp [PySem.W.notFirst]
theorem Like.fwd (cl : Cls K C) (ii : IsC K C) (ec : EqC K C) (h : Like C H p y b) : DOwn K C (REq K C) (.ref p) y H b := by
  cases h with
  | @ms q t u t' u' a b =>
    obtain ⟨da, ha⟩ := _root_.id a
    obtain ⟨db, hb⟩ := _root_.id b
    refine ⟨p, da, _, _, rfl, ha, tyM hb cl ii, nf_self, fun e => ?_, p, t, u, rfl, a, .inl ⟨q, t', u', rfl, b, rfl⟩⟩
    cases e
    obtain ⟨rfl, rfl⟩ := a.uniq b
    simp
  | @kd _ T t u a k =>
    obtain ⟨da, ha⟩ := _root_.id a
    refine ⟨p, da, _, _, rfl, ha, k.ty, ec.nf T k.mem, fun e => ?_, p, t, u, rfl, a, .inr ⟨_, k.ty, ec.kit T k.mem, rfl⟩⟩
    subst e
    exact (k.notIns ha).elim
theorem Like.bwd (cl : Cls K C) (ii : IsC K C) (ec : EqC K C) (h : Like C H p y b) : DOr (DOwn K C (REq K C)) (DRef C (REq K C)) y (.ref p) H b := by
  cases h with
  | @ms q t u t' u' a b =>
    obtain ⟨da, ha⟩ := _root_.id a
    obtain ⟨db, hb⟩ := _root_.id b
    have e2 : (decide (t = t') && decide (u = u')) = (decide (t' = t) && decide (u' = u)) := by
      rw [decide_eq_decide.mpr (eq_comm (a := t)), decide_eq_decide.mpr (eq_comm (a := u))]
    rw [e2]
    refine .inl ⟨q, db, _, _, rfl, hb, tyM ha cl ii, nf_self, fun e => ?_, q, t', u', rfl, b, .inl ⟨p, t, u, rfl, a, rfl⟩⟩
    cases e
    obtain ⟨rfl, rfl⟩ := a.uniq b
    simp
  | @kd _ T t u a k =>
    obtain ⟨da, ha⟩ := _root_.id a
    refine .inr ⟨p, da, _, T, rfl, ha, k, fun e => ?_, p, t, u, rfl, a, .inr ⟨_, k.ty, ec.kit T k.mem, rfl⟩⟩
    subst e
    exact (k.notIns ha).elim
theorem Like.non (ec : EqC K C) (h : Like C H p y b) : DOr (DOwn K C (REq K C)) (DRef C (REq K C)) .non (.ref p) H false := by
  have go : ∀ {t u : Int}, MAt C H p t u → DOr (DOwn K C (REq K C)) (DRef C (REq K C)) .non (.ref p) H false := fun {t u} a => by
    obtain ⟨da, ha⟩ := _root_.id a
    exact .inr ⟨p, da, _, _, rfl, ha, .non, (fun e => nomatch e), p, t, u, rfl, a, .inr ⟨_, (Bk.non (H := H)).ty, ec.kit _ (Bk.non (H := H)).mem, rfl⟩⟩
  cases h with
  | ms a _ => exact go a
  | kd a _ => exact go a
/-- one in [None, y] -/
theorem Like.inl (cl : Cls K C) (ii : IsC K C) (ec : EqC K C) (h : Like C H p y b) : InB (DOr (DOwn K C (REq K C)) (DRef C (REq K C))) (.ref p) H [.non, y] b := by
  refine .inr ⟨h.non ec, ?_⟩
  cases b with
  | true => exact .inl ⟨h.bwd cl ii ec, rfl⟩
  | false => exact .inr ⟨h.bwd cl ii ec, rfl⟩
/-- y in (one, z) -/
theorem Like.inr {z : Str} (cl : Cls K C) (ii : IsC K C) (ec : EqC K C) (h : Like C H p y b) (hz : y ≠ .str z) : InB (DOr (DOr (DOwn K C (REq K C)) (DRef C (REq K C))) DTxt) y H [.ref p, .str z] b := by
  have key : ∀ {c : Bool}, Like C H p y c → DOr (DOr (DOwn K C (REq K C)) (DRef C (REq K C))) DTxt (.str z) y H false := fun {c} h => by
    cases h with
    | @ms q t u t' u' a b =>
      obtain ⟨dq, hq⟩ := _root_.id b
      exact .inl (.inr ⟨q, dq, _, _, rfl, hq, .str z, (fun e => nomatch e), q, t', u', rfl, b, .inr ⟨_, (Bk.str (H := H) z).ty, ec.kit _ (Bk.str (H := H) z).mem, rfl⟩⟩)
    | @kd _ T t u a k => exact .inr ⟨z, T, rfl, k, (decide_eq_false hz).symm⟩
  cases b with
  | true => exact .inl ⟨.inl (.inl (h.fwd cl ii ec)), rfl⟩
  | false => exact .inr ⟨.inl (.inl (h.fwd cl ii ec)), .inr ⟨key h, rfl⟩⟩
end
end My
namespace My
open PySem PySem.Spec PyProof.Rows L2
/-! ### texts: str and repr of own objects, pieces of f-strings, divmod -/
section
variable {X : Cx} {n : Nat} {CX : CXT} {C f : Addr} {fd : FuncData} {ps : List Str} {sp : Sp} {E : XK}
/-- an own def is called from within a built-in one -/
theorem fn_at (F : FnOk X.prog X.w X.K X.mg X.base CX n f fd ps sp) (hb : Binds X.K fd ps []) (hx : Passes CX X E) {A : Around} {pins : List (Addr × Obj)} {s : Shared} {σ : L2.St} {H : Hp} {vs : List V} {us : List Value} {Q : VK}
    (sb : Sub X n A) (I : Inv X pins σ H s) (r : Vals vs us) (h : sp vs H Q E) : wpAny (model X.prog X.w) A (call (.ref f) us) (fun u s' => ∃ v H', Inv X pins σ H' s' ∧ RelV v u ∧ Q v H') X.xe s := by
  have e := I.env0
  have e0 : Env0 X.prog X.w X.K X.mg X.base A X.stack s H := ⟨by rw [sb.fr]; exact e.frames, e.mod, e.bs, e.bsz, e.funs, e.frf, e.hok, e.bare⟩
  have hl := F.len _ _ _ _ h
  have hbs := hb s us I.kIn (by rw [List.append_nil, ← r.length]; exact hl)
  rw [List.append_nil] at hbs
  refine wpAny_call (codeAny_mono (F.run A X.stack s H ⟨us, []⟩ us vs _ E sb.room e0 hbs r h) fun r s' hq => ?_)
  cases r with
  | error e => exact hx pins σ H s e s' I hq
  | ok fl =>
    cases fl with
    | ret w =>
      obtain ⟨z, H', I', rz, q⟩ := I.after hq
      exact ⟨z, H', I', rz, q⟩
    | next => exact False.elim hq
    | brk => exact False.elim hq
    | cont => exact False.elim hq
/-- what a text of an own object asks: the def tells a text -/
def tOwn (C : Addr) (sp : Sp) (E : XK) : V → Hp → VK → Prop := fun x H Q => ∃ a dx fs, x = .ref a ∧ H a = some (.ins C dx fs) ∧ sp [.ref a] H (fun v H' => ∃ z : Str, v = .str z ∧ Q (.str z) H') E
end
/-! ### the text of a number, of a Measure -/
end My
namespace My
open PySem PySem.Spec PyProof.Rows L2
/-! ### Stretches alike -/
def optEq : Option Q2 → Option Q2 → Bool
  | none, none => true
  | some a, some b => eqq a b
  | _, _ => false
theorem optEq_self (a : Option Q2) : optEq a a = true := by
  cases a with
  | none => rfl
  | some a => exact eqq_self a
theorem eqq_comm' (a b : Q2) : eqq a b = eqq b a := by
  unfold eqq
  exact decide_eq_decide.mpr eq_comm
theorem optEq_comm (a b : Option Q2) : optEq a b = optEq b a := by
  cases a with
  | none => cases b <;> rfl
  | some a =>
    cases b with
    | none => rfl
    | some b => exact eqq_comm' a b
def eqS (lo hi : Option Q2) (li hj : Bool) (lo' hi' : Option Q2) (li' hj' : Bool) : Bool := optEq lo lo' && (optEq hi hi' && (decide (V.bl li = V.bl li') && decide (V.bl hj = V.bl hj')))
theorem eqS_self (lo hi : Option Q2) (li hj : Bool) : eqS lo hi li hj lo hi li hj = true := by
  unfold eqS
  rw [optEq_self, optEq_self, decide_eq_true rfl, decide_eq_true rfl]
  rfl
theorem eqS_comm (lo hi : Option Q2) (li hj : Bool) (lo' hi' : Option Q2) (li' hj' : Bool) : eqS lo hi li hj lo' hi' li' hj' = eqS lo' hi' li' hj' lo hi li hj := by
  unfold eqS
  rw [optEq_comm lo, optEq_comm hi, decide_eq_decide.mpr (eq_comm (a := V.bl li)), decide_eq_decide.mpr (eq_comm (a := V.bl hj))]
section
variable {K : PySem.W.Frag} {CM CS p : Addr} {H : Hp}
def REqS (K : PySem.W.Frag) (CM CS : Addr) : Eqb := fun x y H b => ∃ p lo hi li hj, x = .ref p ∧ StAt CM CS H p lo hi li hj ∧ ((∃ q lo' hi' li' hj', y = .ref q ∧ StAt CM CS H q lo' hi' li' hj' ∧ b = eqS lo hi li hj lo' hi' li' hj') ∨
  ∃ tv, TyX K H y tv ∧ PySem.W.kitOne K tv (.ref CS) = some false ∧ b = false)
inductive LikeS (CM CS : Addr) (H : Hp) (p : Addr) : V → Bool → Prop where
  | st {q : Addr} {lo hi lo' hi' : Option Q2} {li hj li' hj' : Bool} (a : StAt CM CS H p lo hi li hj) (b : StAt CM CS H q lo' hi' li' hj') : LikeS CM CS H p (.ref q) (eqS lo hi li hj lo' hi' li' hj')
  | kd {y : V} {T : String} {lo hi : Option Q2} {li hj : Bool} (a : StAt CM CS H p lo hi li hj) (b : Bk H y T) : LikeS CM CS H p y false
  | ms {q : Addr} {t u : Int} {lo hi : Option Q2} {li hj : Bool} (a : StAt CM CS H p lo hi li hj) (b : MAt CM H q t u) : LikeS CM CS H p (.ref q) false
theorem LikeS.same {H' : Hp} {y : V} {b : Bool} (h : LikeS CM CS H p y b) (s : Same H H') : LikeS CM CS H' p y b := by
  cases h with
  | st a b => exact .st (a.same s) (b.same s)
  | kd a k => exact .kd (a.same s) (k.same s)
  | ms a m => exact .ms (a.same s) (m.same s)
theorem MsV.uniq {v : V} {e f : Option Q2} (a : MsV CM H v e) (b : MsV CM H v f) : e = f := by
  cases e with
  | none =>
    cases a
    cases f with
    | none => rfl
    | some y => obtain ⟨q, z, _⟩ := b; exact nomatch z
  | some x =>
    obtain ⟨p, rfl, hp⟩ := a
    cases f with
    | none => exact nomatch (show V.ref p = V.non from b)
    | some y =>
      obtain ⟨q, z, hq⟩ := b
      cases z
      obtain ⟨h1, h2⟩ := hp.uniq hq
      rw [show x = (x.1, x.2) from rfl, show y = (y.1, y.2) from rfl, h1, h2]
theorem sf_inj {l h l' h' : V} {i j i' j' : Bool} (e : sf l h i j = sf l' h' i' j') : l = l' ∧ h = h' ∧ i = i' ∧ j = j' := by
  have g : ∀ m : Str, (sf l h i j).lookup m = (sf l' h' i' j').lookup m := fun m => by rw [e]
  have g1 := g "low"
  have g2 := g "high"
  have g3 := g "low_in"
  have g4 := g "high_in"
  rw [sf_low, sf_low] at g1
  rw [sf_high, sf_high] at g2
  rw [sf_low_in, sf_low_in] at g3
  rw [sf_high_in, sf_high_in] at g4
  exact ⟨Option.some.inj g1, Option.some.inj g2, V.bl.inj (Option.some.inj g3), V.bl.inj (Option.some.inj g4)⟩
theorem StAt.uniq {lo hi lo' hi' : Option Q2} {li hj li' hj' : Bool} (a : StAt CM CS H p lo hi li hj) (b : StAt CM CS H p lo' hi' li' hj') : lo = lo' ∧ hi = hi' ∧ li = li' ∧ hj = hj' := by
  obtain ⟨⟨d, l, h, h1, h2, h3⟩, _⟩ := a
  obtain ⟨⟨d', l', h', k1, k2, k3⟩, _⟩ := b
  rw [h1] at k1
  have e := HO.ins.inj (Option.some.inj k1)
  obtain ⟨rfl, rfl, rfl, rfl⟩ := sf_inj e.2.2
  exact ⟨h2.uniq k2, h3.uniq k3, rfl, rfl⟩
theorem st_notM {q : Addr} {lo hi : Option Q2} {li hj : Bool} {t u : Int} (a : StAt CM CS H p lo hi li hj) (m : MAt CM H p t u) : False := by
  obtain ⟨⟨d, l, hh, h1, _⟩, _⟩ := a
  obtain ⟨dm, hm⟩ := m
  rw [h1] at hm
  have e := (HO.ins.inj (Option.some.inj hm)).2.2
  have e2 := congrArg (fun fs : List (Str × V) => fs.lookup ("top" : Str)) e
  have e3 : (sf l hh li hj).lookup ("top" : Str) = none := sf_no _ _ _ _ (by decide +kernel) (by decide +kernel) (by decide +kernel) (by decide +kernel)
  have e4 := mf_top t u
  rw [show (sf l hh li hj).lookup ("top" : Str) = (mf t u).lookup ("top" : Str) from e2, e4] at e3
  cases e3
/-- what is asked of the two classes -/
structure Two (K : PySem.W.Frag) (CM CS : Addr) : Prop where
  clM : Cls K CM
  iiM : IsC K CM
  ecM : EqC K CM
  clS : Cls K CS
  iiS : IsC K CS
  ecS : EqC K CS
  nMS : PySem.W.notFirst K CM (.ref CS) = true
  nSM : PySem.W.notFirst K CS (.ref CM) = true
  kMS : PySem.W.kitOne K (.ref CM) (.ref CS) = some false
  kSM : PySem.W.kitOne K (.ref CS) (.ref CM) = some false
def DAllS (K : PySem.W.Frag) (CM CS : Addr) : Eqb := DOr (DOr (DOwn K CS (REqS K CM CS)) (DRef CS (REqS K CM CS))) (DOwn K CM (REq K CM))
theorem LikeS.fwd {y : V} {b : Bool} (T : Two K CM CS) (h : LikeS CM CS H p y b) : DOwn K CS (REqS K CM CS) (.ref p) y H b := by
  cases h with
  | @st q lo hi lo' hi' li hj li' hj' a b =>
    obtain ⟨⟨d, l, hh, h1, _⟩, _⟩ := _root_.id a
    obtain ⟨⟨d', l', hh', k1, _⟩, _⟩ := _root_.id b
    refine ⟨p, d, _, _, rfl, h1, tyM k1 T.clS T.iiS, nf_self, fun e => ?_, p, lo, hi, li, hj, rfl, a, .inl ⟨q, lo', hi', li', hj', rfl, b, rfl⟩⟩
    cases e
    obtain ⟨rfl, rfl, rfl, rfl⟩ := a.uniq b
    exact eqS_self _ _ _ _
  | @kd _ Ty lo hi li hj a k =>
    obtain ⟨⟨d, l, hh, h1, _⟩, _⟩ := _root_.id a
    refine ⟨p, d, _, _, rfl, h1, k.ty, T.ecS.nf Ty k.mem, fun e => ?_, p, lo, hi, li, hj, rfl, a, .inr ⟨_, k.ty, T.ecS.kit Ty k.mem, rfl⟩⟩
    subst e
    exact (k.notIns h1).elim
  | @ms q t u lo hi li hj a m =>
    obtain ⟨⟨d, l, hh, h1, _⟩, _⟩ := _root_.id a
    obtain ⟨dm, hm⟩ := _root_.id m
    have ty := tyM hm T.clM T.iiM
    refine ⟨p, d, _, _, rfl, h1, ty, T.nSM, fun e => ?_, p, lo, hi, li, hj, rfl, a, .inr ⟨_, ty, T.kMS, rfl⟩⟩
    cases e
    exact (st_notM (q := p) a m).elim
theorem LikeS.bwd {y : V} {b : Bool} (T : Two K CM CS) (h : LikeS CM CS H p y b) : DAllS K CM CS y (.ref p) H b := by
  cases h with
  | @st q lo hi lo' hi' li hj li' hj' a b =>
    rw [eqS_comm]
    exact .inl (.inl (LikeS.fwd T (.st b a)))
  | @kd _ Ty lo hi li hj a k =>
    obtain ⟨⟨d, l, hh, h1, _⟩, _⟩ := _root_.id a
    refine .inl (.inr ⟨p, d, _, Ty, rfl, h1, k, fun e => ?_, p, lo, hi, li, hj, rfl, a, .inr ⟨_, k.ty, T.ecS.kit Ty k.mem, rfl⟩⟩)
    subst e
    exact (k.notIns h1).elim
  | @ms q t u lo hi li hj a m =>
    obtain ⟨⟨d, l, hh, h1, _⟩, _⟩ := _root_.id a
    obtain ⟨dm, hm⟩ := _root_.id m
    have ty := tyM h1 T.clS T.iiS
    refine .inr ⟨q, dm, _, _, rfl, hm, ty, T.nMS, fun e => ?_, q, t, u, rfl, m, .inr ⟨_, ty, T.kSM, rfl⟩⟩
    cases e
    exact (st_notM (q := p) a m).elim
theorem LikeS.inl {y : V} {b : Bool} (T : Two K CM CS) (h : LikeS CM CS H p y b) : InB (DAllS K CM CS) (.ref p) H [.non, y] b := by
  have go : ∀ {lo hi li hj}, StAt CM CS H p lo hi li hj → DAllS K CM CS .non (.ref p) H false := fun {lo hi li hj} a => LikeS.bwd T (.kd a .non)
  have nn : DAllS K CM CS .non (.ref p) H false := by
    cases h with
    | st a _ => exact go a
    | kd a _ => exact go a
    | ms a _ => exact go a
  refine .inr ⟨nn, ?_⟩
  cases b with
  | true => exact .inl ⟨h.bwd T, rfl⟩
  | false => exact .inr ⟨h.bwd T, rfl⟩
end
/-! ### texts of Stretches -/
/-- the tuple of two ends and two truths -/
def EndsK (k : Nat) (H : Hp) (v : V) (ea eb : Option Q2) (ia ib : Bool) : Prop := ∃ p va vb, v = .ref p ∧ H p = some (.tup [va, vb, .bl ia, .bl ib]) ∧ EndV k H va ea ∧ EndV k H vb eb
theorem EndsK.nl {k : Nat} {H H' : Hp} {v : V} {ea eb : Option Q2} {ia ib : Bool} (a : EndsK k H v ea eb ia ib) (s : Nl H H') : EndsK k H' v ea eb ia ib := by
  obtain ⟨p, va, vb, h0, h1, h2, h3⟩ := a
  exact ⟨p, va, vb, h0, s _ _ h1 rfl, h2.nl s, h3.nl s⟩
theorem EndsK.same {k : Nat} {H H' : Hp} {v : V} {ea eb : Option Q2} {ia ib : Bool} (a : EndsK k H v ea eb ia ib) (s : Same H H') : EndsK k H' v ea eb ia ib := a.nl (Nl.of s)
theorem EndsAt.k {H : Hp} {p : Addr} {ea eb : Option Q2} {ia ib : Bool} (a : EndsAt H p ea eb ia ib) : EndsK 150 H (.ref p) ea eb ia ib := by
  obtain ⟨⟨va, vb, h1, h2, h3⟩, _⟩ := a
  exact ⟨p, va, vb, rfl, h1, h2.mono (by decide), h3.mono (by decide)⟩
end My
namespace My
open PySem PySem.Spec PyProof.Rows L2
/-! ### texts by their signs: partings at the last and the first sign -/
/-! ### x.rpartition(sep) -/
/-! ### a leading sign -/
/-! ### the words of a measure's text -/
/-! ### the text of a Measure by its signs -/
end My
namespace My
open PySem PySem.Spec PyProof.Rows L2
/-! ### list.count(True) of truths -/
/-! ### Measures as fractions -/
theorem fr_of {t u A B : Int} (hu : 0 < u) (co : Int.gcd t u = 1) (hB : 0 < B) (e : t * B = A * u) : Fr t u A B := by
  have co' : Int.gcd u t = 1 := by rw [Int.gcd_comm]; exact co
  have d2 : u ∣ B := dvd_co (b := t) ⟨A, by rw [e, Int.mul_comm]⟩ co'
  obtain ⟨k, hk⟩ := d2
  have k0 : 0 < k := by
    rcases Int.lt_or_le 0 k with z | z
    · exact z
    · have := Int.mul_nonneg_of_nonpos_of_nonpos (show -u ≤ 0 by omega) z
      have e2 : -u * k = -(u * k) := Int.neg_mul ..
      omega
  have e1 : A = t * k := by
    have : A * u = (t * k) * u := by
      rw [← e, hk]
      simp only [Int.mul_assoc, Int.mul_comm, Int.mul_left_comm]
    exact Int.eq_of_mul_eq_mul_right (by omega) this
  refine ⟨hu, e, co, ?_, ?_⟩
  · rw [e1, Int.natAbs_mul]
    exact Nat.le_mul_of_pos_right _ (by omega)
  · rw [hk, Int.natAbs_mul]
    exact Nat.le_mul_of_pos_right _ (by omega)
def qadd (x y : Q2) : Q2 := (x.1 * y.2 + y.1 * x.2, x.2 * y.2)
def qsub (x y : Q2) : Q2 := (x.1 * y.2 - y.1 * x.2, x.2 * y.2)
def qmul (x y : Q2) : Q2 := (x.1 * y.1, x.2 * y.2)
def qprt (x : Q2) (m : Int) : Q2 := (x.1 * sgn m, x.2 * (m * sgn m))
def qmk (a b : Int) : Q2 := (a * sgn b, b * sgn b)
theorem sgn_pos {m : Int} (h : m ≠ 0) : 0 < m * sgn m := by
  unfold sgn; split
  · omega
  · rw [Int.mul_neg_one]; omega
structure QAt (C : Addr) (H : Hp) (p : Addr) (k : Nat) (x : Q2) : Prop where
  ob : ∃ t u, MAt C H p t u ∧ Fr t u x.1 x.2
  pos : 0 < x.2
  s1 : Sz k x.1
  s2 : Sz k x.2
theorem QAt.same {C p : Addr} {H H' : Hp} {k : Nat} {x : Q2} (h : QAt C H p k x) (s : Same H H') : QAt C H' p k x := by
  obtain ⟨⟨t, u, m, f⟩, h1, h2, h3⟩ := h
  exact ⟨⟨t, u, m.same s, f⟩, h1, h2, h3⟩
theorem QAt.mono {C p : Addr} {H : Hp} {k j : Nat} {x : Q2} (h : QAt C H p k x) (l : k ≤ j) : QAt C H p j x := ⟨h.ob, h.pos, h.s1.mono l, h.s2.mono l⟩
theorem QAt.kp {C p hd : Addr} {H H' : Hp} {n k : Nat} {x : Q2} (h : QAt C H p k x) (hh : HandAt H hd n) (s : Kp hd H H') : QAt C H' p k x := by
  obtain ⟨⟨t, u, m, f⟩, h1, h2, h3⟩ := h
  exact ⟨⟨t, u, m.kp hh s, f⟩, h1, h2, h3⟩
theorem QAt.nl {C p : Addr} {H H' : Hp} {k : Nat} {x : Q2} (h : QAt C H p k x) (s : Nl H H') : QAt C H' p k x := by
  obtain ⟨⟨t, u, ⟨d, m⟩, f⟩, h1, h2, h3⟩ := h
  exact ⟨⟨t, u, ⟨d, s _ _ m rfl⟩, f⟩, h1, h2, h3⟩
section
variable {C p q : Addr} {H : Hp} {Q : VK} {E : XK} {k j : Nat} {x y : Q2}
theorem QAt.raw (h : QAt C H p k x) {m : Str} (h1 : ¬ m = "top") (h2 : ¬ m = "bottom") : ∃ dx fs, H p = some (.ins C dx fs) ∧ fs.lookup m = none := by
  obtain ⟨⟨t, u, ⟨d, m⟩, f⟩, _⟩ := h
  exact ⟨d, _, m, mf_no _ _ h1 h2⟩
theorem q_add (hx : QAt C H p k x) (hy : QAt C H q j y) (l : k + j ≤ 8900) (l0 : 0 < k) (l1 : 0 < j) (f : ∀ (r : Addr) (H' : Hp), Same H H' → QAt C H' r (k + j + 1) (qadd x y) → Q (.ref r) H') :
    sp_bin2 C (fun t u t' u' => t * u' + t' * u) (fun t u t' u' => u * u') [.ref p, .ref q] H Q E := by
  obtain ⟨⟨t, u, m1, f1⟩, px, a1, a2⟩ := hx
  obtain ⟨⟨t', u', m2, f2⟩, py, b1, b2⟩ := hy
  refine ⟨p, q, t, u, t', u', rfl, m1, m2, f1.pos, f2.pos, (a1.le f1.lt).mono (by omega), (a2.le f1.lu).mono (by omega), (b1.le f2.lt).mono (by omega), (b2.le f2.lu).mono (by omega), ((a2.le f1.lu).mul (b2.le f2.lu)).mono (by omega), fun r t2 u2 H' _ s m f3 => ?_⟩
  refine f r H' s ⟨⟨t2, u2, m, fr_of f3.pos f3.co (Int.mul_pos px py) ?_⟩, Int.mul_pos px py, (a1.mul b2).add ((b1.mul a2).mono (by omega)), (a2.mul b2).mono (by omega)⟩
  have e1 := f1.eq
  have e2 := f2.eq
  have e3 := f3.eq
  have z : (t2 * (x.2 * y.2)) * (u * u') = ((x.1 * y.2 + y.1 * x.2) * u2) * (u * u') := by
    have : (t2 * (x.2 * y.2)) * (u * u') = (t2 * (u * u')) * (x.2 * y.2) := by grind
    rw [this, e3]
    have w1 : (t * u' + t' * u) * u2 * (x.2 * y.2) = ((t * x.2) * u' * y.2 + (t' * y.2) * u * x.2) * u2 := by grind
    rw [w1, e1, e2]
    grind
  have pu := Int.mul_pos f1.pos f2.pos
  exact Int.eq_of_mul_eq_mul_right (by omega) z
theorem q_sub (hx : QAt C H p k x) (hy : QAt C H q j y) (l : k + j ≤ 8900) (l0 : 0 < k) (l1 : 0 < j) (f : ∀ (r : Addr) (H' : Hp), Same H H' → QAt C H' r (k + j + 1) (qsub x y) → Q (.ref r) H') :
    sp_bin2 C (fun t u t' u' => t * u' - t' * u) (fun t u t' u' => u * u') [.ref p, .ref q] H Q E := by
  obtain ⟨⟨t, u, m1, f1⟩, px, a1, a2⟩ := hx
  obtain ⟨⟨t', u', m2, f2⟩, py, b1, b2⟩ := hy
  refine ⟨p, q, t, u, t', u', rfl, m1, m2, f1.pos, f2.pos, (a1.le f1.lt).mono (by omega), (a2.le f1.lu).mono (by omega), (b1.le f2.lt).mono (by omega), (b2.le f2.lu).mono (by omega), ((a2.le f1.lu).mul (b2.le f2.lu)).mono (by omega), fun r t2 u2 H' _ s m f3 => ?_⟩
  refine f r H' s ⟨⟨t2, u2, m, fr_of f3.pos f3.co (Int.mul_pos px py) ?_⟩, Int.mul_pos px py, (a1.mul b2).sub ((b1.mul a2).mono (by omega)), (a2.mul b2).mono (by omega)⟩
  have e1 := f1.eq
  have e2 := f2.eq
  have e3 := f3.eq
  have z : (t2 * (x.2 * y.2)) * (u * u') = ((x.1 * y.2 - y.1 * x.2) * u2) * (u * u') := by
    have : (t2 * (x.2 * y.2)) * (u * u') = (t2 * (u * u')) * (x.2 * y.2) := by grind
    rw [this, e3]
    have w1 : (t * u' - t' * u) * u2 * (x.2 * y.2) = ((t * x.2) * u' * y.2 - (t' * y.2) * u * x.2) * u2 := by grind
    rw [w1, e1, e2]
    grind
  have pu := Int.mul_pos f1.pos f2.pos
  exact Int.eq_of_mul_eq_mul_right (by omega) z
theorem q_mul (hx : QAt C H p k x) (hy : QAt C H q j y) (l : k + j ≤ 8900) (l0 : 0 < k) (l1 : 0 < j) (f : ∀ (r : Addr) (H' : Hp), Same H H' → QAt C H' r (k + j + 1) (qmul x y) → Q (.ref r) H') :
    sp_bin2 C (fun t u t' u' => t * t') (fun t u t' u' => u * u') [.ref p, .ref q] H Q E := by
  obtain ⟨⟨t, u, m1, f1⟩, px, a1, a2⟩ := hx
  obtain ⟨⟨t', u', m2, f2⟩, py, b1, b2⟩ := hy
  refine ⟨p, q, t, u, t', u', rfl, m1, m2, f1.pos, f2.pos, (a1.le f1.lt).mono (by omega), (a2.le f1.lu).mono (by omega), (b1.le f2.lt).mono (by omega), (b2.le f2.lu).mono (by omega), ((a2.le f1.lu).mul (b2.le f2.lu)).mono (by omega), fun r t2 u2 H' _ s m f3 => ?_⟩
  refine f r H' s ⟨⟨t2, u2, m, fr_of f3.pos f3.co (Int.mul_pos px py) ?_⟩, Int.mul_pos px py, (a1.mul b1).mono (by omega), (a2.mul b2).mono (by omega)⟩
  have e1 := f1.eq
  have e2 := f2.eq
  have e3 := f3.eq
  have z : (t2 * (x.2 * y.2)) * (u * u') = ((x.1 * y.1) * u2) * (u * u') := by
    have : (t2 * (x.2 * y.2)) * (u * u') = (t2 * (u * u')) * (x.2 * y.2) := by grind
    rw [this, e3]
    have w1 : (t * t') * u2 * (x.2 * y.2) = (t * x.2) * (t' * y.2) * u2 := by grind
    rw [w1, e1, e2]
    grind
  have pu := Int.mul_pos f1.pos f2.pos
  exact Int.eq_of_mul_eq_mul_right (by omega) z
theorem q_mk {a b t u : Int} {H' : Hp} (m : MAt C H' p t u) (f : Fr t u a b) (hb : b ≠ 0) (sa : Sz k a) (sb : Sz k b) : QAt C H' p k (qmk a b) := by
  have pm := sgn_pos hb
  have sgnN : (sgn b).natAbs = 1 := by rcases sgn_cases b with e | e <;> rw [e] <;> rfl
  refine ⟨⟨t, u, m, fr_of f.pos f.co pm ?_⟩, pm, sa.le (by show (a * sgn b).natAbs ≤ _; rw [Int.natAbs_mul, sgnN, Nat.mul_one]; exact Nat.le_refl _), sb.le (by show (b * sgn b).natAbs ≤ _; rw [Int.natAbs_mul, sgnN, Nat.mul_one]; exact Nat.le_refl _)⟩
  show t * (b * sgn b) = a * sgn b * u
  have e := f.eq
  have : t * (b * sgn b) = (t * b) * sgn b := by grind
  rw [this, e]
  grind
theorem q_below {al : Bool} (hx : QAt C H p k x) (hy : QAt C H q j y) (l : k ≤ 9000) (l1 : j ≤ 9000) (f : Q (.bl (ltq x y || (al && eqq x y))) H) : sp_below C [.ref p, .ref q, .bl al] H Q E := by
  obtain ⟨⟨t, u, m1, f1⟩, px, a1, a2⟩ := hx
  obtain ⟨⟨t', u', m2, f2⟩, py, b1, b2⟩ := hy
  refine ⟨p, q, t, u, t', u', al, rfl, m1, m2, (a1.le f1.lt).mono l, (a2.le f1.lu).mono l, (b1.le f2.lt).mono l1, (b2.le f2.lu).mono l1, ?_⟩
  have r1 : Re (t, u) x := ⟨f1.pos, px, f1.eq⟩
  have r2 : Re (t', u') y := ⟨f2.pos, py, f2.eq⟩
  have e : lessA t u t' u' al = (ltq x y || (al && eqq x y)) := by
    rw [← ltq_congr r1 r2, ← eqq_congr r1 r2]
    rfl
  rw [e]
  exact f
end
/-! the same, behind the arguments -/
section
variable {C p q : Addr} {H : Hp} {Q : VK} {E : XK} {k j : Nat} {x y : Q2} {σ : L2.St}
theorem q_addT (hx : QAt C H p k x) (hy : QAt C H q j y) (l : k + j ≤ 8900) (l0 : 0 < k) (l1 : 0 < j) (f : ∀ (r : Addr) (H' : Hp), Same H H' → QAt C H' r (k + j + 1) (qadd x y) → Q (.ref r) H') :
    tNil σ H (fun xs H2 => sp_bin2 C (fun t u t' u' => t * u' + t' * u) (fun t u t' u' => u * u') (.ref p :: ((.ref q :: xs) ++ [])) H2 Q E) := q_add (E := E) hx hy l l0 l1 f
theorem q_subT (hx : QAt C H p k x) (hy : QAt C H q j y) (l : k + j ≤ 8900) (l0 : 0 < k) (l1 : 0 < j) (f : ∀ (r : Addr) (H' : Hp), Same H H' → QAt C H' r (k + j + 1) (qsub x y) → Q (.ref r) H') :
    tNil σ H (fun xs H2 => sp_bin2 C (fun t u t' u' => t * u' - t' * u) (fun t u t' u' => u * u') (.ref p :: ((.ref q :: xs) ++ [])) H2 Q E) := q_sub (E := E) hx hy l l0 l1 f
theorem q_mulT (hx : QAt C H p k x) (hy : QAt C H q j y) (l : k + j ≤ 8900) (l0 : 0 < k) (l1 : 0 < j) (f : ∀ (r : Addr) (H' : Hp), Same H H' → QAt C H' r (k + j + 1) (qmul x y) → Q (.ref r) H') :
    tNil σ H (fun xs H2 => sp_bin2 C (fun t u t' u' => t * t') (fun t u t' u' => u * u') (.ref p :: ((.ref q :: xs) ++ [])) H2 Q E) := q_mul (E := E) hx hy l l0 l1 f
theorem q_belowT (hx : QAt C H p k x) (hy : QAt C H q j y) (l : k ≤ 9000) (l1 : j ≤ 9000) (f : Q (.bl (ltq x y)) H) :
    tNil σ H (fun xs H2 => sp_below C (.ref p :: ((.ref q :: xs) ++ [.bl false])) H2 Q E) := q_below (E := E) (al := false) hx hy l l1 (by rw [Bool.false_and, Bool.or_false]; exact f)
theorem q_belowA (hx : QAt C H p k x) (hy : QAt C H q j y) (l : k ≤ 9000) (l1 : j ≤ 9000) (f : Q (.bl (ltq x y || eqq x y)) H) :
    tCons (tC (.bl true)) tNil σ H (fun xs H2 => sp_below C (.ref p :: ((.ref q :: xs) ++ [])) H2 Q E) := q_below (E := E) (al := true) hx hy l l1 (by rw [Bool.true_and]; exact f)
end
/-! ### sums keep the order; the midst lies between -/
def qhalf (x y : Q2) : Q2 := qprt (qadd x y) 2
/-! ### numbers of at most twelve figures -/
/-! ### constants by their signs -/
/-! ### a comprehension over a text -/
end My
namespace My
open PySem PySem.Spec PyProof.Rows L2
/-! ### comprehensions over anything that is walked -/
section
variable {J : It} {n : Nat} {G : Hp → Prop} {Y : Nat → Hp → V → Hp → Prop} {g : TG} {tt : TT} {te : TE} {vs : List Nat} {σ : L2.St} {H1 : Hp} {D : Addr} {Qd : Hp → Prop}
/-- the elements are known: z some y is told, z none is left out -/
theorem lcz (w : Walk J n G Y) (hGs : ∀ H H', G H → Same H H' → G H') (zs : List (Option V)) (hlen : zs.length = n) (hz : n < sizeLine) (hG : G H1) (hD : H1 D = none)
    (hs : ∀ (i : Nat) (x : V) (H H' : Hp) (z : Option V) (N : VK) (M : Hp → Prop), i < n → zs[i]? = some z → Same H1 H → Y i H x H' → (∀ y H4, z = some y → Same H H4 → N y H4) → (∀ H4, z = none → Same H H4 → M H4) →
      g x (wipe σ vs) H' fun σ2 H2 => wipe σ2 vs = wipe σ vs ∧ tt σ2 H2 fun b H3 => if b = true then te σ2 H3 N else M H3)
    (hd : ∀ H, Same H1 H → H D = some (.lst (zs.filterMap _root_.id)) → Qd H) :
    ∃ W : Nat → Nat → Hp → Prop, (∃ m, W 0 m (upd H1 D (.lst []))) ∧ ∀ i m H, W i m H →
      (J.stop i H ∧ Qd H) ∨ (J.go i H ∧ ∃ Nx : Hp → Prop, (∀ H', Nx H' → ∃ m', m' < m ∧ W (i + 1) m' H') ∧ ∀ x H', J.yld i H x H' → g x (wipe σ vs) H' fun σ2 H2 => wipe σ2 vs = wipe σ vs ∧ tt σ2 H2 fun b H3 =>
        if b = true then te σ2 H3 fun y H4 => ∃ acc, H4 D = some (.lst acc) ∧ acc.length < sizeLine ∧ Nx (upd H4 D (.lst (acc ++ [y]))) else Nx H3) := by
  refine lc_it w (fun i H => Same H1 H ∧ H D = some (.lst ((zs.take i).filterMap _root_.id))) ⟨same1 hD, upd_same⟩ (fun i H _ p => hGs _ _ hG p.1) (fun i x H H' hi p y => ?_) (fun H p => hd H p.1 ?_)
  · have hi2 : i < zs.length := by omega
    have tk : ∀ z, zs[i]? = some z → (zs.take (i + 1)).filterMap _root_.id = (zs.take i).filterMap _root_.id ++ z.toList := fun z e => by
      rw [List.take_add_one, e, List.filterMap_append]
      cases z <;> rfl
    have ez : zs[i]? = some zs[i] := List.getElem?_eq_getElem hi2
    refine hs i x H H' zs[i] _ _ hi ez p.1 y (fun v H4 e s4 => ⟨_, s4 _ _ p.2, ?_, ?_, ?_⟩) (fun H4 e s4 => ⟨p.1.trans s4, ?_⟩)
    · refine Nat.lt_of_le_of_lt (List.length_filterMap_le _ _) ?_
      rw [List.length_take]; omega
    · intro c o ec
      rw [upd_ne (ne_of_none ec hD)]
      exact s4 _ _ (p.1 _ _ ec)
    · rw [upd_same, tk _ ez, e]
      rfl
    · rw [tk _ ez, e, Option.toList_none, List.append_nil]
      exact s4 _ _ p.2
  · have e := p.2
    rw [← hlen, List.take_length] at e
    exact e
/-- the elements are told by what holds of them -/
theorem lcr (w : Walk J n G Y) (hGs : ∀ H H', G H → Same H H' → G H') (R : Nat → Hp → V → Prop) (hR : ∀ i H H' y, R i H y → Nl H H' → R i H' y) (hz : n < sizeLine) (hG : G H1) (hD : H1 D = none)
    (hs : ∀ (i : Nat) (x : V) (H H' : Hp) (N : VK) (M : Hp → Prop), i < n → Same H1 H → Y i H x H' → (∀ y H4, Same H H4 → R i H4 y → N y H4) →
      g x (wipe σ vs) H' fun σ2 H2 => wipe σ2 vs = wipe σ vs ∧ tt σ2 H2 fun b H3 => if b = true then te σ2 H3 N else M H3)
    (hd : ∀ H ys, Same H1 H → H D = some (.lst ys) → ys.length = n → (∀ i y, ys[i]? = some y → R i H y) → Qd H) :
    ∃ W : Nat → Nat → Hp → Prop, (∃ m, W 0 m (upd H1 D (.lst []))) ∧ ∀ i m H, W i m H →
      (J.stop i H ∧ Qd H) ∨ (J.go i H ∧ ∃ Nx : Hp → Prop, (∀ H', Nx H' → ∃ m', m' < m ∧ W (i + 1) m' H') ∧ ∀ x H', J.yld i H x H' → g x (wipe σ vs) H' fun σ2 H2 => wipe σ2 vs = wipe σ vs ∧ tt σ2 H2 fun b H3 =>
        if b = true then te σ2 H3 fun y H4 => ∃ acc, H4 D = some (.lst acc) ∧ acc.length < sizeLine ∧ Nx (upd H4 D (.lst (acc ++ [y]))) else Nx H3) := by
  refine lc_it w (fun i H => Same H1 H ∧ ∃ ys, H D = some (.lst ys) ∧ ys.length = i ∧ ∀ j y, ys[j]? = some y → R j H y) ⟨same1 hD, [], upd_same, rfl, fun j y hy => by simp at hy⟩ (fun i H _ p => hGs _ _ hG p.1) (fun i x H H' hi p y => ?_) (fun H p => ?_)
  · obtain ⟨s1, ys, h1, h2, h3⟩ := p
    refine hs i x H H' _ _ hi s1 y (fun v H4 s4 r4 => ⟨ys, s4 _ _ h1, by omega, ?_, ys ++ [v], upd_same, by rw [List.length_append, h2]; rfl, ?_⟩)
    · intro c o ec
      rw [upd_ne (ne_of_none ec hD)]
      exact s4 _ _ (s1 _ _ ec)
    · intro j z hj
      have n4 : Nl H4 (upd H4 D (.lst (ys ++ [v]))) := Nl.put (s4 _ _ h1)
      by_cases hlt : j < ys.length
      · rw [List.getElem?_append_left hlt] at hj
        exact hR _ _ _ _ (hR _ _ _ _ (h3 j z hj) (Nl.of s4)) n4
      · have hj2 : j = ys.length := by
          have := (List.getElem?_eq_some_iff.mp hj).1
          rw [List.length_append, List.length_singleton] at this
          omega
        subst hj2
        rw [List.getElem?_append_right (Nat.le_refl _), Nat.sub_self] at hj
        cases hj
        rw [h2]
        exact hR _ _ _ _ r4 n4
  · obtain ⟨s1, ys, h1, h2, h3⟩ := p
    exact hd H ys s1 h1 h2 h3
end
/-! ### several Measures -/
/-- the values ps are Measures of the fractions zs -/
structure Mks (C : Addr) (H : Hp) (k : Nat) (ps : List V) (zs : List Q2) : Prop where
  len : ps.length = zs.length
  all : ∀ (i : Nat) (v : V) (z : Q2), ps[i]? = some v → zs[i]? = some z → ∃ p, v = V.ref p ∧ QAt C H p k z
section
variable {C : Addr} {H H' : Hp} {k : Nat} {ps : List V} {zs : List Q2} {v : V}
theorem Mks.same (m : Mks C H k ps zs) (s : Same H H') : Mks C H' k ps zs := ⟨m.len, fun i v z h1 h2 => by
  obtain ⟨p, e, q⟩ := m.all i v z h1 h2
  exact ⟨p, e, q.same s⟩⟩
theorem Mks.kp {hd : Addr} {n : Nat} (m : Mks C H k ps zs) (hh : HandAt H hd n) (s : Kp hd H H') : Mks C H' k ps zs := ⟨m.len, fun i v z h1 h2 => by
  obtain ⟨p, e, q⟩ := m.all i v z h1 h2
  exact ⟨p, e, q.kp hh s⟩⟩
theorem Mks.at (m : Mks C H k ps zs) {i : Nat} {z : Q2} (h : zs[i]? = some z) : ∃ p, ps[i]? = some (.ref p) ∧ QAt C H p k z := by
  have hi : i < ps.length := by rw [m.len]; exact (List.getElem?_eq_some_iff.mp h).1
  obtain ⟨p, e, q⟩ := m.all i _ z (List.getElem?_eq_getElem hi) h
  exact ⟨p, by rw [List.getElem?_eq_getElem hi, e], q⟩
theorem Mks.of (m : Mks C H k ps zs) {i : Nat} {v : V} (h : ps[i]? = some v) : ∃ p z, v = .ref p ∧ zs[i]? = some z ∧ QAt C H p k z := by
  have hi : i < zs.length := by rw [← m.len]; exact (List.getElem?_eq_some_iff.mp h).1
  obtain ⟨p, e, q⟩ := m.all i v _ h (List.getElem?_eq_getElem hi)
  exact ⟨p, _, e, List.getElem?_eq_getElem hi, q⟩
/-- None, or a Measure -/
def QO (C : Addr) (H : Hp) (k : Nat) (v : V) : Option Q2 → Prop
  | none => v = .non
  | some z => ∃ p, v = .ref p ∧ QAt C H p k z
theorem QO.same : ∀ {e : Option Q2}, QO C H k v e → Same H H' → QO C H' k v e
  | none, h, _ => h
  | some _, ⟨p, h1, h2⟩, s => ⟨p, h1, h2.same s⟩
theorem QO.kp {hd : Addr} {n : Nat} : ∀ {e : Option Q2}, QO C H k v e → HandAt H hd n → Kp hd H H' → QO C H' k v e
  | none, h, _, _ => h
  | some _, ⟨p, h1, h2⟩, hh, s => ⟨p, h1, h2.kp hh s⟩
/-- the exact numbers of such a Measure -/
theorem QAt.low {p : Addr} {z : Q2} (q : QAt C H p k z) (l : k ≤ 4000) : ∃ a : Q2, MAt C H p a.1 a.2 ∧ Low a ∧ Re a z := by
  obtain ⟨⟨t, u, m, f⟩, h1, h2, h3⟩ := q
  exact ⟨(t, u), m, ⟨f.pos, f.co, (h2.le f.lt).mono l, (h3.le f.lu).mono l⟩, f.pos, h1, f.eq⟩
theorem QO.low (l : k ≤ 4000) : ∀ {e : Option Q2}, QO C H k v e → ∃ m, MsV C H v m ∧ LowO m ∧ ReO m e
  | none, h => ⟨none, h, trivial, trivial⟩
  | some _, ⟨p, h1, h2⟩ => by
    obtain ⟨a, ma, la, ra⟩ := h2.low l
    exact ⟨some a, ⟨p, h1, ma⟩, la, ra⟩
theorem QAt.of {p : Addr} {a z : Q2} (m : MAt C H p a.1 a.2) (l : Low a) (r : Re a z) (s1 : Sz k z.1) (s2 : Sz k z.2) : QAt C H p k z :=
  ⟨⟨a.1, a.2, m, fr_of l.pos l.co r.2.1 r.2.2⟩, r.2.1, s1, s2⟩
end
/-! ### a Ladder -/
def lf (T : V) (r : Str) (l h : V) : List (Str × V) := [("marks", T), ("rule", .str r), ("least", l), ("most", h)]
theorem lf_put (T : V) (r : Str) (l h : V) : putF "most" h (putF "least" l (putF "rule" (.str r) (putF "marks" T []))) = lf T r l h := by
  have e1 : putF ("rule" : Str) (.str r) (putF ("marks" : Str) T []) = ([("marks", T), ("rule", .str r)] : List (Str × V)) := by
    show (if ("marks" : Str) = "rule" then [(("marks" : Str), V.str r)] else (("marks" : Str), T) :: putF "rule" (.str r) []) = _
    rw [if_neg (by decide +kernel)] <;> rfl
  have e2 : putF ("least" : Str) l [("marks", T), ("rule", .str r)] = ([("marks", T), ("rule", .str r), ("least", l)] : List (Str × V)) := by
    show (if ("marks" : Str) = "least" then _ else (("marks" : Str), T) :: (if ("rule" : Str) = "least" then _ else (("rule" : Str), V.str r) :: putF "least" l [])) = _
    rw [if_neg (by decide +kernel), if_neg (by decide +kernel)] <;> rfl
  have e3 : putF ("most" : Str) h [("marks", T), ("rule", .str r), ("least", l)] = lf T r l h := by
    show (if ("marks" : Str) = "most" then _ else (("marks" : Str), T) :: (if ("rule" : Str) = "most" then _ else (("rule" : Str), V.str r) :: (if ("least" : Str) = "most" then _ else (("least" : Str), l) :: putF "most" h []))) = _
    rw [if_neg (by decide +kernel), if_neg (by decide +kernel), if_neg (by decide +kernel)] <;> rfl
  rw [e1, e2, e3]
section
variable (T : V) (r : Str) (l h : V)
theorem lf_marks : (lf T r l h).lookup ("marks" : Str) = some T := by
  rw [← lf_put, lookup_putF, if_neg (by decide +kernel), lookup_putF, if_neg (by decide +kernel), lookup_putF, if_neg (by decide +kernel), lookup_putF, if_pos rfl]
theorem lf_rule : (lf T r l h).lookup ("rule" : Str) = some (.str r) := by
  rw [← lf_put, lookup_putF, if_neg (by decide +kernel), lookup_putF, if_neg (by decide +kernel), lookup_putF, if_pos rfl]
theorem lf_least : (lf T r l h).lookup ("least" : Str) = some l := by
  rw [← lf_put, lookup_putF, if_neg (by decide +kernel), lookup_putF, if_pos rfl]
theorem lf_most : (lf T r l h).lookup ("most" : Str) = some h := by
  rw [← lf_put, lookup_putF, if_pos rfl]
theorem lf_no {m : Str} (h1 : ¬ m = "marks") (h2 : ¬ m = "rule") (h3 : ¬ m = "least") (h4 : ¬ m = "most") : (lf T r l h).lookup m = none := by
  rw [← lf_put, lookup_putF, if_neg h4, lookup_putF, if_neg h3, lookup_putF, if_neg h2, lookup_putF, if_neg h1] <;> rfl
end
/-- rows that rise -/
def RiseQ (zs : List Q2) : Prop := ∀ i a b, zs[i]? = some a → zs[i + 1]? = some b → ltq a b = true
/-- the first row that isn't above the one ahead -/
def SlipQ (zs : List Q2) : Option Nat → Prop
  | none => RiseQ zs
  | some n => 1 ≤ n ∧ n < zs.length ∧ (∀ a b, zs[n - 1]? = some a → zs[n]? = some b → ltq a b = false) ∧ ∀ i a b, i + 1 < n → zs[i]? = some a → zs[i + 1]? = some b → ltq a b = true
def optI : Option Nat → V
  | none => .non
  | some n => .int (n : Int)
def leq (a b : Q2) : Bool := ltq a b || eqq a b
/-- least isn't above most -/
def spanB : Option Q2 → Option Q2 → Bool
  | some a, some b => !ltq b a
  | _, _ => true
def IsRule (r : Str) : Prop := r = "up" ∨ r = "down" ∨ r = "near"
structure LadAt (K : PySem.W.Frag) (CM CL : Addr) (H : Hp) (p : Addr) (k : Nat) (zs : List Q2) (r : Str) (lo hi : Option Q2) : Prop where
  ob : ∃ dx T ps l h, H p = some (.ins CL dx (lf (.ref T) r l h)) ∧ SqT K H T ps ∧ Mks CM H k ps zs ∧ QO CM H k l lo ∧ QO CM H k h hi
  len0 : 0 < zs.length
  len1 : zs.length ≤ 24
  rise : RiseQ zs
  rule : IsRule r
  span : spanB lo hi = true
theorem LadAt.same {K : PySem.W.Frag} {CM CL p : Addr} {H H' : Hp} {k : Nat} {zs : List Q2} {r : Str} {lo hi : Option Q2} (a : LadAt K CM CL H p k zs r lo hi) (s : Same H H') : LadAt K CM CL H' p k zs r lo hi := by
  obtain ⟨⟨dx, T, ps, l, h, h1, h2, h3, h4, h5⟩, a1, a2, a3, a4, a5⟩ := a
  exact ⟨⟨dx, T, ps, l, h, s _ _ h1, s.sqt h2, h3.same s, h4.same s, h5.same s⟩, a1, a2, a3, a4, a5⟩
theorem LadAt.raw {K : PySem.W.Frag} {CM CL p : Addr} {H : Hp} {k : Nat} {zs : List Q2} {r : Str} {lo hi : Option Q2} (a : LadAt K CM CL H p k zs r lo hi) {m : Str} (h1 : ¬ m = "marks") (h2 : ¬ m = "rule") (h3 : ¬ m = "least") (h4 : ¬ m = "most") : ∃ dx fs, H p = some (.ins CL dx fs) ∧ fs.lookup m = none := by
  obtain ⟨⟨dx, T, ps, l, h, e1, _⟩, _⟩ := a
  exact ⟨dx, _, e1, lf_no _ _ _ _ h1 h2 h3 h4⟩
/-- the midsts of neighbours -/
def midq : List Q2 → List Q2
  | a :: b :: r => qhalf a b :: midq (b :: r)
  | _ => []
theorem atI_of {xs : List V} {z : Int} {n : Nat} {v : V} (e : z = (n : Int)) (h : xs[n]? = some v) : atI xs z = some v := by
  rw [e]; exact atI_nat h
theorem ge2 {n : Nat} {zs : List Q2} (h : n < zs.length) : ∃ a, zs[n]? = some a := ⟨_, List.getElem?_eq_getElem h⟩
theorem tyTup {K : PySem.W.Frag} {H : Hp} {T : Addr} {ps : List V} (h : SqT K H T ps) : TyX K H (.ref T) (.type "tuple") := by
  rcases h with (h | ⟨o, h⟩) | ⟨o, its, n, h, c, _⟩
  · exact .base (.tup h)
  · exact .fTuple h
  · exact .kTuple h c
/-! ### what the defs of ladders promise -/
theorem iteDT {c A B : Prop} [Decidable c] (hc : c) (h : A) : if decide c = true then A else B := by
  rw [if_pos (decide_eq_true hc)]; exact h
theorem iteDF {c A B : Prop} [Decidable c] (hc : ¬ c) (h : B) : if decide c = true then A else B := by
  rw [if_neg (by simpa using hc)]; exact h
theorem iteNT {c A B : Prop} [Decidable c] (hc : ¬ c) (h : A) : if (!decide c) = true then A else B := by
  rw [if_pos (by simpa using hc)]; exact h
section
variable {C H p k} {m : Str} {R : Prop}
theorem meth_q {x : Q2} (q : QAt C H p k x) (h1 : ¬ m = "top") (h2 : ¬ m = "bottom") (h : R) : ∃ a dx fs, V.ref p = .ref a ∧ H a = some (.ins C dx fs) ∧ fs.lookup m = none ∧ R := by
  obtain ⟨dx, fs, e1, e2⟩ := q.raw h1 h2
  exact ⟨p, dx, fs, rfl, e1, e2, h⟩
theorem meth_l {K : PySem.W.Frag} {CM : Addr} {zs : List Q2} {r : Str} {lo hi : Option Q2} (q : LadAt K CM C H p k zs r lo hi) (h1 : ¬ m = "marks") (h2 : ¬ m = "rule") (h3 : ¬ m = "least") (h4 : ¬ m = "most") (h : R) : ∃ a dx fs, V.ref p = .ref a ∧ H a = some (.ins C dx fs) ∧ fs.lookup m = none ∧ R := by
  obtain ⟨dx, fs, e1, e2⟩ := q.raw h1 h2 h3 h4
  exact ⟨p, dx, fs, rfl, e1, e2, h⟩
theorem meth_s {CM : Addr} {lo hi : Option Q2} {li hj : Bool} (q : StAt CM C H p lo hi li hj) (h1 : ¬ m = "low") (h2 : ¬ m = "high") (h3 : ¬ m = "low_in") (h4 : ¬ m = "high_in") (h : R) : ∃ a dx fs, V.ref p = .ref a ∧ H a = some (.ins C dx fs) ∧ fs.lookup m = none ∧ R := by
  obtain ⟨dx, fs, e1, e2⟩ := q.raw h1 h2 h3 h4
  exact ⟨p, dx, fs, rfl, e1, e2, h⟩
end
end My
namespace My
open PySem PySem.Spec PyProof.Rows L2
/-! ### enumerate of a tuple -/
theorem meets_en1 {v : Value} {o : Obj} {Hh : Heap → Prop} (B : Begins v o Hh) : Meets (Builtin.«enumerate.__new__» ⟨[.type "enumerate", v], []⟩) (fun _ R s => Hh s.heap ∧
      R (.ok (.ret (.ref (s.heap.push o).objs.size))) { s with heap := (s.heap.push o).push { cls := .type "enumerate", data := .fields #[.none, .bool false, .ref s.heap.objs.size, rawInt 0, .none, .none] } }) :=
  .of_wp fun prog w A R s hh => by
    obtain ⟨hp, g, d, tk, os⟩ := s
    obtain ⟨hb, hr⟩ := hh
    have sub := sub_enumerate
    have qi : ∀ {A' : Around} {E : Value → Shared → Prop} {Q : Value → Shared → Prop}, Q (.ref hp.objs.size) ⟨hp.push o, g, d, tk, os⟩ → wpAny (model prog w) A' (pyIter v) Q E ⟨hp, g, d, tk, os⟩ := fun q => B.iter prog w _ _ ⟨hp, g, d, tk, os⟩ _ hb q
    wp_walk using qi
    refine wpAny_stack_any fun st => wpAny_pure ?_
    split
    · rename_i c _ _ _ _ _
      cases (c == Value.type "enumerate")
      · wp_walk using qi
        exact ⟨_, rfl, hr⟩
      · wp_walk using qi
        exact ⟨_, rfl, hr⟩
    · wp_walk using qi
      exact ⟨_, rfl, hr⟩
theorem call_en1 {prog : Program} {w : World} {A : Around} {E : Value → Shared → Prop} {s : Shared} {v : Value} {o : Obj} {Hh : Heap → Prop} {Q : Value → Shared → Prop} (B : Begins v o Hh) (hb : Hh s.heap)
    (f : ∀ h', IsEnum h' (s.heap.objs.size + 1) s.heap.objs.size 0 .none → h'.get? s.heap.objs.size = some o → (∀ b u, s.heap.get? b = some u → h'.get? b = some u) → Q (.ref (s.heap.objs.size + 1)) { s with heap := h' }) :
    wpAny (model prog w) A (call (.type "enumerate") [v]) Q E s := by
  refine callType_new PySem.F.called_enumerate (by decide) (PySem.F.typeCall_enumerate_1 _) (PySem.F.newCall_enumerate_1 _) (fun ob => PySem.F.args_object_init_2 ob _) PySem.F.entry_enumerate_new (meets_en1 B) ⟨hb, ?_⟩
  have hz : (s.heap.push o).objs.size = s.heap.objs.size + 1 := Heap.size_push ..
  have en := Heap.get?_push_size (s.heap.push o) (o := { cls := .type "enumerate", data := .fields #[.none, .bool false, .ref s.heap.objs.size, rawInt 0, .none, .none] }) rfl
  show _ ∧ _
  rw [hz] at en ⊢
  exact ⟨⟨_, en, rfl⟩, f _ en (Heap.get?_push_of_some _ (Heap.get?_push_size _ B.free)) fun b u x => Heap.get?_push_of_some _ (Heap.get?_push_of_some _ x)⟩
/-- the tuple at a, its items in new pairs -/
def ItT (K : PySem.W.Frag) (a : Addr) : It :=
  ⟨fun i H => ∃ (xs : List V) (x : V), SqT K H a xs ∧ xs[i]? = some x, fun i H v H' => ∃ T x, v = .ref T ∧ H T = none ∧ H' = upd H T (.tup [.int (i : Nat), x]) ∧ ∀ xs, SqT K H a xs → xs[i]? = some x, fun i H => ∃ xs : List V, SqT K H a xs ∧ xs.length = i⟩
theorem ti_ne {h : Heap} {it a : Addr} {i : Nat} {its : Array Value} (x : h.IsTupleIter it a i) (y : h.IsTuple a its) : a ≠ it := by
  intro e
  subst e
  obtain ⟨o, e1, c1, _⟩ := x
  obtain ⟨o', e2, c2, _⟩ := y
  rw [e1] at e2
  cases e2
  rw [c1] at c2
  injection c2 with e
  exact absurd e (by decide)
theorem turn_enumT {P : Program} {w : World} {K : PySem.W.Frag} {elts : List Expr} {kk : Nat} {tpos : Pos} (a e it : Addr) :
    Turn P w K (.Tuple elts kk tpos) (ItT K a) [e, it] e (fun i h => (∃ old, IsEnum h e it ((i : Nat) : Int) old) ∧ h.IsTupleIter it a i ∧ e ≠ it ∧ e ≠ a) where
  mem := by simp
  obj := fun i h st b hb => by
    obtain ⟨⟨old, he⟩, ⟨o, ho, hc, hd⟩, _⟩ := st
    rcases (show b = e ∨ b = it by simpa using hb) with z | z
    · rw [z]; exact ⟨_, he, fun v q => nomatch q⟩
    · rw [z]; exact ⟨o, ho, fun v q => by rw [hd] at q; cases q⟩
  keep := fun i h h' st k => let ⟨⟨old, he⟩, hi, hne⟩ := st; ⟨⟨old, k e (by simp) _ he⟩, hi.at fun o q => k it (by simp) o q, hne⟩
  item := by
    intro X hP hw hK hc i pins s σ H E I hf st hg
    subst hP hw hK
    obtain ⟨⟨old, he⟩, hit, hne, hna⟩ := st
    obtain ⟨xs, x, hq, hx⟩ := hg
    obtain ⟨its, rv, p, hz⟩ := I.tuple hq
    have pT : s.heap.IsTuple a its.toArray := p
    obtain ⟨u, hu, ru⟩ := rv.get hx
    have hel : e < s.heap.objs.size := Heap.lt_size he
    have hil : it < s.heap.objs.size := by obtain ⟨_, q, _⟩ := hit; exact Heap.lt_size q
    have hi2 : i < its.toArray.size := by
      have := (List.getElem?_eq_some_iff.mp hu).1
      simpa using this
    have DD := Draws.tuple (prog := X.prog) (w := X.w) (A := X.A.in1) (I.ok.hd hc) it a (ti_ne hit pT) its.toArray
    refine wpAny_pyNext_enum_itemC DD he ⟨hit, pT⟩ hi2 hne (by simp [hne, hna]) fun y h' tk hy ho hst hT hsz hk => ?_
    have ey : y = u := by
      have : its[i]? = some y := by simpa using hy
      rw [hu] at this
      exact (Option.some.inj this).symm
    subst ey
    refine ⟨_, rfl, wpAny_letOwnedTupleGo_enum (s := { s with heap := h', toks := tk + 1 }) ho fun h'' he' sb => ?_⟩
    have hT2 : h''.get? s.heap.objs.size = some { cls := .type "tuple", data := .seq #[.int i tk, y] } := (sb.2 _ (Nat.ne_of_gt hel)).trans hT
    have new : ObjOk X.prog X.w (upd H s.heap.objs.size (.tup [.int (i : Nat), x])) h'' s.heap.objs.size (.tup [.int (i : Nat), x]) :=
      ⟨by show 2 ≤ sizeLine; decide, [.int i tk, y], .cons ⟨_, rfl⟩ (.cons ru .nil), ⟨_, hT2, rfl, _, rfl⟩⟩
    have I1 : Inv X pins σ (upd H s.heap.objs.size (.tup [.int (i : Nat), x])) { s with heap := h'', toks := tk + 1 } :=
      I.turnedNew (ch := [e, it]) (fun b ob hb q => (sb.2 b (fun z => hb (by simp [z]))).trans (hk b ob (fun z => hb (by simp [z])) (fun z => hb (by simp [z])) q)) hf (Nat.le_refl _) new
    refine ⟨.ref s.heap.objs.size, _, I1, rfl, ⟨_, x, rfl, I.hok.fresh (Nat.le_refl _), rfl, fun ys hy => by rw [I.tuple_inj hy hq]; exact hx⟩, ⟨⟨y, ?_⟩, hst.1.at fun o q => (sb.2 it (Ne.symm hne)).trans q, hne, hna⟩, fun b hb => ?_⟩
    · have e1 : ((i + 1 : Nat) : Int) = (i : Int) + 1 := by omega
      rw [e1]; exact he'
    · have hb' : b < s.heap.objs.size := by
        rcases (show b = e ∨ b = it by simpa using hb) with z | z
        · rw [z]; exact hel
        · rw [z]; exact hil
      rw [upd_ne (Nat.ne_of_lt hb')]
      exact (hf b hb).1
  done := by
    intro X hP hw hK hc i pins s σ H E I hf st hg
    subst hP hw hK
    obtain ⟨⟨old, he⟩, hit, hne, hna⟩ := st
    obtain ⟨xs, hq, hx⟩ := hg
    obtain ⟨its, rv, p, hz⟩ := I.tuple hq
    have pT : s.heap.IsTuple a its.toArray := p
    obtain ⟨f0, f1, f2, f3, f4, f5⟩ := hf it (by simp)
    have hl := rv.length
    have hi : i = its.toArray.size := by rw [List.size_toArray]; omega
    have DD := Draws.tuple (prog := X.prog) (w := X.w) (A := X.A.in1) (I.ok.hd hc) it a (ti_ne hit pT) its.toArray
    exact wpAny_pyNext_enum_endD DD he ⟨by rw [← hi]; exact hit, pT⟩ fun h' eb => ⟨rfl, I.turned (t' := s.toks) (fun b o hb q => eb b o hb q) f0 f1 f3 f4 f5⟩
  self := fun A i s Q E st h => let ⟨⟨_, he⟩, _⟩ := st; wpAny_pyIter_enum he h
def iEnumT (K : PySem.W.Frag) (ta : TA) : TI := fun σ H R => ta σ H fun vs H1 => ∃ a xs, vs = [.ref a] ∧ SqT K H1 a xs ∧ R (ItT K a) H1
theorem pi_enumT {X : Cx} {e : Expr} {ta : TA} {p pos tpos : Pos} {elts : List Expr} {kk : Nat} (hg : Gl X "enumerate") (hm : X.mg "enumerate" = none) (ha : PA X [e] ta) (hs : starEach [e] X.env = [(false, eval e X.env)] := by rfl) :
    PI X (.Tuple elts kk tpos) (.Call (.Name "enumerate" p) [e] [] pos) (iEnumT X.K ta) := by
  refine ⟨fun pins s σ H R I h => ?_⟩
  refine Call_ (ld_blt I hg hm boot_enumerate (PyProof.Rows.callWith_type1 (thn (ha.run pos pins s σ H _ I h) fun us s1 ⟨vs, H1, I1, r1, q1⟩ => ?_) hs rfl))
  obtain ⟨a, xs, ex, hq, q⟩ := q1
  subst ex
  cases r1 with
  | cons r rr =>
    cases rr
    cases r
    obtain ⟨its, rv, p', hz⟩ := I1.tuple hq
    have pT : s1.heap.IsTuple a its.toArray := p'
    have la : a < s1.heap.objs.size := by obtain ⟨_, q, _⟩ := pT; exact Heap.lt_size q
    refine call_en1 (begins_tuple a its.toArray) pT fun h' he hit hk => wpAny_pyIter_enum he ?_
    have I2 : Inv X pins σ H1 { s1 with heap := h' } := I1.kept (t' := s1.toks) hk
    refine ⟨s1.heap.objs.size + 1, [s1.heap.objs.size + 1, s1.heap.objs.size], _, _, H1, rfl, I2, turn_enumT a (s1.heap.objs.size + 1) s1.heap.objs.size, ⟨⟨.none, he⟩, ⟨_, hit, rfl, rfl⟩, Nat.succ_ne_self _, Nat.ne_of_gt (Nat.lt_succ_of_lt la)⟩, fun b hb => ?_, q⟩
    have hle : s1.heap.objs.size ≤ b := by
      rcases (show b = s1.heap.objs.size + 1 ∨ b = s1.heap.objs.size by simpa using hb) with z | z
      · rw [z]; exact Nat.le_add_right _ _
      · rw [z]; exact Nat.le_refl _
    exact I1.fpOk hle (I1.hok.fresh hle)
theorem walk_enumT {K : PySem.W.Frag} {a : Addr} {xs : List V} : Walk (ItT K a) xs.length (fun H => SqT K H a xs) (YPair (fun i => some (.int (i : Nat))) (fun i => xs[i]?)) := by
  refine ⟨fun i _ hi q => ⟨xs, xs[i], q, by simp [hi]⟩, fun _ q => ⟨xs, q, rfl⟩, fun i H v H' _ q y => ?_⟩
  obtain ⟨T, x, h1, h2, h3, h4⟩ := y
  exact ⟨T, .int (i : Nat), x, h1, h2, h3, rfl, h4 xs q⟩
section
variable {X : Cx}
/-! ### len of an own object -/
end
/-! ### max and min with a default -/
theorem fold_max : ∀ (ns : List Int) (n : Int), ns.foldl max n ∈ n :: ns ∧ ∀ y ∈ n :: ns, y ≤ ns.foldl max n
  | [], n => ⟨by simp, fun y hy => by simp at hy; simp [hy]⟩
  | m :: ns, n => by
    obtain ⟨h1, h2⟩ := fold_max ns (max n m)
    refine ⟨?_, fun y hy => ?_⟩
    · show ns.foldl max (max n m) ∈ _
      rcases List.mem_cons.mp h1 with e | e
      · rw [e]
        rcases Int.le_total n m with l | l
        · rw [Int.max_eq_right l]; simp
        · rw [Int.max_eq_left l]; simp
      · simp [e]
    · show y ≤ ns.foldl max (max n m)
      have h0 := h2 (max n m) (by simp)
      rcases List.mem_cons.mp hy with e | e
      · rw [e]; omega
      · rcases List.mem_cons.mp e with e | e
        · rw [e]; omega
        · exact h2 y (by simp [e])
theorem ints_alike (ns : List Int) : PySem.W.AlikeAll (ns.map PyData.int) := by
  refine ⟨fun x hx y hy => ?_, fun x hx => ?_⟩
  · obtain ⟨a, _, rfl⟩ := List.mem_map.mp hx
    obtain ⟨b, _, rfl⟩ := List.mem_map.mp hy
    rfl
  · obtain ⟨a, _, rfl⟩ := List.mem_map.mp hx
    exact fun z => nomatch z
theorem ints_depth : ∀ ns : List Int, PyData.depthAll (ns.map PyData.int) ≤ 1
  | [] => by simp [PyData.depthAll]
  | n :: ns => by
    have := ints_depth ns
    simp [PyData.depthAll, PyData.depth] at this ⊢
    omega
section
variable {X : Cx} {K : PySem.W.Frag}
def rMaxDf (K : PySem.W.Frag) : List V → List V → Hp → VK → Prop := fun xs zs H Q => ∃ (a : Addr) (ns : List Int) (d : V), xs = [.ref a] ∧ zs = [d] ∧ SqL K H a (ns.map V.int) ∧ (ns = [] → Q d H) ∧ ∀ m, m ∈ ns → (∀ y ∈ ns, y ≤ m) → Q (.int m) H
theorem maxDf {k : Nat} (hr : Room k X.A) (hK : X.K = K := by rfl) (hc : X.calm = true := by rfl) : CallRK X (.builtin "max") ["default"] (rMaxDf K) := by
  subst hK
  intro pins s σ H xs zs us ws Q I r1 r2 h
  obtain ⟨a, ns, d, rfl, rfl, hs, h0, h1⟩ := h
  obtain ⟨its, rv, hl, _⟩ := I.list hs
  rw [Vals.ref1 r1]
  obtain ⟨dv, rfl, rd⟩ := vals1 r2
  have hu := hr.un
  have hd := ints_depth ns
  refine PySem.W.max_list_default (xs := ns.map PyData.int) (I.ok.hd hc) hl.isList (by simpa using (rv.ints).reads s.heap) (ints_alike ns) (by omega) (fun e h' tk hk => ?_) (fun y ys i v h' tk bs e hv rr hk => ?_)
  · have e2 : ns = [] := by simpa using e
    exact ⟨d, H, I.kept hk, rd, h0 e2⟩
  · cases ns with
    | nil => simp at e
    | cons n ns =>
      simp only [List.map_cons, List.cons.injEq] at e
      obtain ⟨rfl, rfl⟩ := e
      rw [PySem.W.maxD_ints] at rr
      obtain ⟨f1, f2⟩ := fold_max ns n
      cases rr
      exact ⟨.int _, H, I.kept hk, ⟨_, rfl⟩, h1 _ f1 f2⟩
theorem maxL (hK : X.K = K := by rfl) (hc : X.calm = true := by rfl) : CallR X (.builtin "max") (rMax K) := by subst hK; exact cr_max hc
/-! ### xs[::k] -/
def rTupL (K : PySem.W.Frag) : List V → Hp → VK → Prop := fun xs H Q => ∃ (p : Addr) (ys : List V), xs = [.ref p] ∧ SqL K H p ys ∧ ∀ l, H l = none → Q (.ref l) (upd H l (.tup ys))
theorem tupleL (hK : X.K = K := by rfl) : CallR X (.type "tuple") (rTupL K) := by
  subst hK
  intro pins s σ H xs us Q I r h
  obtain ⟨p, ys, e, h1, h2⟩ := h
  exact call_tuple_of pins s σ H xs us Q I r ⟨p, ys, e, .inl ⟨h1, h2⟩⟩
theorem walk_zipT {a b : Addr} {xs ys : List V} {n : Nat} (hn : n = min xs.length ys.length) : Walk (RZ.ItzT K a b) n (fun H => SqT K H a xs ∧ SqT K H b ys) (YPair (fun i => xs[i]?) (fun i => ys[i]?)) := by
  subst hn
  refine ⟨fun i _ hi q => ?_, fun _ q => ⟨xs, ys, q.1, q.2, by omega⟩, fun i H v H' _ q y => ?_⟩
  · have h1 : i < xs.length := by omega
    have h2 : i < ys.length := by omega
    exact ⟨xs, ys, xs[i], ys[i], q.1, q.2, by simp [h1], by simp [h2]⟩
  · obtain ⟨T, x, z, h1, h2, h3, h4, h5⟩ := y
    exact ⟨T, x, z, h1, h2, h3, h4 xs q.1, h5 ys q.2⟩
end
theorem logS {m : Int} (h : m.natAbs < 2 ^ 60) : m.natAbs.log2 < 9000 := Nat.lt_of_lt_of_le (PySem.Flt.log2_lt_of (by decide) h) (by decide)
theorem szl {n : Nat} (h : n ≤ 1000) : n ≤ sizeLine := Nat.le_trans h (by decide)
theorem szb {n : Nat} (h : Nat.ble n 1000 = true) : n ≤ sizeLine := szl (Nat.le_of_ble_eq_true h)
theorem szs {n : Nat} (h : n < 1000) : n < sizeLine := Nat.lt_of_lt_of_le h (by decide)
theorem qmk_pos {a b : Int} (h : 0 < b) : qmk a b = (a, b) := by
  have e : sgn b = 1 := by unfold sgn; rw [if_pos h]
  unfold qmk
  rw [e, Int.mul_one, Int.mul_one]
/-- a Measure is made -/
theorem q_made {C : Addr} {H : Hp} {Qa : Addr → Hp → Prop} {E : XK} {k : Nat} {a b : Int} (hb : 0 < b) (sa : Sz k a) (sb : Sz k b) (k0 : 0 < k) (k1 : k ≤ 8900) (f : ∀ (p : Addr) (H' : Hp), Same H H' → QAt C H' p k (a, b) → Qa p H') :
    ∀ x dx, H x = none → H dx = none → dx ≠ x → sp_minit C [.ref x, .int a, .int b] (upd (upd H dx (.own x)) x (.ins C dx [])) (fun v H2 => v = .non ∧ Qa x H2) E := by
  intro x dx nx nd ne
  refine ⟨x, dx, a, b, rfl, upd_same, by omega, Sz.log sb k0 (by omega), fun t u H' fr hx kp => ⟨rfl, ?_⟩⟩
  have q := q_mk (k := k) ⟨dx, hx⟩ fr (by omega) sa sb
  rw [qmk_pos hb] at q
  exact f x H' (made_same nx nd kp) q
/-! ### draws -/
/-- one of a list -/
def sp_of (K : PySem.W.Frag) : Sp := fun vs H Q _ => ∃ (h l : Addr) (n : Nat) (xs : List V), vs = [.ref h, .ref l] ∧ HandAt H h n ∧ n < 100000 ∧ SqL K H l xs ∧ l ≠ h ∧ 0 < xs.length ∧ xs.length ≤ 1000 ∧
  ∀ (i : Nat) (x : V) (H' : Hp), xs[i]? = some x → HandAt H' h (n + 1) → Kp h H H' → Q x H'
end My
namespace My
open PySem PySem.Spec PyProof.Rows L2
theorem HandAt.put {H : Hp} {h l : Addr} {u : HO} {n : Nat} (a : HandAt H h n) (ne : l ≠ h) : HandAt (upd H l u) h n := by
  obtain ⟨x, y, z, h1, h2⟩ := a
  exact ⟨x, y, z, by rw [upd_ne ne.symm]; exact h1, h2⟩
theorem Kp.fresh {h l : Addr} {H H1 : Hp} (k : Kp h H H1) (hn : H1 l = none) (ne : l ≠ h) : H l = none := by
  cases e : H l with
  | none => rfl
  | some o => rw [k l o e ne] at hn; cases hn
theorem Kp.putN {h l : Addr} {H H1 : Hp} {u : HO} (k : Kp h H H1) (hn : H l = none) : Kp h H (upd H1 l u) := fun c o e n => by
  rw [upd_ne (ne_of_none e hn)]; exact k c o e n
theorem geI {n : Nat} {zs : List Int} (h : n < zs.length) : ∃ a, zs[n]? = some a := ⟨_, List.getElem?_eq_getElem h⟩
theorem mapI {ms : List Int} {n : Nat} {a : Int} (h : ms[n]? = some a) : (ms.map V.int)[n]? = some (.int a) := by rw [List.getElem?_map, h]; rfl
def optZ : Option Int → V
  | none => .non
  | some z => .int z
/-- a ladder in whole parts, as the laws draw it -/
structure LawL (H : Hp) (p : Addr) (part : Int) (ms : List Int) (r : Str) (lo hi : Option Int) : Prop where
  ob : ∃ T, H p = some (.tup [.int part, .ref T, .str r, optZ lo, optZ hi]) ∧ H T = some (.tup (ms.map V.int))
  p0 : 0 < part
  p1 : part ≤ 10007
  len0 : 0 < ms.length
  len1 : ms.length ≤ 24
  rise : ∀ (i : Nat) (a b : Int), ms[i]? = some a → ms[i + 1]? = some b → a < b
  four : ∀ m ∈ ms, m % 4 = 0
  bnd : ∀ m ∈ ms, -4000000 ≤ m ∧ m ≤ 4000000
  blo : ∀ z, lo = some z → -4000040 ≤ z ∧ z ≤ 4000040
  bhi : ∀ z, hi = some z → -4000040 ≤ z ∧ z ≤ 4000040
  rule : IsRule r
  span : ∀ a b, lo = some a → hi = some b → a ≤ b
section
variable {H H' : Hp} {p : Addr} {part : Int} {ms : List Int} {r : Str} {lo hi : Option Int}
theorem LawL.same (a : LawL H p part ms r lo hi) (s : Same H H') : LawL H' p part ms r lo hi := by
  obtain ⟨⟨T, h1, h2⟩, a1⟩ := a
  exact ⟨⟨T, s _ _ h1, s _ _ h2⟩, by assumption, by assumption, by assumption, by assumption, by assumption, by assumption, by assumption, by assumption, by assumption, by assumption, by assumption⟩
/-- the parts as fractions -/
def zq (d : Int) (ms : List Int) : List Q2 := ms.map fun m => (m, d)
def oq (d : Int) (o : Option Int) : Option Q2 := o.map fun m => (m, d)
theorem zq_len (d : Int) (ms : List Int) : (zq d ms).length = ms.length := List.length_map ..
theorem zq_get {d : Int} {ms : List Int} {i : Nat} {z : Q2} (h : (zq d ms)[i]? = some z) : ∃ m, ms[i]? = some m ∧ z = (m, d) := by
  unfold zq at h
  rw [List.getElem?_map] at h
  cases e : ms[i]? with
  | none => rw [e] at h; cases h
  | some m => rw [e] at h; exact ⟨m, rfl, (Option.some.inj h).symm⟩
theorem ltq_d {d a b : Int} (h : 0 < d) : ltq (a, d) (b, d) = decide (a < b) := by
  unfold ltq
  refine decide_eq_decide.mpr ⟨fun z => Int.lt_of_mul_lt_mul_right z (Int.le_of_lt h), fun z => Int.mul_lt_mul_of_pos_right z h⟩
end
theorem map_snoc (ms : List Int) (x : Int) : ms.map V.int ++ [V.int x] = (ms ++ [x]).map V.int := by simp
theorem cutV_tail (xs : List V) : cutV xs (some 1) none = xs.drop 1 := by
  unfold cutV
  have e : HT.sIx xs.length 0 (some ((1 : Nat) : Int)) = min 1 xs.length := HT.sIx_nat xs.length 0 1
  have e1 : HT.sIx xs.length 0 (some (1 : Int)) = min 1 xs.length := e
  rw [e1, HT.sIx_none]
  cases xs with
  | nil => rfl
  | cons x xs =>
    rw [show min 1 (x :: xs).length = 1 by simp]
    rw [List.take_of_length_le (by rw [List.length_drop]; omega)]
/-- whole numbers within a bound -/
def IntsB (B : Int) (xs : List V) : Prop := ∀ x ∈ xs, ∃ z : Int, x = .int z ∧ -B ≤ z ∧ z ≤ B
theorem IntsB.mono {B B' : Int} {xs : List V} (a : IntsB B xs) (l : B ≤ B') : IntsB B' xs := fun x h => by
  obtain ⟨z, e, h1, h2⟩ := a x h
  exact ⟨z, e, by omega, by omega⟩
theorem IntsB.ints {B : Int} : ∀ {xs : List V}, IntsB B xs → ∃ ys : List Int, xs = ys.map V.int ∧ ∀ y ∈ ys, -B ≤ y ∧ y ≤ B
  | [], _ => ⟨[], rfl, fun y h => by simp at h⟩
  | x :: xs, a => by
    obtain ⟨z, rfl, h1⟩ := a x (by simp)
    obtain ⟨ys, e, h2⟩ := IntsB.ints (xs := xs) fun w hw => a w (by simp [hw])
    refine ⟨z :: ys, by rw [e]; rfl, fun y hy => ?_⟩
    rcases List.mem_cons.mp hy with e | e
    · rw [e]; exact h1
    · exact h2 y e
theorem IntsB.of {B : Int} {ms : List Int} (h : ∀ m ∈ ms, -B ≤ m ∧ m ≤ B) : IntsB B (ms.map V.int) := fun x hx => by
  obtain ⟨m, hm, rfl⟩ := List.mem_map.mp hx
  exact ⟨m, rfl, h m hm⟩
/-! ### sizes by whole numbers -/
abbrev RiseI (ms : List Int) : Prop := ∀ (i : Nat) (a b : Int), ms[i]? = some a → ms[i + 1]? = some b → a < b
theorem RiseI.tail {x : Int} {ms : List Int} (h : RiseI (x :: ms)) : RiseI ms := fun i a b h1 h2 => h (i + 1) a b (by simpa using h1) (by simpa using h2)
theorem RiseI.head : ∀ {ms : List Int} {x : Int}, RiseI (x :: ms) → ∀ m ∈ ms, x < m
  | [], _, _, m, hm => by simp at hm
  | y :: ms, x, h, m, hm => by
    have h0 : x < y := h 0 x y rfl rfl
    rcases List.mem_cons.mp hm with e | e
    · rw [e]; exact h0
    · have := RiseI.head h.tail m e
      omega
theorem RiseI.lt {ms : List Int} (h : RiseI ms) : ∀ {j : Nat} {i : Nat} {a b : Int}, i < j → ms[i]? = some a → ms[j]? = some b → a < b
  | 0, _, _, _, hi, _, _ => by omega
  | j + 1, i, a, b, hi, ha, hb => by
    obtain ⟨c, hc⟩ := geI (zs := ms) (n := j) (by have := (List.getElem?_eq_some_iff.mp hb).1; omega)
    have h1 := h j c b hc hb
    by_cases e : i = j
    · subst e
      rw [ha] at hc
      cases hc
      exact h1
    · have := RiseI.lt h (show i < j by omega) ha hc
      omega
section
variable {ms : List Int} {d z : Int} {lo hi : Option Q2}
end
theorem rep_fm (n : Nat) : (List.replicate n (some (V.bl true))).filterMap _root_.id = (List.replicate n true).map V.bl := by
  induction n with
  | zero => rfl
  | succ n ih => rw [List.replicate_succ, List.replicate_succ]; simpa using ih
theorem rep_all (n : Nat) : (List.replicate n true).all _root_.id = true := by
  induction n with
  | zero => rfl
  | succ n ih => rw [List.replicate_succ]; simpa using ih
/-- the numbers from 0 on of which c holds -/
def idx (n : Nat) (c : Nat → Bool) : List Int := ((List.range n).filter c).map fun k : Nat => (k : Int)
def oIdx (n : Nat) (c : Nat → Bool) : List (Option V) := (List.range n).map fun k => if c k then some (.int (k : Int)) else none
theorem oIdx_len (n : Nat) (c : Nat → Bool) : (oIdx n c).length = n := by unfold oIdx; simp
theorem oIdx_get {n i : Nat} {c : Nat → Bool} {z : Option V} (h : (oIdx n c)[i]? = some z) : z = if c i then some (.int (i : Int)) else none := by
  unfold oIdx at h
  rw [List.getElem?_map] at h
  by_cases hi : i < n
  · rw [List.getElem?_range hi] at h
    exact (Option.some.inj h).symm
  · rw [List.getElem?_eq_none (by simpa using hi)] at h
    cases h
theorem oIdx_fm (n : Nat) (c : Nat → Bool) : (oIdx n c).filterMap _root_.id = (idx n c).map V.int := by
  unfold oIdx idx
  rw [List.filterMap_map, List.map_map]
  generalize List.range n = l
  induction l with
  | nil => rfl
  | cons x l ih =>
    rw [List.filterMap_cons, List.filter_cons]
    cases e : c x
    · simpa [e] using ih
    · simpa [e] using ih
/-! ### what the laws' own defs promise -/
end My
namespace My
open PySem PySem.Spec PyProof.Rows L2
/-! ### the stretches of a ladder's sizes -/
section
variable {X : Cx} {K : PySem.W.Frag}
/-- an item of a list or a tuple -/
def rIxLT (K : PySem.W.Frag) : R2 := fun x y H Q => ∃ (p : Addr) (xs : List V) (i : Int) (v : V), x = .ref p ∧ y = .int i ∧ (SqL K H p xs ∨ SqT K H p xs) ∧ atI xs i = some v ∧ Q v H
theorem ixs (hK : X.K = K := by rfl) : IxR X (rIxLT K) := by
  subst hK
  intro value slice pins s σ H x y v u Q I rx ry h hs
  obtain ⟨p, xs, i, w, e1, e2, hq | hq, h3, h4⟩ := h
  · exact ix_list value slice pins s σ H x y v u Q I rx ry ⟨p, xs, i, w, e1, e2, hq, h3, h4⟩ hs
  · exact ix_tup value slice pins s σ H x y v u Q I rx ry ⟨p, xs, i, w, e1, e2, hq, h3, h4⟩ hs
end
def endQ (zs : List Q2) (i : Int) : Option Q2 := if 0 ≤ i ∧ i < zs.length then zs[i.toNat]? else none
/-- both ends of a size by the rule alone, and whether they are in -/
def rulE (zs : List Q2) (r : Str) (n : Nat) : (Option Q2 × Bool) × (Option Q2 × Bool) :=
  if r = "up" then ((endQ zs ((n : Int) - 1), false), (zs[n]?, true)) else if r = "down" then ((zs[n]?, true), (endQ zs ((n : Int) + 1), false)) else ((endQ (midq zs) ((n : Int) - 1), true), (endQ (midq zs) n, false))
/-- a Stretch whose ends are these fractions -/
def StQ (CM CS : Addr) (H : Hp) (p : Addr) (x y : Option Q2 × Bool) : Prop := ∃ lo hi, StAt CM CS H p lo hi (x.2 && x.1.isSome) (y.2 && y.1.isSome) ∧ ReO lo x.1 ∧ ReO hi y.1
theorem StQ.same {CM CS p : Addr} {H H' : Hp} {x y : Option Q2 × Bool} (a : StQ CM CS H p x y) (s : Same H H') : StQ CM CS H' p x y := by
  obtain ⟨lo, hi, h1, h2, h3⟩ := a
  exact ⟨lo, hi, h1.same s, h2, h3⟩
def CutQ (CM CS : Addr) (H : Hp) (v : V) (x y : Option Q2 × Bool) : Prop := ∃ x' y', CutV CM CS H v x' y' ∧ Alike x' x ∧ Alike y' y
theorem CutQ.same {CM CS : Addr} {H H' : Hp} {v : V} {x y : Option Q2 × Bool} (a : CutQ CM CS H v x y) (s : Same H H') : CutQ CM CS H' v x y := by
  obtain ⟨x', y', h1, h2, h3⟩ := a
  exact ⟨x', y', h1.same s, h2, h3⟩
/-- both ends of a size's stretch -/
def sizE (zs : List Q2) (r : Str) (lo hi : Option Q2) (n : Nat) : (Option Q2 × Bool) × (Option Q2 × Bool) :=
  (cutLo (rulE zs r n).1.1 (rulE zs r n).1.2 lo true, cutHi (rulE zs r n).2.1 (rulE zs r n).2.2 hi true)
/-! between neighbours there is something -/
end My
namespace My
open PySem PySem.Spec PyProof.Rows L2
/-! ### defs that are called where no text of a list or tuple is under way -/
section
variable {P : Program} {w : World} {K : PySem.W.Frag} {mg : Str → Option Value} {base : Heap} {x qual : Str} {params : Arguments} {body : List Stmt} {scope : Scope} {dvs : List V} {kws : List (Str × V)} {f : Addr} {fd : FuncData}
end
section
variable {X : Cx} {CX : CXT} {k : Nat} {f : Addr} {fd : FuncData} {ps : List Str} {sp : Sp} {dvs : List V} {ds : List Value} {E : XK} {x : Str} {p pos : Pos} {e : Expr} {es : List Expr} {t : TA}
end
/-! ### the law is called where none is under way -/
end My
namespace My
open PySem PySem.Spec PyProof.Rows L2
/-! ### tuples: sums and slices, whatever their lengths -/
section
variable {X : Cx} {K : PySem.W.Frag}
def rCatU (K : PySem.W.Frag) : R2 := fun x y H Q => ∃ (a b : Addr) (xs ys : List V), x = .ref a ∧ y = .ref b ∧ SqT K H a xs ∧ SqT K H b ys ∧ xs.length + ys.length ≤ sizeLine ∧ ∀ (p : Addr) (H' : Hp), Same H H' → SqT K H' p (xs ++ ys) → Q (.ref p) H'
theorem catU (hK : X.K = K := by rfl) : OpR X (binaryOp .Add) (rCatU K) := by
  subst hK
  intro pins s σ H x y v u Q I rx ry h
  obtain ⟨a, b, xs, ys, e1, e2, ha, hb, hz, q⟩ := h
  refine op_catA pins s σ H x y v u Q I rx ry ⟨a, b, xs, ys, e1, e2, ha, hb, hz, fun e => q b H (Same.refl _) ?_, fun _ e => q a H (Same.refl _) ?_, fun _ _ p np => q p _ (same1 np) (SqT.of upd_same)⟩
  · rw [e]; exact hb
  · rw [e, List.append_nil]; exact ha
def rSlU (K : PySem.W.Frag) : V → Option Int → Option Int → Hp → VK → Prop := fun x lo hi H Q => ∃ (a : Addr) (xs : List V), x = .ref a ∧ SqT K H a xs ∧ ∀ (p : Addr) (H' : Hp), Same H H' → SqT K H' p (cutV xs lo hi) → Q (.ref p) H'
theorem slU (hK : X.K = K := by rfl) : SlR X (rSlU K) := by
  subst hK
  intro pins s σ H x v vl vu lo hi sl Q I rx hs pl pu h
  obtain ⟨a, xs, e1, hx, q⟩ := h
  refine sl_tupA pins s σ H x v vl vu lo hi sl Q I rx hs pl pu ⟨a, xs, e1, hx, fun e => q a H (Same.refl _) ?_, fun _ p np => q p _ (same1 np) (SqT.of upd_same)⟩
  have e2 : cutV xs lo hi = xs := by
    unfold cutV
    rw [e.1, e.2, List.drop_zero, Nat.sub_zero, List.take_length]
  rw [e2]
  exact hx
end
theorem cutV_take (xs : List V) {i : Int} {n : Nat} (e : i = (n : Int)) : cutV xs none (some i) = xs.take n := by
  subst e
  unfold cutV
  rw [HT.sIx_none, HT.sIx_nat, List.drop_zero, Nat.sub_zero]
  by_cases h : n ≤ xs.length
  · rw [Nat.min_eq_left h]
  · rw [Nat.min_eq_right (by omega), List.take_length, List.take_of_length_le (by omega)]
theorem cutV_drop (xs : List V) {i : Int} {n : Nat} (e : i = (n : Int)) : cutV xs (some i) none = xs.drop n := by
  subst e
  unfold cutV
  rw [HT.sIx_none, HT.sIx_nat]
  by_cases h : n ≤ xs.length
  · rw [Nat.min_eq_left h, List.take_of_length_le (by rw [List.length_drop]; omega)]
  · rw [Nat.min_eq_right (by omega), Nat.sub_self, List.take_zero, List.drop_eq_nil_of_le (by omega)]
theorem Mks.cut {C : Addr} {H : Hp} {k : Nat} {ps : List V} {zs : List Q2} (m : Mks C H k ps zs) (n : Nat) : Mks C H k (ps.take n ++ ps.drop (n + 1)) (zs.take n ++ zs.drop (n + 1)) := by
  have l := m.len
  refine ⟨by simp only [List.length_append, List.length_take, List.length_drop]; omega, fun i v z h1 h2 => ?_⟩
  by_cases hi : i < n ∧ i < ps.length
  · rw [List.getElem?_append_left (by rw [List.length_take]; omega), List.getElem?_take_of_lt hi.1] at h1
    rw [List.getElem?_append_left (by rw [List.length_take]; omega), List.getElem?_take_of_lt hi.1] at h2
    exact m.all i v z h1 h2
  · rw [List.getElem?_append_right (by rw [List.length_take]; omega), List.getElem?_drop] at h1
    rw [List.getElem?_append_right (by rw [List.length_take]; omega), List.getElem?_drop] at h2
    have e : (ps.take n).length = (zs.take n).length := by rw [List.length_take, List.length_take, l]
    rw [e] at h1
    exact m.all _ v z h1 h2
/-! ### rows, as the laws draw them -/
structure RowsL (H : Hp) (p : Addr) (part : Int) (ts : List Int) : Prop where
  ob : ∃ T, H p = some (.tup [.int part, .ref T]) ∧ H T = some (.tup (ts.map V.int))
  p0 : 0 < part
  p1 : part ≤ 10007
  len0 : 0 < ts.length
  len1 : ts.length ≤ 24
  bnd : ∀ t ∈ ts, -2000000 ≤ t ∧ t ≤ 2000000
theorem RowsL.same {H H' : Hp} {p : Addr} {part : Int} {ts : List Int} (a : RowsL H p part ts) (s : Same H H') : RowsL H' p part ts := by
  obtain ⟨⟨T, h1, h2⟩, a1, a2, a3, a4, a5⟩ := a
  exact ⟨⟨T, s _ _ h1, s _ _ h2⟩, a1, a2, a3, a4, a5⟩
/-- the rows while they are drawn -/
def RowSt (h l : Addr) (many n : Nat) (H H' : Hp) : Prop := ∃ ts : List Int, H' l = some (.lst (ts.map V.int)) ∧ ts.length = many ∧ HandAt H' h n ∧ Kp h H H' ∧ ∀ t ∈ ts, -1500000 ≤ t ∧ t ≤ 1500000
def RowSt2 (h l : Addr) (many n : Nat) (H H' : Hp) : Prop := ∃ ts : List Int, H' l = some (.lst (ts.map V.int)) ∧ ts.length = many ∧ HandAt H' h n ∧ Kp h H H' ∧ ∀ t ∈ ts, -2000000 ≤ t ∧ t ≤ 2000000
theorem six_nat {n i : Nat} (h : i < n) : seqIndex? (i : Int) n = some i := by
  have h1 : ¬ ((i : Int) < 0) := by omega
  have h2 : (0 : Int) ≤ (i : Int) := by omega
  have h3 : (i : Int) < (n : Int) := by omega
  simp [seqIndex?, h1, h2, h3]
theorem er_map (ts : List Int) : ∀ i, (ts.map V.int).eraseIdx i = (ts.eraseIdx i).map V.int := by
  induction ts with
  | nil => intro i; rfl
  | cons a r ih =>
    intro i
    cases i with
    | zero => rfl
    | succ i => show V.int a :: (r.map V.int).eraseIdx i = _; rw [ih]; rfl
theorem mem_set2 {ts : List Int} {i : Nat} {x : Int} {P : Int → Prop} (h : ∀ t ∈ ts, P t) (hx : P x) : ∀ t ∈ ts.set i x, P t := fun t ht => by
  rcases List.mem_or_eq_of_mem_set ht with e | e
  · exact h t e
  · rw [e]; exact hx
theorem map_set (ts : List Int) (i : Nat) (x : Int) : (ts.map V.int).set i (.int x) = (ts.set i x).map V.int := by rw [List.map_set]
theorem ixN_nat {n i : Nat} (h : i < n) : ixN n (i : Int) = some i := by
  unfold ixN
  rw [if_pos (by omega), if_pos (by omega)]
  rfl
def sp_rows : Sp := fun vs H Q _ => ∃ (h : Addr) (n : Nat), vs = [.ref h] ∧ HandAt H h n ∧ n < 10000 ∧
  ∀ (p : Addr) (part : Int) (ts : List Int) (H' : Hp), RowsL H' p part ts → HandAt H' h (n + 120) → Kp h H H' → Q (.ref p) H'
def sp_rmade (CM : Addr) : Sp := fun vs H Q _ => ∃ (p : Addr) (part : Int) (ts : List Int), vs = [.ref p] ∧ RowsL H p part ts ∧
  ∀ (T : Addr) (ps : List V) (H' : Hp), Same H H' → H' T = some (.tup ps) → Mks CM H' 40 ps (zq part ts) → Q (.ref T) H'
def riseB : List Q2 → Bool
  | a :: b :: r => ltq a b && riseB (b :: r)
  | _ => true
theorem riseB_iff : ∀ {zs : List Q2}, riseB zs = true ↔ RiseQ zs
  | [] => ⟨fun _ i a b h => by simp at h, fun _ => rfl⟩
  | [_] => ⟨fun _ i a b _ h => by simp at h, fun _ => rfl⟩
  | x :: y :: r => by
    have ih := riseB_iff (zs := y :: r)
    constructor
    · intro h
      have h' : (ltq x y && riseB (y :: r)) = true := h
      rw [Bool.and_eq_true] at h'
      intro i a b ha hb
      cases i with
      | zero => cases ha; cases hb; exact h'.1
      | succ i => exact ih.mp h'.2 i a b (by simpa using ha) (by simpa using hb)
    · intro h
      show (ltq x y && riseB (y :: r)) = true
      rw [Bool.and_eq_true]
      exact ⟨h 0 x y rfl rfl, ih.mpr fun i a b ha hb => h (i + 1) a b (by simpa using ha) (by simpa using hb)⟩
theorem slip_none {zs : List Q2} {o : Option Nat} (h : SlipQ zs o) : decide (optI o = V.non) = riseB zs := by
  cases o with
  | none => rw [riseB_iff.mpr h]; rfl
  | some n =>
    obtain ⟨n1, n2, n3, _⟩ := h
    have e : riseB zs = false := by
      cases z : riseB zs with
      | false => rfl
      | true =>
        have q := riseB_iff.mp z
        obtain ⟨a, ha⟩ := ge2 (zs := zs) (n := n - 1) (by omega)
        obtain ⟨b, hb⟩ := ge2 (zs := zs) (n := n) n2
        have := q (n - 1) a b ha (by rw [Nat.sub_add_cancel n1]; exact hb)
        rw [n3 a b ha hb] at this
        cases this
    rw [e]
    rfl
def sp_without (K : PySem.W.Frag) (CM : Addr) : Sp := fun vs H Q _ => ∃ (T : Addr) (k : Nat) (ps : List V) (zs : List Q2) (n : Nat), vs = [.ref T, .int n] ∧ SqT K H T ps ∧ Mks CM H k ps zs ∧ k ≤ 9000 ∧ zs.length ≤ 24 ∧ n < zs.length ∧ ∀ H', Same H H' → Q (.bl (riseB (zs.take n ++ zs.drop (n + 1)))) H'
def sp_singles (K : PySem.W.Frag) (CM : Addr) : Sp := fun vs H Q _ => ∃ (T : Addr) (k : Nat) (ps : List V) (zs : List Q2), vs = [.ref T] ∧ SqT K H T ps ∧ Mks CM H k ps zs ∧ k ≤ 9000 ∧ zs.length ≤ 24 ∧
  ∀ (p : Addr) (H' : Hp), Same H H' → H' p = some (.tup ((idx zs.length fun n => riseB (zs.take n ++ zs.drop (n + 1))).map V.int)) → Q (.ref p) H'
/-! ### tuples of whole numbers as data -/
def intsD (zs : List Int) : PyData := .tuple (zs.map PyData.int)
theorem dpI {K : PySem.W.Frag} {H : Hp} : ∀ zs : List Int, DpAll K H (zs.map V.int) (zs.map PyData.int)
  | [] => .nil
  | z :: zs => .cons (.int z) (dpI zs)
theorem dpT {K : PySem.W.Frag} {H : Hp} {p : Addr} {zs : List Int} (h : H p = some (.tup (zs.map V.int))) : Dp K H (.ref p) (intsD zs) := .tup (SqT.of h) (dpI zs)
theorem idx_len {n : Nat} {c : Nat → Bool} : (idx n c).length ≤ n := by
  unfold idx
  rw [List.length_map]
  exact Nat.le_trans (List.length_filter_le _ _) (Nat.le_of_eq List.length_range)
end My
namespace My
open PySem PySem.Spec PyProof.Rows L2
/-! ### a list or a tuple, walked -/
section
variable {X : Cx} {tg : Expr}
end
/-- a def that calls itself, ahead of its own promise -/
theorem fn_never {P : Program} {w : World} {K : PySem.W.Frag} {mg : Str → Option Value} {base : Heap} {CX : CXT} {k : Nat} {f : Addr} {fd : FuncData} {ps : List Str} : FnOk P w K mg base CX k f fd ps (fun _ _ _ _ => False) :=
  ⟨fun _ _ _ _ h => h.elim, fun _ _ _ _ _ _ _ _ _ _ _ _ _ h => h.elim⟩
/-! ### fractions as pairs of whole numbers -/
def TQ (H : Hp) (v : V) (k : Nat) (z : Q2) : Prop := ∃ p, v = .ref p ∧ H p = some (.tup [.int z.1, .int z.2]) ∧ 0 < z.2 ∧ Sz k z.1 ∧ Sz k z.2
section
variable {H H' : Hp} {v : V} {k j : Nat} {z : Q2}
theorem TQ.same (a : TQ H v k z) (s : Same H H') : TQ H' v k z := by
  obtain ⟨p, h1, h2, h3⟩ := a
  exact ⟨p, h1, s _ _ h2, h3⟩
theorem TQ.nl (a : TQ H v k z) (s : Nl H H') : TQ H' v k z := by
  obtain ⟨p, h1, h2, h3⟩ := a
  exact ⟨p, h1, s _ _ h2 rfl, h3⟩
theorem TQ.kp {h : Addr} {n : Nat} (a : TQ H v k z) (hh : HandAt H h n) (s : Kp h H H') : TQ H' v k z := by
  obtain ⟨p, h1, h2, h3⟩ := a
  exact ⟨p, h1, s.get hh h2 rfl, h3⟩
theorem TQ.mono (a : TQ H v k z) (l : k ≤ j) : TQ H v j z := by
  obtain ⟨p, h1, h2, h3, h4, h5⟩ := a
  exact ⟨p, h1, h2, h3, h4.mono l, h5.mono l⟩
theorem TQ.pos (a : TQ H v k z) : 0 < z.2 := by
  obtain ⟨p, h1, h2, h3, h4, h5⟩ := a
  exact h3
theorem TQ.mk {p : Addr} {a b : Int} (h : H p = some (.tup [.int a, .int b])) (hb : 0 < b) (s1 : Sz k a) (s2 : Sz k b) : TQ H (.ref p) k (a, b) := ⟨p, rfl, h, hb, s1, s2⟩
end
structure Tqs (H : Hp) (k : Nat) (vs : List V) (zs : List Q2) : Prop where
  len : vs.length = zs.length
  all : ∀ (i : Nat) (v : V) (z : Q2), vs[i]? = some v → zs[i]? = some z → TQ H v k z
section
variable {H H' : Hp} {k j : Nat} {vs : List V} {zs : List Q2}
theorem Tqs.same (m : Tqs H k vs zs) (s : Same H H') : Tqs H' k vs zs := ⟨m.len, fun i v z h1 h2 => (m.all i v z h1 h2).same s⟩
theorem Tqs.nl (m : Tqs H k vs zs) (s : Nl H H') : Tqs H' k vs zs := ⟨m.len, fun i v z h1 h2 => (m.all i v z h1 h2).nl s⟩
theorem Tqs.kp {h : Addr} {n : Nat} (m : Tqs H k vs zs) (hh : HandAt H h n) (s : Kp h H H') : Tqs H' k vs zs := ⟨m.len, fun i v z h1 h2 => (m.all i v z h1 h2).kp hh s⟩
theorem Tqs.mono (m : Tqs H k vs zs) (l : k ≤ j) : Tqs H j vs zs := ⟨m.len, fun i v z h1 h2 => (m.all i v z h1 h2).mono l⟩
theorem Tqs.at (m : Tqs H k vs zs) {i : Nat} {z : Q2} (h : zs[i]? = some z) : ∃ v, vs[i]? = some v ∧ TQ H v k z := by
  have hi : i < vs.length := by rw [m.len]; exact (List.getElem?_eq_some_iff.mp h).1
  exact ⟨_, List.getElem?_eq_getElem hi, m.all i _ z (List.getElem?_eq_getElem hi) h⟩
theorem Tqs.of (m : Tqs H k vs zs) {i : Nat} {v : V} (h : vs[i]? = some v) : ∃ z, zs[i]? = some z ∧ TQ H v k z := by
  have hi : i < zs.length := by rw [← m.len]; exact (List.getElem?_eq_some_iff.mp h).1
  exact ⟨_, List.getElem?_eq_getElem hi, m.all i v _ h (List.getElem?_eq_getElem hi)⟩
theorem Tqs.snoc (m : Tqs H k vs zs) {v : V} {z : Q2} (t : TQ H v k z) : Tqs H k (vs ++ [v]) (zs ++ [z]) := by
  refine ⟨by rw [List.length_append, List.length_append, m.len]; rfl, fun i w y h1 h2 => ?_⟩
  by_cases hi : i < vs.length
  · rw [List.getElem?_append_left hi] at h1
    rw [List.getElem?_append_left (by rw [← m.len]; exact hi)] at h2
    exact m.all i w y h1 h2
  · have l1 := (List.getElem?_eq_some_iff.mp h1).1
    rw [List.length_append, List.length_singleton] at l1
    have e : i = vs.length := by omega
    rw [e, List.getElem?_append_right (Nat.le_refl _), Nat.sub_self] at h1
    rw [e, m.len, List.getElem?_append_right (Nat.le_refl _), Nat.sub_self] at h2
    cases h1; cases h2
    exact t
theorem Tqs.one {v : V} {z : Q2} (t : TQ H v k z) : Tqs H k [v] [z] := (⟨rfl, fun i w y h1 => by simp at h1⟩ : Tqs H k [] []).snoc t
theorem Tqs.cons (m : Tqs H k vs zs) {v : V} {z : Q2} (t : TQ H v k z) : Tqs H k (v :: vs) (z :: zs) := by
  refine ⟨by rw [List.length_cons, List.length_cons, m.len], fun i w y h1 h2 => ?_⟩
  cases i with
  | zero => cases h1; cases h2; exact t
  | succ i => exact m.all i w y (by simpa using h1) (by simpa using h2)
theorem Tqs.nil : Tqs H k [] [] := ⟨rfl, fun i w y h1 => by simp at h1⟩
theorem Mks.mono {C : Addr} {ps : List V} (m : Mks C H k ps zs) (l : k ≤ j) : Mks C H j ps zs := ⟨m.len, fun i v z h1 h2 => by
  obtain ⟨p, e, q⟩ := m.all i v z h1 h2
  exact ⟨p, e, q.mono l⟩⟩
theorem QO.mono {C : Addr} {v : V} (l : k ≤ j) : ∀ {e : Option Q2}, QO C H k v e → QO C H j v e
  | none, h => h
  | some _, ⟨p, h1, h2⟩ => ⟨p, h1, h2.mono l⟩
end
theorem leq_not {a b : Q2} : leq a b = !ltq b a := by
  unfold leq ltq eqq
  rw [← Bool.decide_or, ← decide_not]
  exact decide_eq_decide.mpr ⟨fun h => by omega, fun h => by omega⟩
/-! ### what the defs of pairs promise -/
/-- None, or a pair -/
def TOq (H : Hp) (k : Nat) (v : V) : Option Q2 → Prop
  | none => v = .non
  | some z => TQ H v k z
theorem TOq.same {H H' : Hp} {k : Nat} {v : V} : ∀ {e : Option Q2}, TOq H k v e → Same H H' → TOq H' k v e
  | none, h, _ => h
  | some _, h, s => TQ.same h s
theorem TOq.kp {H H' : Hp} {k n : Nat} {h : Addr} {v : V} : ∀ {e : Option Q2}, TOq H k v e → HandAt H h n → Kp h H H' → TOq H' k v e
  | none, h, _, _ => h
  | some _, h, hh, s => TQ.kp h hh s
theorem QO.nl {C : Addr} {H H' : Hp} {k : Nat} {v : V} (s : Nl H H') : ∀ {e : Option Q2}, QO C H k v e → QO C H' k v e
  | none, h => h
  | some _, ⟨p, h1, h2⟩ => ⟨p, h1, h2.nl s⟩
theorem sqt_kp {K : PySem.W.Frag} {H H' : Hp} {h a : Addr} {n : Nat} {xs : List V} (s : SqT K H a xs) (hh : HandAt H h n) (k : Kp h H H') : SqT K H' a xs := by
  rcases s with (s | ⟨o, s⟩) | s
  · exact .inl (.inl (k.get hh s rfl))
  · exact .inl (.inr ⟨o, k.get hh s rfl⟩)
  · exact .inr s
theorem LadAt.kp {K : PySem.W.Frag} {CM CL p h : Addr} {H H' : Hp} {k n : Nat} {zs : List Q2} {r : Str} {lo hi : Option Q2} (a : LadAt K CM CL H p k zs r lo hi) (hh : HandAt H h n) (s : Kp h H H') : LadAt K CM CL H' p k zs r lo hi := by
  obtain ⟨⟨dx, T, ps, l, u, h1, h2, h3, h4, h5⟩, a1, a2, a3, a4, a5⟩ := a
  exact ⟨⟨dx, T, ps, l, u, s.get hh h1 rfl, sqt_kp h2 hh s, h3.kp hh s, h4.kp hh s, h5.kp hh s⟩, a1, a2, a3, a4, a5⟩
end My
namespace My
open PySem PySem.Spec PyProof.Rows L2
/-! ### comprehensions that draw -/
theorem Kp.nlh {h : Addr} {H H' : Hp} {n : Nat} (k : Kp h H H') (hh : HandAt H h n) : Nl H H' := fun c o e no => k c o e (hh.apart e no)
/-! ### things that are the same, one within another -/
def AtomV (x : V) : Prop := (∃ z : Int, x = .int z) ∨ (∃ s : Str, x = .str s) ∨ x = .non ∨ ∃ b : Bool, x = .bl b
def SameV (K : PySem.W.Frag) (H : Hp) : Nat → V → V → Prop
  | 0, x, y => x = y ∧ AtomV x
  | n + 1, x, y => (x = y ∧ AtomV x) ∨ ∃ p q xs ys, x = .ref p ∧ y = .ref q ∧ SqT K H p xs ∧ SqT K H q ys ∧ xs.length = ys.length ∧ xs.length ≤ 900 ∧ ∀ (i : Nat) (a b : V), xs[i]? = some a → ys[i]? = some b → SameV K H n a b
theorem SameV.same {K : PySem.W.Frag} {H H' : Hp} (s : Same H H') : ∀ {n : Nat} {x y : V}, SameV K H n x y → SameV K H' n x y
  | 0, _, _, h => h
  | n + 1, _, _, .inl h => .inl h
  | n + 1, _, _, .inr ⟨p, q, xs, ys, h1, h2, h3, h4, h5, h6, h7⟩ => .inr ⟨p, q, xs, ys, h1, h2, s.sqt h3, s.sqt h4, h5, h6, fun i a b ha hb => SameV.same s (h7 i a b ha hb)⟩
theorem SameV.atom {K : PySem.W.Frag} {H : Hp} {x : V} (a : AtomV x) : ∀ n, SameV K H n x x
  | 0 => ⟨rfl, a⟩
  | _ + 1 => .inl ⟨rfl, a⟩
theorem SameV.ints {K : PySem.W.Frag} {H : Hp} {p q : Addr} {ss : List Int} (n : Nat) (hp : SqT K H p (ss.map V.int)) (hq : SqT K H q (ss.map V.int)) (l : ss.length ≤ 900) : SameV K H (n + 1) (.ref p) (.ref q) :=
  .inr ⟨p, q, _, _, rfl, rfl, hp, hq, rfl, by rw [List.length_map]; exact l, fun i a b ha hb => by
    rw [ha] at hb
    cases hb
    obtain ⟨s, _, rfl⟩ := List.mem_map.mp (List.mem_of_getElem? ha)
    exact SameV.atom (.inl ⟨s, rfl⟩) n⟩
/-! ### a Grid -/
def gf (a b c : V) : List (Str × V) := [("lengths", a), ("breadths", b), ("grade", c)]
section
variable (a b c : V)
end
structure GrdAt (K : PySem.W.Frag) (CM CL CG : Addr) (H : Hp) (p : Addr) (k : Nat) (L1 L2 : Addr) (g : Q2) : Prop where
  ob : ∃ dx q, H p = some (.ins CG dx (gf (.ref L1) (.ref L2) (.ref q))) ∧ QAt CM H q k g
theorem GrdAt.same {K : PySem.W.Frag} {CM CL CG : Addr} {H H' : Hp} {p : Addr} {k : Nat} {L1 L2 : Addr} {g : Q2} (a : GrdAt K CM CL CG H p k L1 L2 g) (s : Same H H') : GrdAt K CM CL CG H' p k L1 L2 g := by
  obtain ⟨dx, q, h1, h2⟩ := a.ob
  exact ⟨dx, q, s _ _ h1, h2.same s⟩
theorem GrdAt.kp {K : PySem.W.Frag} {CM CL CG : Addr} {H H' : Hp} {p h : Addr} {k n : Nat} {L1 L2 : Addr} {g : Q2} (a : GrdAt K CM CL CG H p k L1 L2 g) (hh : HandAt H h n) (s : Kp h H H') : GrdAt K CM CL CG H' p k L1 L2 g := by
  obtain ⟨dx, q, h1, h2⟩ := a.ob
  exact ⟨dx, q, s.get hh h1 rfl, h2.kp hh s⟩
/-! ### the laws' sides of a grid -/
structure SidesAt (H : Hp) (h p : Addr) (k : Nat) (zs ys : List Q2) (g : Q2) : Prop where
  ob : ∃ l1 l2 v us ws, H p = some (.lst [.ref l1, .ref l2, v]) ∧ H l1 = some (.lst us) ∧ H l2 = some (.lst ws) ∧ Tqs H k us zs ∧ Tqs H k ws ys ∧ TQ H v 20 g ∧ p ≠ h ∧ l1 ≠ h ∧ l2 ≠ h
  l0 : 0 < zs.length
  l1 : zs.length ≤ 8
  m0 : 0 < ys.length
  m1 : ys.length ≤ 8
theorem SidesAt.same {H H' : Hp} {h p : Addr} {k : Nat} {zs ys : List Q2} {g : Q2} (a : SidesAt H h p k zs ys g) (s : Same H H') : SidesAt H' h p k zs ys g := by
  obtain ⟨⟨l1, l2, v, us, ws, a1, a2, a3, a4, a5, a6, a7⟩, b1, b2, b3, b4⟩ := a
  exact ⟨⟨l1, l2, v, us, ws, s _ _ a1, s _ _ a2, s _ _ a3, a4.same s, a5.same s, a6.same s, a7⟩, b1, b2, b3, b4⟩
theorem SidesAt.kp {H H' : Hp} {h p : Addr} {k n : Nat} {zs ys : List Q2} {g : Q2} (a : SidesAt H h p k zs ys g) (hh : HandAt H h n) (s : Kp h H H') : SidesAt H' h p k zs ys g := by
  obtain ⟨⟨l1, l2, v, us, ws, a1, a2, a3, a4, a5, a6, a7, a8, a9⟩, b1, b2, b3, b4⟩ := a
  exact ⟨⟨l1, l2, v, us, ws, s _ _ a1 a7, s _ _ a2 a8, s _ _ a3 a9, a4.kp hh s, a5.kp hh s, a6.kp hh s, a7, a8, a9⟩, b1, b2, b3, b4⟩
end My
namespace My
open PySem PySem.Spec PyProof.Rows L2
/-! ### sizes by fractions -/
/-- f holds of the first ones alone -/
def DownQ (f : Q2 → Bool) (zs : List Q2) : Prop := ∀ (i j : Nat) (a b : Q2), i < j → zs[i]? = some a → zs[j]? = some b → f b = true → f a = true
theorem DownQ.tail {f : Q2 → Bool} {x : Q2} {zs : List Q2} (h : DownQ f (x :: zs)) : DownQ f zs := fun i j a b hij ha hb hf => h (i + 1) (j + 1) a b (by omega) (by simpa using ha) (by simpa using hb) hf
section
variable {zs : List Q2} {r : Str} {lo hi : Option Q2} {x : Q2}
end
end My
namespace My
open PySem PySem.Spec PyProof.Rows L2
/-! ### what stood ahead, wanted at a later heap: the step first -/
section
variable {K : PySem.W.Frag} {C CM CL CG p q h a L1 L2 : Addr} {H H' H1 : Hp} {v : V} {k j n : Nat} {z : Q2} {vs : List V} {zs ys : List Q2} {o : HO} {e : Option Q2} {r : Str} {lo hi : Option Q2}
theorem TQ.s (s : Same H H') (t : TQ H v k z) : TQ H' v k z := t.same s
theorem TQ.nq (s : Nl H H') (t : TQ H v k z) : TQ H' v k z := t.nl s
theorem Tqs.s (s : Same H H') (t : Tqs H k vs zs) : Tqs H' k vs zs := t.same s
theorem QAt.s (s : Same H H') (t : QAt C H p k z) : QAt C H' p k z := t.same s
theorem Mks.s (s : Same H H') (t : Mks C H k vs zs) : Mks C H' k vs zs := t.same s
theorem QO.s (s : Same H H') (t : QO C H k v e) : QO C H' k v e := t.same s
theorem TOq.s (s : Same H H') (t : TOq H k v e) : TOq H' k v e := t.same s
theorem TOq.mono (l : k ≤ j) : ∀ {e : Option Q2}, TOq H k v e → TOq H j v e
  | none, h => h
  | some _, h => TQ.mono h l
theorem LadAt.s (s : Same H H') (t : LadAt K CM CL H p k zs r lo hi) : LadAt K CM CL H' p k zs r lo hi := t.same s
theorem LadAt.mono (t : LadAt K CM CL H p k zs r lo hi) (l : k ≤ j) : LadAt K CM CL H p j zs r lo hi := by
  obtain ⟨⟨dx, T, ps, u, w, h1, h2, h3, h4, h5⟩, a1, a2, a3, a4, a5⟩ := t
  exact ⟨⟨dx, T, ps, u, w, h1, h2, h3.mono l, h4.mono l, h5.mono l⟩, a1, a2, a3, a4, a5⟩
theorem GrdAt.s (s : Same H H') (t : GrdAt K CM CL CG H p k L1 L2 z) : GrdAt K CM CL CG H' p k L1 L2 z := t.same s
theorem SidesAt.s (s : Same H H') (t : SidesAt H h p k zs ys z) : SidesAt H' h p k zs ys z := t.same s
theorem HandAt.s (s : Same H H') (t : HandAt H h n) : HandAt H' h n := t.same s
theorem TQ.u {u : HO} {b : Addr} (np : H b = none) (t : TQ H v k z) : TQ (upd H b u) v k z := t.same (same1 np)
theorem Tqs.u {u : HO} {b : Addr} (np : H b = none) (t : Tqs H k vs zs) : Tqs (upd H b u) k vs zs := t.same (same1 np)
theorem QAt.u {u : HO} {b : Addr} (np : H b = none) (t : QAt C H p k z) : QAt C (upd H b u) p k z := t.same (same1 np)
theorem Mks.u {u : HO} {b : Addr} (np : H b = none) (t : Mks C H k vs zs) : Mks C (upd H b u) k vs zs := t.same (same1 np)
theorem QO.u {u : HO} {b : Addr} (np : H b = none) (t : QO C H k v e) : QO C (upd H b u) k v e := t.same (same1 np)
theorem TOq.u {u : HO} {b : Addr} (np : H b = none) (t : TOq H k v e) : TOq (upd H b u) k v e := t.same (same1 np)
theorem LadAt.u {u : HO} {b : Addr} (np : H b = none) (t : LadAt K CM CL H p k zs r lo hi) : LadAt K CM CL (upd H b u) p k zs r lo hi := t.same (same1 np)
theorem GrdAt.u {u : HO} {b : Addr} (np : H b = none) (t : GrdAt K CM CL CG H p k L1 L2 z) : GrdAt K CM CL CG (upd H b u) p k L1 L2 z := t.same (same1 np)
theorem SidesAt.u {u : HO} {b : Addr} (np : H b = none) (t : SidesAt H h p k zs ys z) : SidesAt (upd H b u) h p k zs ys z := t.same (same1 np)
theorem HandAt.u {u : HO} {b : Addr} (np : H b = none) (t : HandAt H h n) : HandAt (upd H b u) h n := t.same (same1 np)
end
theorem layI : ∀ zs : List Int, PyData.canLayAll0 (zs.map PyData.int) = true
  | [] => rfl
  | z :: zs => by
    show (true && PyData.canLayAll0 (zs.map PyData.int)) = true
    rw [layI zs]; rfl
/-- each of these values is a fraction -/
def AllTQ (H : Hp) (k : Nat) (vs : List V) : Prop := ∀ x ∈ vs, ∃ z, TQ H x k z
theorem AllTQ.nil {H : Hp} {k : Nat} : AllTQ H k [] := fun x hx => by simp at hx
theorem AllTQ.cons {H : Hp} {k : Nat} {v : V} {z : Q2} {vs : List V} (t : TQ H v k z) (m : AllTQ H k vs) : AllTQ H k (v :: vs) := fun x hx => by
  rcases List.mem_cons.mp hx with e | e
  · rw [e]; exact ⟨z, t⟩
  · exact m x e
/-! ### a rule, a least and a most, as the laws draw them in fractions -/
structure ChartAt (H : Hp) (T : Addr) (k : Nat) (r : Str) (lo hi : Option Q2) : Prop where
  ob : ∃ u w, H T = some (.tup [.str r, u, w]) ∧ TOq H k u lo ∧ TOq H k w hi
  rule : IsRule r
  span : spanB lo hi = true
section
variable {H H' : Hp} {T h : Addr} {k n : Nat} {r : Str} {lo hi : Option Q2}
theorem ChartAt.same (c : ChartAt H T k r lo hi) (s : Same H H') : ChartAt H' T k r lo hi := by
  obtain ⟨⟨u, w, h1, h2, h3⟩, h4, h5⟩ := c
  exact ⟨⟨u, w, s _ _ h1, h2.same s, h3.same s⟩, h4, h5⟩
theorem ChartAt.kp (c : ChartAt H T k r lo hi) (hh : HandAt H h n) (s : Kp h H H') : ChartAt H' T k r lo hi := by
  obtain ⟨⟨u, w, h1, h2, h3⟩, h4, h5⟩ := c
  exact ⟨⟨u, w, s.get hh h1 rfl, h2.kp hh s, h3.kp hh s⟩, h4, h5⟩
theorem ChartAt.u {u : HO} {b : Addr} (np : H b = none) (c : ChartAt H T k r lo hi) : ChartAt (upd H b u) T k r lo hi := c.same (same1 np)
theorem ChartAt.s (s : Same H H') (c : ChartAt H T k r lo hi) : ChartAt H' T k r lo hi := c.same s
end
/-- a pair of sizes, or None -/
def OwnV (H : Hp) (v : V) : Option (Nat × Nat) → Prop
  | none => v = .non
  | some x => ∃ T, v = .ref T ∧ H T = some (.tup [.int (x.1 : Int), .int (x.2 : Int)])
theorem OwnV.s {H H' : Hp} {v : V} (s : Same H H') : ∀ {o : Option (Nat × Nat)}, OwnV H v o → OwnV H' v o
  | none, h => h
  | some _, ⟨T, h1, h2⟩ => ⟨T, h1, s _ _ h2⟩
theorem OwnV.alike {K : PySem.W.Frag} {H : Hp} {v w : V} : ∀ {o : Option (Nat × Nat)}, OwnV H v o → OwnV H w o → SameV K H 1 v w
  | none, h, g => by
    cases h; cases g
    exact SameV.atom (.inr (.inr (.inl rfl))) 1
  | some x, ⟨T, h1, h2⟩, ⟨T', g1, g2⟩ => by
    subst h1 g1
    exact SameV.ints (ss := [(x.1 : Int), (x.2 : Int)]) 0 (SqT.of h2) (SqT.of g2) (Nat.le_of_ble_eq_true rfl)
/-! ### the numbers of the marks, first and last -/
end My
namespace My
open PySem PySem.Spec PyProof.Rows L2
/-! ### cuts of three stretches -/
theorem Alike.of {x y : Q2} {i j : Bool} (h : Re x y) (e : i = j) : Alike (some x, i) (some y, j) := ⟨h, fun _ => e⟩
theorem Alike.refl {x : Option Q2 × Bool} (h : PosO x.1) : Alike x x := ⟨ReO.refl h, fun _ => rfl⟩
theorem Alike.symm {x y : Option Q2 × Bool} (h : Alike x y) : Alike y x := ⟨h.1.symm, fun e => (h.2 (by rw [h.1.isS]; exact e)).symm⟩

/-- a Measure whose numbers are not too great -/
def PtM (CM : Addr) (H : Hp) (y : V) : Prop := ∃ (q : Addr) (x : Q2), y = .ref q ∧ MAt CM H q x.1 x.2 ∧ 0 < x.2 ∧ Sz 20000 x.1 ∧ Sz 20000 x.2
theorem PtM.nl {CM : Addr} {H H' : Hp} {y : V} (h : PtM CM H y) (s : Nl H H') : PtM CM H' y := by
  obtain ⟨q, x, e, ⟨d, m⟩, r⟩ := h
  exact ⟨q, x, e, ⟨d, s _ _ m rfl⟩, r⟩
theorem PtM.same {CM : Addr} {H H' : Hp} {y : V} (h : PtM CM H y) (s : Same H H') : PtM CM H' y := h.nl (Nl.of s)
end My
namespace My
open PySem PySem.Spec PyProof.Rows L2
/-! ### which measures a size's stretch holds -/
/-- whether there is such a stretch -/
def sizB (zs : List Q2) (r : Str) (lo hi : Option Q2) (n : Nat) : Bool := someB (sizE zs r lo hi n).1.1 (sizE zs r lo hi n).2.1 (sizE zs r lo hi n).1.2 (sizE zs r lo hi n).2.2
end My
namespace My
open PySem PySem.Spec PyProof.Rows L2
/-! ### lists of numbers -/
theorem rep_any (n : Nat) : (List.replicate n false).any _root_.id = false := by
  induction n with
  | zero => rfl
  | succ n ih => rw [List.replicate_succ]; simpa using ih
/-! ### the sizes that fit some feet -/
structure FitsL (H : Hp) (D : Addr) (ls : List (List Int)) : Prop where
  ob : ∃ ts : List V, H D = some (.lst ts) ∧ ts.length = ls.length ∧ ∀ (i : Nat) (v : V) (l : List Int), ts[i]? = some v → ls[i]? = some l → ∃ T, v = .ref T ∧ H T = some (.tup (l.map V.int))
theorem FitsL.same {H H' : Hp} {D : Addr} {ls : List (List Int)} (a : FitsL H D ls) (s : Same H H') : FitsL H' D ls := by
  obtain ⟨ts, h1, h2, h3⟩ := a.ob
  refine ⟨ts, s _ _ h1, h2, fun i v l e1 e2 => ?_⟩
  obtain ⟨T, e, h⟩ := h3 i v l e1 e2
  exact ⟨T, e, s _ _ h⟩
theorem FitsL.at {H : Hp} {D : Addr} {ls : List (List Int)} {ts : List V} (h2 : ts.length = ls.length) (h3 : ∀ (i : Nat) (v : V) (l : List Int), ts[i]? = some v → ls[i]? = some l → ∃ T, v = .ref T ∧ H T = some (.tup (l.map V.int))) {i : Nat} {l : List Int} (h : ls[i]? = some l) : ∃ T, ts[i]? = some (.ref T) ∧ H T = some (.tup (l.map V.int)) := by
  have hi : i < ts.length := by rw [h2]; exact (List.getElem?_eq_some_iff.mp h).1
  obtain ⟨T, e, k⟩ := h3 i _ l (List.getElem?_eq_getElem hi) h
  exact ⟨T, by rw [List.getElem?_eq_getElem hi, e], k⟩
/-- the first one of which there is none -/
def BareAt (ls : List (List Int)) : Option Nat → Prop
  | none => ∀ l ∈ ls, l ≠ []
  | some n => ls[n]? = some [] ∧ ∀ j l, j < n → ls[j]? = some l → l ≠ []
theorem BareAt.uniq {ls : List (List Int)} : ∀ {o o' : Option Nat}, BareAt ls o → BareAt ls o' → o = o'
  | none, none, _, _ => rfl
  | none, some n, h, g => absurd rfl (h _ (List.mem_of_getElem? g.1))
  | some n, none, h, g => absurd rfl (g _ (List.mem_of_getElem? h.1))
  | some n, some m, h, g => by
    rcases Nat.lt_trichotomy n m with q | q | q
    · exact absurd rfl (g.2 n _ q h.1)
    · rw [q]
    · exact absurd rfl (h.2 m _ q g.1)
def firstI (ls : List (List Int)) (a : Int) : Int := ((ls.getD a.toNat []).head?).getD 0
def lastI (ls : List (List Int)) (a : Int) : Int := ((ls.getD a.toNat []).getLast?).getD 0
/-- runs: none is bare, each begins no later than it ends -/
def RunsI (ls : List (List Int)) : Prop := ∀ i : Nat, i < ls.length → ls.getD i [] ≠ [] ∧ firstI ls i ≤ lastI ls i
structure GInv (ls : List (List Int)) (done : List (Int × Int)) (ss as : List Int) : Prop where
  len : ss.length = as.length
  hits : ∀ q ∈ done, ∃ s ∈ ss, firstI ls q.2 ≤ s ∧ s ≤ q.1
  own : ∀ (j : Nat) (s a : Int), ss[j]? = some s → as[j]? = some a → (s, a) ∈ done
  ap : ∀ (j j' : Nat) (s a : Int), j < j' → ss[j]? = some s → as[j']? = some a → s < firstI ls a
theorem GInv.nil {ls : List (List Int)} : GInv ls [] [] [] := ⟨rfl, fun q h => by simp at h, fun j s a h => by simp at h, fun j j' s a _ h => by simp at h⟩
/-- the pairs of last sizes and numbers -/
structure PairsOf (ls : List (List Int)) (ps : List (Int × Int)) : Prop where
  perm : ps.Perm ((List.range ls.length).map fun i : Nat => (lastI ls i, (i : Int)))
  srt : ∀ (i j : Nat) (p q : Int × Int), i < j → ps[i]? = some p → ps[j]? = some q → p.1 ≤ q.1
theorem PairsOf.mem {ls : List (List Int)} {ps : List (Int × Int)} (h : PairsOf ls ps) {q : Int × Int} : q ∈ ps ↔ ∃ i : Nat, i < ls.length ∧ q = (lastI ls i, (i : Int)) := by
  rw [h.perm.mem_iff, List.mem_map]
  constructor
  · rintro ⟨i, hi, e⟩; exact ⟨i, List.mem_range.mp hi, e.symm⟩
  · rintro ⟨i, hi, e⟩; exact ⟨i, List.mem_range.mpr hi, e.symm⟩
theorem GInv.rise {ls : List (List Int)} {ps : List (Int × Int)} {k : Nat} {ss as : List Int} (P : PairsOf ls ps) (R : RunsI ls) (g : GInv ls (ps.take k) ss as) : ∀ (j j' : Nat) (s s' : Int), j < j' → ss[j]? = some s → ss[j']? = some s' → s < s' := fun j j' s s' hj h h' => by
  have l := (List.getElem?_eq_some_iff.mp h').1
  obtain ⟨a', ha'⟩ := geI (zs := as) (n := j') (by rw [← g.len]; exact l)
  have h1 := g.ap j j' s a' hj h ha'
  have h2 := g.own j' s' a' h' ha'
  obtain ⟨i, hi, e⟩ := P.mem.mp (List.mem_of_mem_take h2)
  obtain ⟨rfl, rfl⟩ := Prod.mk.inj e
  have := (R i hi).2
  omega
theorem GInv.skip {ls : List (List Int)} {ps : List (Int × Int)} {k : Nat} {ss as : List Int} {b n s : Int} (P : PairsOf ls ps) (R : RunsI ls) (hk : ps[k]? = some (b, n)) (g : GInv ls (ps.take k) ss as) (hl : ss.getLast? = some s) (h : firstI ls n ≤ s) : GInv ls (ps.take (k + 1)) ss as := by
  have e : ps.take (k + 1) = ps.take k ++ [(b, n)] := by rw [List.take_add_one, hk]; rfl
  refine ⟨g.len, fun q hq => ?_, fun j s' a h1 h2 => ?_, g.ap⟩
  · rw [e] at hq
    rcases List.mem_append.mp hq with hq | hq
    · exact g.hits q hq
    · have : q = (b, n) := by simpa using hq
      subst this
      refine ⟨s, List.mem_of_getLast? hl, h, ?_⟩
      have l0 : 0 < ss.length := by cases ss with | nil => simp at hl | cons => simp
      have hs : ss[ss.length - 1]? = some s := by rw [← List.getLast?_eq_getElem?]; exact hl
      obtain ⟨a, ha⟩ := geI (zs := as) (n := ss.length - 1) (by rw [← g.len]; omega)
      have hm := g.own _ s a hs ha
      obtain ⟨i, hi⟩ := List.mem_iff_getElem?.mp hm
      have li := (List.getElem?_eq_some_iff.mp hi).1
      rw [List.length_take] at li
      rw [List.getElem?_take_of_lt (by omega)] at hi
      exact P.srt i k (s, a) (b, n) (by omega) hi hk
  · rw [e]
    exact List.mem_append.mpr (.inl (g.own j s' a h1 h2))
theorem GInv.take {ls : List (List Int)} {ps : List (Int × Int)} {k : Nat} {ss as : List Int} {b n : Int} (P : PairsOf ls ps) (R : RunsI ls) (hk : ps[k]? = some (b, n)) (g : GInv ls (ps.take k) ss as) (h : ∀ s, ss.getLast? = some s → s < firstI ls n) : GInv ls (ps.take (k + 1)) (ss ++ [b]) (as ++ [n]) := by
  have e : ps.take (k + 1) = ps.take k ++ [(b, n)] := by rw [List.take_add_one, hk]; rfl
  obtain ⟨i, hi, ei⟩ := P.mem.mp (List.mem_of_getElem? hk)
  obtain ⟨rfl, rfl⟩ := Prod.mk.inj ei
  refine ⟨by rw [List.length_append, List.length_append, g.len]; rfl, fun q hq => ?_, fun j s' a h1 h2 => ?_, fun j j' s' a hj h1 h2 => ?_⟩
  · rw [e] at hq
    rcases List.mem_append.mp hq with hq | hq
    · obtain ⟨s, hs, q1⟩ := g.hits q hq
      exact ⟨s, List.mem_append.mpr (.inl hs), q1⟩
    · have : q = (lastI ls (i : Int), (i : Int)) := by simpa using hq
      subst this
      exact ⟨lastI ls i, by simp, (R i hi).2, Int.le_refl _⟩
  · rw [e]
    by_cases hlt : j < ss.length
    · rw [List.getElem?_append_left hlt] at h1
      rw [List.getElem?_append_left (by rw [← g.len]; exact hlt)] at h2
      exact List.mem_append.mpr (.inl (g.own j s' a h1 h2))
    · have l1 := (List.getElem?_eq_some_iff.mp h1).1
      rw [List.length_append, List.length_singleton] at l1
      have ej : j = ss.length := by omega
      rw [ej, List.getElem?_append_right (Nat.le_refl _), Nat.sub_self] at h1
      rw [ej, g.len, List.getElem?_append_right (Nat.le_refl _), Nat.sub_self] at h2
      have h1 : lastI ls i = s' := by simpa using h1
      have h2 : (i : Int) = a := by simpa using h2
      rw [← h1, ← h2]
      simp
  · have l2 := (List.getElem?_eq_some_iff.mp h2).1
    rw [List.length_append, List.length_singleton, ← g.len] at l2
    have h1' : ss[j]? = some s' := by
      rw [List.getElem?_append_left (by omega)] at h1; exact h1
    by_cases hlt : j' < ss.length
    · rw [List.getElem?_append_left (by rw [← g.len]; exact hlt)] at h2
      exact g.ap j j' s' a hj h1' h2
    · have ej : j' = ss.length := by omega
      rw [ej, g.len, List.getElem?_append_right (Nat.le_refl _), Nat.sub_self] at h2
      have h2 : (i : Int) = a := by simpa using h2
      rw [← h2]
      have hs : ss[ss.length - 1]? = ss.getLast? := List.getLast?_eq_getElem?.symm
      obtain ⟨s, hs2⟩ := geI (zs := ss) (n := ss.length - 1) (by omega)
      have hlast := h s (by rw [← hs]; exact hs2)
      by_cases q : j = ss.length - 1
      · rw [q, hs2] at h1'
        cases h1'
        exact hlast
      · have := g.rise P R j (ss.length - 1) s' s (by omega) h1' hs2
        omega
/-! ### tuples of the heap: sums and slices -/
section
variable {X : Cx}
end
/-! ### fractions as rational numbers -/
def toR (z : Q2) : Rat := (z.1 : Rat) / (z.2 : Rat)
theorem posR {n : Int} (h : 0 < n) : (0 : Rat) < (n : Rat) := by
  have := Rat.intCast_lt_intCast.mpr h
  simpa using this
section
variable {a b z w x y : Q2}
theorem div_ltR {a b c d : Int} (hb : 0 < b) (hd : 0 < d) : ((a : Rat) / b < (c : Rat) / d) ↔ (a : Rat) * d < c * b := by
  have hb := posR hb
  have hd := posR hd
  constructor
  · intro h
    have e1 : (a : Rat) * d = (a / b) * (b * d) := by grind
    have e2 : (c : Rat) * b = (c / d) * (b * d) := by grind
    rw [e1, e2]
    exact Rat.mul_lt_mul_of_pos_right h (Rat.mul_pos hb hd)
  · intro h
    by_cases g : (c : Rat) / d ≤ (a : Rat) / b
    · have := Rat.mul_le_mul_of_nonneg_right g (Rat.le_of_lt (Rat.mul_pos hb hd))
      have e1 : (a : Rat) * d = (a / b) * (b * d) := by grind
      have e2 : (c : Rat) * b = (c / d) * (b * d) := by grind
      grind
    · grind
theorem ltq_R (ha : 0 < a.2) (hb : 0 < b.2) : ltq a b = true ↔ toR a < toR b := by
  unfold toR
  rw [div_ltR ha hb]
  unfold ltq
  rw [decide_eq_true_iff, ← Rat.intCast_mul, ← Rat.intCast_mul, Rat.intCast_lt_intCast]
theorem leq_R (ha : 0 < a.2) (hb : 0 < b.2) : leq a b = true ↔ toR a ≤ toR b := by
  rw [leq_not]
  cases e : ltq b a with
  | true =>
    have := (ltq_R hb ha).mp e
    constructor
    · intro h; simp at h
    · intro h; grind
  | false =>
    have : ¬ toR b < toR a := fun q => by rw [(ltq_R hb ha).mpr q] at e; cases e
    constructor
    · intro _; grind
    · intro _; rfl
theorem re_R (h : Re z w) : toR z = toR w := by
  obtain ⟨h1, h2, h3⟩ := h
  unfold toR
  have p1 := posR h1
  have p2 := posR h2
  have e : (z.1 : Rat) * (w.2 : Rat) = (w.1 : Rat) * (z.2 : Rat) := by rw [← Rat.intCast_mul, ← Rat.intCast_mul, h3]
  grind
theorem nn_R (ha : 0 < a.2) : 0 ≤ a.1 ↔ 0 ≤ toR a := by
  have p : 0 < ((0, 1) : Q2).2 := by decide
  have h := leq_R (a := (0, 1)) (b := a) p ha
  have e : toR (0, 1) = 0 := by unfold toR; grind
  rw [e] at h
  rw [← h, leq_not]
  unfold ltq
  simp
end
theorem Re.nn {z w : Q2} (r : Re z w) (h : 0 ≤ w.1) : 0 ≤ z.1 := by
  rw [nn_R r.1, re_R r]
  exact (nn_R r.2.1).mp h
section
variable {zs : List Q2} {a z x y e w : Q2} {i : Nat}
end
/-! ### lists of tuples of numbers as data -/
section
variable {X : Cx} {K : PySem.W.Frag}
end
theorem eqvAll_ints : ∀ a b : List Int, PyData.eqvAll (a.map PyData.int) (b.map PyData.int) = decide (a = b)
  | [], [] => by simp [PyData.eqvAll]
  | [], _ :: _ => by simp [PyData.eqvAll]
  | _ :: _, [] => by simp [PyData.eqvAll]
  | x :: a, y :: b => by
    have e : (x == y) = decide (x = y) := by rw [Bool.eq_iff_iff]; simp
    simp [PyData.eqvAll, PyData.eqv, eqvAll_ints a b, e]
theorem eqv_intsD (a b : List Int) : PyData.eqv (intsD a) (intsD b) = decide (a = b) := by
  unfold intsD
  simp [PyData.eqv, eqvAll_ints]
theorem dpAll_of {α : Type} {K : PySem.W.Frag} {H : Hp} (f : α → PyData) : ∀ {ts : List V} {ls : List α}, ts.length = ls.length → (∀ (i : Nat) (v : V) (l : α), ts[i]? = some v → ls[i]? = some l → Dp K H v (f l)) → DpAll K H ts (ls.map f)
  | [], [], _, _ => .nil
  | [], _ :: _, h, _ => by simp at h
  | _ :: _, [], h, _ => by simp at h
  | t :: ts, l :: ls, h, g => .cons (g 0 t l rfl rfl) (dpAll_of f (by simpa using h) fun i v l' h1 h2 => g (i + 1) v l' (by simpa using h1) (by simpa using h2))
theorem shInts (zs : List Int) : SeqAt.shaped (intsD zs) = true := by
  have h := ints_depth zs
  have e1 : (intsD zs).depth ≤ 64 := by
    show PyData.depthAll (zs.map PyData.int) + 1 ≤ 64
    omega
  have e2 : (intsD zs).canLay0 = true := layI zs
  unfold SeqAt.shaped
  rw [e2, decide_eq_true e1]
  rfl
theorem FitsL.dp {K : PySem.W.Frag} {H : Hp} {D : Addr} {ls : List (List Int)} (a : FitsL H D ls) : Dp K H (.ref D) (.list (ls.map fun l => intsD l)) := by
  obtain ⟨ts, h1, h2, h3⟩ := a.ob
  refine .lst (SqL.of h1) (dpAll_of (fun l => intsD l) h2 fun i v l e1 e2 => ?_)
  obtain ⟨T, rfl, h⟩ := h3 i v l e1 e2
  exact dpT h
/-! ### a set of a tuple of numbers -/
/-! ### looked at ahead of a step (apply fails at once where exact, refine and show take seconds) -/
section
variable {K : PySem.W.Frag} {C CM CL CG p h a L1 L2 : Addr} {H H' : Hp} {v : V} {k n : Nat} {z : Q2} {vs : List V} {zs ys : List Q2} {e : Option Q2} {r : Str} {lo hi : Option Q2} {o : Option HO} {x : HO} {P Q : Prop}
end
/-! ### what follows a statement, kept out of sight while it is read -/
/-! ### a comprehension over a list that draws, some left out -/
theorem AllTQ.nl {H H' : Hp} {k : Nat} {vs : List V} (m : AllTQ H k vs) (s : Nl H H') : AllTQ H' k vs := fun x hx => by
  obtain ⟨z, t⟩ := m x hx
  exact ⟨z, t.nl s⟩
theorem AllTQ.same {H H' : Hp} {k : Nat} {vs : List V} (m : AllTQ H k vs) (s : Same H H') : AllTQ H' k vs := m.nl (Nl.of s)
theorem AllTQ.mono {H : Hp} {k j : Nat} {vs : List V} (m : AllTQ H k vs) (l : k ≤ j) : AllTQ H j vs := fun x hx => by
  obtain ⟨z, t⟩ := m x hx
  exact ⟨z, t.mono l⟩
theorem Kp.up2 {h D : Addr} {H H1 : Hp} {u : HO} (k : Kp h H H1) (hD : H D = none) : Kp h H (upd H1 D u) := fun c o e n => by
  rw [upd_ne (ne_of_none e hD)]
  exact k c o e n
end My
namespace My
open PySem PySem.Spec PyProof.Rows L2
/-! ### the stretches of a ladder's sizes, held -/
theorem MAt.nl {C p : Addr} {H H' : Hp} {t u : Int} (a : MAt C H p t u) (s : Nl H H') : MAt C H' p t u := by
  obtain ⟨dx, h⟩ := a
  exact ⟨dx, s _ _ h rfl⟩
theorem MsV.nl {C : Addr} {H H' : Hp} {v : V} (s : Nl H H') : ∀ {e : Option Q2}, MsV C H v e → MsV C H' v e
  | none, h => h
  | some _, ⟨p, h1, h2⟩ => ⟨p, h1, h2.nl s⟩
theorem StAt.nl {CM CS p : Addr} {H H' : Hp} {lo hi : Option Q2} {li hj : Bool} (a : StAt CM CS H p lo hi li hj) (s : Nl H H') : StAt CM CS H' p lo hi li hj := by
  obtain ⟨⟨dx, l, h, h1, h2, h3⟩, a1, a2, a3, a4⟩ := a
  exact ⟨⟨dx, l, h, s _ _ h1 rfl, h2.nl s, h3.nl s⟩, a1, a2, a3, a4⟩
theorem StQ.nl {CM CS p : Addr} {H H' : Hp} {x y : Option Q2 × Bool} (a : StQ CM CS H p x y) (s : Nl H H') : StQ CM CS H' p x y := by
  obtain ⟨lo, hi, h1, h2, h3⟩ := a
  exact ⟨lo, hi, h1.nl s, h2, h3⟩
/-- the stretch of a size, or None -/
def RunV (CM CS : Addr) (H : Hp) (v : V) (zs : List Q2) (r : Str) (lo hi : Option Q2) (n : Nat) : Prop :=
  (sizB zs r lo hi n = true ∧ ∃ p, v = .ref p ∧ StQ CM CS H p (sizE zs r lo hi n).1 (sizE zs r lo hi n).2) ∨ (sizB zs r lo hi n = false ∧ v = .non)
section
variable {CM CS : Addr} {H H' : Hp} {v : V} {zs : List Q2} {r : Str} {lo hi : Option Q2} {n : Nat}
theorem RunV.same (a : RunV CM CS H v zs r lo hi n) (s : Same H H') : RunV CM CS H' v zs r lo hi n := by
  rcases a with ⟨h, p, e, q⟩ | h
  · exact .inl ⟨h, p, e, q.same s⟩
  · exact .inr h
theorem RunV.nl (a : RunV CM CS H v zs r lo hi n) (s : Nl H H') : RunV CM CS H' v zs r lo hi n := by
  rcases a with ⟨h, p, e, q⟩ | h
  · exact .inl ⟨h, p, e, q.nl s⟩
  · exact .inr h
end
section
variable {CM CS : Addr} {H : Hp} {p q : Addr} {x y x2 y2 : Option Q2 × Bool}
theorem StQ.raw (a : StQ CM CS H p x y) {m : Str} (h1 : ¬ m = "low") (h2 : ¬ m = "high") (h3 : ¬ m = "low_in") (h4 : ¬ m = "high_in") {R : Prop} (h : R) : ∃ a dx fs, V.ref p = .ref a ∧ H a = some (.ins CS dx fs) ∧ fs.lookup m = none ∧ R := by
  obtain ⟨lo, hi, s, _⟩ := a
  exact meth_s s h1 h2 h3 h4 h
/-- an end of so many bits -/
def SzE (k : Nat) : Option Q2 → Prop
  | none => True
  | some a => Sz k a.1 ∧ Sz k a.2
end
theorem SzE.mono {k j : Nat} (l : k ≤ j) : ∀ {o : Option Q2}, SzE k o → SzE j o
  | none, _ => trivial
  | some _, h => ⟨h.1.mono l, h.2.mono l⟩
def SzL (k : Nat) (zs : List Q2) : Prop := ∀ z ∈ zs, Sz k z.1 ∧ Sz k z.2
theorem SzL.get {k : Nat} {zs : List Q2} (h : SzL k zs) (i : Nat) : SzE k zs[i]? := by
  cases e : zs[i]? with
  | none => trivial
  | some a => exact h a (List.mem_of_getElem? e)
theorem SzL.end {k : Nat} {zs : List Q2} (h : SzL k zs) (i : Int) : SzE k (endQ zs i) := by
  unfold endQ
  split
  · exact h.get _
  · trivial
theorem LawL.szs {H : Hp} {p : Addr} {part : Int} {ms : List Int} {r : Str} {lo hi : Option Int} (a : LawL H p part ms r lo hi) : SzL 40 (zq (4 * part) ms) ∧ SzE 40 (oq (4 * part) lo) ∧ SzE 40 (oq (4 * part) hi) := by
  have p0 := a.p0
  have p1 := a.p1
  have sp : Sz 40 (4 * part) := by show (4 * part).natAbs < 2 ^ 40; omega
  have sz : ∀ z : Int, -4000040 ≤ z → z ≤ 4000040 → Sz 40 z := fun z h1 h2 => by show z.natAbs < 2 ^ 40; omega
  refine ⟨fun z hz => ?_, ?_, ?_⟩
  · obtain ⟨m, hm, rfl⟩ := List.mem_map.mp hz
    have := a.bnd m hm
    exact ⟨sz m (by omega) (by omega), sp⟩
  · cases lo with
    | none => trivial
    | some z => have := a.blo z rfl; exact ⟨sz z this.1 this.2, sp⟩
  · cases hi with
    | none => trivial
    | some z => have := a.bhi z rfl; exact ⟨sz z this.1 this.2, sp⟩
theorem LadAt.up {K : PySem.W.Frag} {CM CL : Addr} {H : Hp} {p : Addr} {k j : Nat} {zs : List Q2} {r : Str} {lo hi : Option Q2} (a : LadAt K CM CL H p k zs r lo hi) (l : k ≤ j) : LadAt K CM CL H p j zs r lo hi := a.mono l
/-! ### measures that a stretch holds -/
def GoodM (CM : Addr) (x y : Option Q2 × Bool) (H : Hp) (ys : List V) : Prop := ∀ v ∈ ys, ∃ q z, v = .ref q ∧ QAt CM H q 300 z ∧ (loIn x.1 x.2 z && hiIn y.1 y.2 z) = true
theorem GoodM.nl {CM : Addr} {x y : Option Q2 × Bool} {H H' : Hp} {ys : List V} (g : GoodM CM x y H ys) (s : Nl H H') : GoodM CM x y H' ys := fun v hv => by
  obtain ⟨q, z, e, a, h⟩ := g v hv
  exact ⟨q, z, e, a.nl s, h⟩
theorem GoodM.snoc {CM : Addr} {x y : Option Q2 × Bool} {H : Hp} {ys : List V} {q : Addr} {z : Q2} (g : GoodM CM x y H ys) (a : QAt CM H q 300 z) (h : (loIn x.1 x.2 z && hiIn y.1 y.2 z) = true) : GoodM CM x y H (ys ++ [.ref q]) := fun v hv => by
  rcases List.mem_append.mp hv with hv | hv
  · exact g v hv
  · have : v = .ref q := by simpa using hv
    exact ⟨q, z, this, a, h⟩
section
variable {a b : Q2} {i j : Bool} {yo xo : Option Q2}
end
end My
namespace My
open PySem PySem.Spec PyProof.Rows L2
/-! ### comprehensions within comprehensions: the readings of the inner ones are found ahead -/
section
variable {X : Cx}
end
end My
namespace My
open PySem PySem.Spec PyProof.Rows L2
/-! ### repr of a tuple that holds own objects -/
section
variable {X : Cx} {n : Nat} {CX : CXT} {C f : Addr} {fd : FuncData} {ps : List Str} {sp : Sp} {E : XK}
end
/-! ### == of tuples, item by item -/
section
open GQ
open AutoSeq1 (wpAny_loadPart')
variable {prog : Program} {w : World} {A : Around} {R : Result → Shared → Prop}
end
section
variable {X : Cx} {n : Nat} {D : Eqb}
end
/-! ### {x} of an own object, repr of one whose own def shows a tuple -/
section
variable {X : Cx} {n : Nat} {CX : CXT} {C f : Addr} {fd : FuncData} {ps : List Str} {sp : Sp} {E : XK}
end
end My
namespace My
open PySem PySem.Spec PyProof.Rows L2
/-! ### signs of texts; dicts beside own == -/
/-! ### own == within comprehensions: K by name -/
theorem rep_fmF (n : Nat) : (List.replicate n (some (V.bl false))).filterMap _root_.id = (List.replicate n false).map V.bl := by
  induction n with
  | zero => rfl
  | succ n ih => rw [List.replicate_succ, List.filterMap_cons, List.replicate_succ, List.map_cons, ← ih]; rfl
end My
namespace K23
open PySem PySem.Spec PyProof.Rows L2 My
local macro_rules | `(tactic| walk_at "c") => `(tactic| first | exact Eq.refl _ | ((with_reducible show (_ : Int) ≤ _); omega) | ((with_reducible show (_ : Int) < _); omega) | ((with_reducible show (_ : Nat) ≤ _); omega) | ((with_reducible show (_ : Nat) < _); omega) | assumption | with_reducible exact lf_marks _ _ _ _ | with_reducible exact lf_rule _ _ _ _ | with_reducible exact lf_least _ _ _ _ | with_reducible exact lf_most _ _ _ _ | with_reducible exact mf_top _ _ | with_reducible exact mf_bottom _ _ | with_reducible exact sf_low _ _ _ _ | with_reducible exact sf_high _ _ _ _ | with_reducible exact sf_low_in _ _ _ _ | with_reducible exact sf_high_in _ _ _ _ | exact SqL.of (by assumption) | exact SqT.of (by assumption) | exact Or.inl (SqL.of (by assumption)) | exact Or.inr (SqT.of (by assumption)) | exact Or.inr (by assumption) | exact Or.inl (by assumption) | omega | exact atI_nat (by assumption) | exact atI_of (n := 0) rfl (by assumption) | exact logS (by omega) | exact Or.inl (Or.inl ⟨by omega, by omega⟩) | exact Or.inl (Or.inr ⟨by omega, by omega⟩) | exact szb rfl | exact szs (by omega) | exact szl (by omega) | exact Or.inl ⟨Eq.refl _, _, SqL.of (by assumption)⟩ | exact ⟨_, SqT.of (by assumption)⟩ | exact ⟨_, SqL.of (by assumption)⟩ | exact ⟨by omega, by omega, by omega, by omega⟩)
local macro_rules | `(tactic| walk_at "e") => `(tactic| first | rfl | exact ⟨rfl, rfl⟩ | exact ⟨rfl, rfl, rfl⟩ | assumption | exact trivial)
local macro_rules | `(tactic| walk_at "w1") => `(tactic| first
  | refine q_belowT (by assumption) (by assumption) (by omega) (by omega) ?_ | refine q_belowA (by assumption) (by assumption) (by omega) (by omega) ?_ | refine q_subT (by assumption) (by assumption) (by omega) (by omega) (by omega) ?_
  | refine meth_q (by assumption) (by decide +kernel) (by decide +kernel) ?_ | refine meth_l (by assumption) (by decide +kernel) (by decide +kernel) (by decide +kernel) (by decide +kernel) ?_ | refine meth_s (by assumption) (by decide +kernel) (by decide +kernel) (by decide +kernel) (by decide +kernel) ?_
  | apply @Exists.intro V | apply @Exists.intro Int | apply @Exists.intro Addr | apply @Exists.intro Bool | apply @Exists.intro (List V) | apply @Exists.intro Str | apply @Exists.intro Nat | apply @Exists.intro (List (Str × V))
  | refine And.intro (by walk_at "c") ?_ | refine iteT ?_ | refine iteF ?_ | refine iteDT (by omega) ?_ | refine iteDF (by omega) ?_ | refine iteNS (by omega) ?_ | refine iteNT (by omega) ?_)
local macro_rules | `(tactic| walk_at "w") => `(tactic| repeat (walk_at "w1"))
local macro_rules | `(tactic| walk_at "wa1") => `(tactic| first | refine q_addT (by assumption) (by assumption) (by omega) (by omega) (by omega) ?_ | refine q_mulT (by assumption) (by assumption) (by omega) (by omega) (by omega) ?_ | walk_at "w1")
local macro_rules | `(tactic| walk_at "wa") => `(tactic| repeat (walk_at "wa1"))
local macro_rules | `(tactic| walk_at "hand") => `(tactic| first | assumption | exact HandAt.up (by walk_at "hand") (by assumption))
local macro_rules | `(tactic| walk_at "hp") => `(tactic| first | assumption | exact upd_same | exact up1 (by assumption) (by walk_at "hp") | exact Kp.get (by assumption) (by walk_at "hand") (by walk_at "hp") (by rfl) | exact L2.Same.get (by assumption) (by walk_at "hp") | exact up2 (by assumption) (by walk_at "hp") (by rfl))


theorem existsLeast {p : Nat → Prop} (h : ∃ n, p n) : ∃ n, p n ∧ ∀ m, p m → n ≤ m := by
  obtain ⟨n, hn⟩ := h
  induction n using Nat.strongRecOn with
  | ind n ih =>
    by_cases q : ∃ m, m < n ∧ p m
    · obtain ⟨m, h1, h2⟩ := q
      exact ih m h1 h2
    · refine ⟨n, hn, fun m hm => ?_⟩
      rcases Nat.lt_or_ge m n with z | z
      · exact absurd ⟨m, z, hm⟩ q
      · exact z
/-! ### rises: the numbers of the rows, what is kept -/
def lti (ts : List Int) (i j : Nat) : Bool := decide (ts.getD i 0 < ts.getD j 0)
def mxN (l : List Nat) : Nat := l.foldr max 0
theorem mxN_le {l : List Nat} {x : Nat} (h : x ∈ l) : x ≤ mxN l := by
  induction l with
  | nil => cases h
  | cons a l ih =>
    show x ≤ max a (mxN l)
    rcases List.mem_cons.mp h with rfl | h
    · omega
    · have := ih h; omega
theorem mxN_mem {l : List Nat} (h : l ≠ []) : mxN l ∈ l := by
  induction l with
  | nil => exact absurd rfl h
  | cons a l ih =>
    show max a (mxN l) ∈ a :: l
    by_cases e : l = []
    · subst e
      show max a 0 ∈ [a]
      simp
    · have := ih e
      rcases Nat.le_total a (mxN l) with q | q
      · rw [Nat.max_eq_right q]; exact List.mem_cons_of_mem _ this
      · rw [Nat.max_eq_left q]; exact List.mem_cons_self ..
def candH (ts : List Int) (hs : List Nat) (n : Nat) : List Nat := ((List.range n).filter fun a => lti ts a n).map fun a => hs.getD a 0 + 1
def hgt (ts : List Int) : Nat → List Nat
  | 0 => []
  | n + 1 => hgt ts n ++ [mxN (candH ts (hgt ts n) n)]
theorem hgt_len (ts : List Int) : ∀ n, (hgt ts n).length = n
  | 0 => rfl
  | n + 1 => by
    show (hgt ts n ++ [_]).length = _
    rw [List.length_append, hgt_len ts n]; rfl
def hgN (ts : List Int) (i : Nat) : Nat := mxN (candH ts (hgt ts i) i)
theorem hgt_get (ts : List Int) : ∀ {n i : Nat}, i < n → (hgt ts n)[i]? = some (hgN ts i)
  | 0, _, h => by omega
  | n + 1, i, h => by
    show (hgt ts n ++ [mxN (candH ts (hgt ts n) n)])[i]? = _
    by_cases e : i < n
    · rw [List.getElem?_append_left (by rw [hgt_len]; exact e)]
      exact hgt_get ts e
    · have : i = n := by omega
      subst this
      rw [List.getElem?_append_right (by rw [hgt_len]; omega), hgt_len, Nat.sub_self]; rfl
theorem hgt_getD (ts : List Int) {n i : Nat} (h : i < n) : (hgt ts n).getD i 0 = hgN ts i := by
  rw [List.getD_eq_getElem?_getD, hgt_get ts h]; rfl
theorem hh_up (ts : List Int) {i j : Nat} (h : i < j) (l : lti ts i j = true) : hgN ts i + 1 ≤ hgN ts j := by
  refine mxN_le (List.mem_map.mpr ⟨i, List.mem_filter.mpr ⟨List.mem_range.mpr h, l⟩, ?_⟩)
  rw [hgt_getD ts h]
theorem hh_dn (ts : List Int) {j : Nat} (h : 0 < hgN ts j) : ∃ i, i < j ∧ lti ts i j = true ∧ hgN ts i + 1 = hgN ts j := by
  have ne : candH ts (hgt ts j) j ≠ [] := fun e => by
    unfold hgN at h
    rw [e] at h
    exact absurd h (by decide)
  obtain ⟨i, h1, h2⟩ := List.mem_map.mp (mxN_mem ne)
  obtain ⟨h3, h4⟩ := List.mem_filter.mp h1
  have h3 := List.mem_range.mp h3
  rw [hgt_getD ts h3] at h2
  exact ⟨i, h3, h4, h2⟩
/-- the greatest number of n rows -/
def hgM (ts : List Int) (n : Nat) : Nat := mxN (hgt ts n)
theorem hm_le (ts : List Int) {n i : Nat} (h : i < n) : hgN ts i ≤ hgM ts n := mxN_le (List.mem_of_getElem? (hgt_get ts h))
theorem hm_at (ts : List Int) {n : Nat} (h : 0 < n) : ∃ i, i < n ∧ hgN ts i = hgM ts n := by
  have ne : hgt ts n ≠ [] := fun e => by
    have := hgt_len ts n
    rw [e] at this
    simp at this
    omega
  obtain ⟨i, hi⟩ := List.mem_iff_getElem?.mp (mxN_mem ne)
  have l := (List.getElem?_eq_some_iff.mp hi).1
  rw [hgt_len] at l
  rw [hgt_get ts l] at hi
  exact ⟨i, l, Option.some.inj hi⟩
/-- numbers rising, and the rows rising at them -/
def Chain (ts : List Int) (c : List Nat) : Prop := ∀ i a b, c[i]? = some a → c[i + 1]? = some b → a < b ∧ lti ts a b = true
theorem Chain.tail {ts : List Int} {a : Nat} {c : List Nat} (h : Chain ts (a :: c)) : Chain ts c := fun i x y h1 h2 => h (i + 1) x y (by simpa using h1) (by simpa using h2)
theorem Chain.cons {ts : List Int} {a : Nat} {c : List Nat} (h : Chain ts c) (q : ∀ b, c[0]? = some b → a < b ∧ lti ts a b = true) : Chain ts (a :: c) := fun i x y h1 h2 => by
  cases i with
  | zero =>
    cases h1
    exact q y (by simpa using h2)
  | succ i => exact h i x y (by simpa using h1) (by simpa using h2)
theorem Chain.hgN {ts : List Int} {c : List Nat} (h : Chain ts c) : ∀ {i a : Nat}, c[i]? = some a → i ≤ hgN ts a
  | 0, _, _ => Nat.zero_le _
  | i + 1, b, hb => by
    have l := (List.getElem?_eq_some_iff.mp hb).1
    have ha : c[i]? = some c[i] := List.getElem?_eq_getElem (by omega)
    have h1 := Chain.hgN h ha
    obtain ⟨h2, h3⟩ := h i _ b ha hb
    have := hh_up ts h2 h3
    omega
theorem Chain.le {ts : List Int} {c : List Nat} {n : Nat} (h : Chain ts c) (hn : ∀ a ∈ c, a < n) : c.length ≤ hgM ts n + 1 := by
  by_cases e : c = []
  · subst e; exact Nat.zero_le _
  · have l : 0 < c.length := by
      cases c with
      | nil => exact absurd rfl e
      | cons _ _ => exact Nat.succ_pos _
    have ha : c[c.length - 1]? = some c[c.length - 1] := List.getElem?_eq_getElem (by omega)
    have h1 := h.hgN ha
    have h2 := hm_le ts (hn _ (List.mem_of_getElem? ha))
    omega
/-- kept so far, all rows from i on seen -/
structure Kept (ts : List Int) (n i : Nat) (c : List Nat) (w : Int) : Prop where
  ch : Chain ts c
  lo : ∀ a ∈ c, i ≤ a ∧ a < n
  wd : w = (hgM ts n : Int) - c.length
  w0 : -1 ≤ w
  em : c = [] → ∀ x, i ≤ x → x < n → (hgN ts x : Int) ≠ w
  ne : ∀ k, c[0]? = some k → (hgN ts k : Int) = w + 1 ∧ ∀ x, i ≤ x → x < k → (hgN ts x : Int) ≠ w
theorem Kept.start (ts : List Int) (n : Nat) : Kept ts n n [] (hgM ts n) :=
  ⟨fun i a b h => by simp at h, fun a h => by simp at h, by simp, by omega, fun _ x h1 h2 => by omega, fun k h => by simp at h⟩
theorem Kept.skip {ts : List Int} {n i : Nat} {c : List Nat} {w : Int} (k : Kept ts n (i + 1) c w) (h : (hgN ts i : Int) ≠ w) : Kept ts n i c w :=
  ⟨k.ch, fun a ha => by have := k.lo a ha; omega, k.wd, k.w0, fun e x h1 h2 => by
    by_cases q : x = i
    · subst q; exact h
    · exact k.em e x (by omega) h2, fun y hy => ⟨(k.ne y hy).1, fun x h1 h2 => by
    by_cases q : x = i
    · subst q; exact h
    · exact (k.ne y hy).2 x (by omega) h2⟩⟩
theorem Kept.take {ts : List Int} {n i : Nat} {c : List Nat} {w : Int} (k : Kept ts n (i + 1) c w) (hi : i < n) (h : (hgN ts i : Int) = w) : Kept ts n i (i :: c) (w - 1) := by
  refine ⟨k.ch.cons fun b hb => ?_, fun a ha => ?_, by rw [k.wd, List.length_cons]; omega, by omega, fun e => by simp at e, fun y hy => ?_⟩
  · obtain ⟨h1, h2⟩ := k.ne b hb
    have hb2 := k.lo b (List.mem_of_getElem? hb)
    refine ⟨by omega, ?_⟩
    obtain ⟨j, j1, j2, j3⟩ := hh_dn ts (j := b) (by omega)
    have jw : (hgN ts j : Int) = w := by omega
    have ji : j < i + 1 := by
      rcases Nat.lt_or_ge j (i + 1) with q | q
      · exact q
      · exact absurd jw (h2 j q j1)
    by_cases q : j = i
    · subst q; exact j2
    · have nl : ¬ lti ts j i = true := fun z => by
        have := hh_up ts (show j < i by omega) z
        omega
      unfold lti at *
      have e1 := of_decide_eq_true j2
      have e2 : ¬ ts.getD j 0 < ts.getD i 0 := fun z => nl (decide_eq_true z)
      exact decide_eq_true (by omega)
  · rcases List.mem_cons.mp ha with rfl | ha
    · omega
    · have := k.lo a ha; omega
  · cases hy
    exact ⟨by omega, fun x h1 h2 => by omega⟩
theorem Kept.end_ {ts : List Int} {n : Nat} {c : List Nat} {w : Int} (k : Kept ts n 0 c w) (hn : 0 < n) : c.length = hgM ts n + 1 := by
  have e : w = -1 := by
    cases hc : c with
    | nil =>
      obtain ⟨i, h1, h2⟩ := hm_at ts hn
      refine absurd ?_ (k.em hc i (Nat.zero_le _) h1)
      rw [k.wd, hc, h2]; simp
    | cons a r =>
      obtain ⟨h1, h2⟩ := k.ne a (by rw [hc]; rfl)
      rcases Int.lt_or_le w 0 with q | q
      · have := k.w0; omega
      · obtain ⟨j, j1, j2, j3⟩ := hh_dn ts (j := a) (by omega)
        exact absurd (by omega) (h2 j (Nat.zero_le _) j1)
  have := k.wd
  omega
/-- the law's way: how long from each row on -/
def gAt (ts : List Int) (n : Nat) (f : Nat → Nat) (i : Nat) : Nat := 1 + mxN (((List.range n).filter fun k => decide (i < k) && lti ts i k).map f)
def LongF (ts : List Int) (n i : Nat) (f : Nat → Nat) : Prop := ∀ k, i ≤ k → k < n → 1 ≤ f k ∧ (∀ j, k < j → j < n → lti ts k j = true → f j + 1 ≤ f k) ∧ (f k = 1 ∨ ∃ j, k < j ∧ j < n ∧ lti ts k j = true ∧ f k = f j + 1)
theorem LongF.le {ts : List Int} {n : Nat} {f : Nat → Nat} (h : LongF ts n 0 f) : ∀ d k, k < n → n - k ≤ d → f k + hgN ts k ≤ hgM ts n + 1
  | 0, k, h1, h2 => by omega
  | d + 1, k, h1, h2 => by
    obtain ⟨f1, f2, f3⟩ := h k (Nat.zero_le _) h1
    rcases f3 with e | ⟨j, j1, j2, j3, e⟩
    · have := hm_le ts h1; omega
    · have a := hh_up ts j1 j3
      have b := LongF.le h d j j2 (by omega)
      omega
theorem LongF.ge {ts : List Int} {n : Nat} {f : Nat → Nat} (h : LongF ts n 0 f) : ∀ {c : List Nat}, Chain ts c → (∀ a ∈ c, a < n) → ∀ a, c[0]? = some a → c.length ≤ f a
  | [], _, _, _, e => by simp at e
  | [x], _, hn, a, e => by
    cases e
    exact (h x (Nat.zero_le _) (hn x (by simp))).1
  | x :: y :: r, ch, hn, a, e => by
    cases e
    obtain ⟨q1, q2⟩ := ch 0 x y rfl rfl
    have b := LongF.ge h ch.tail (fun z hz => hn z (by simp at hz ⊢; exact .inr hz)) y rfl
    have f2 := (h x (Nat.zero_le _) (hn x (by simp))).2.1 y q1 (hn y (by simp)) q2
    show (y :: r).length + 1 ≤ _
    omega
theorem long_max {ts : List Int} {n : Nat} {f : Nat → Nat} {c : List Nat} (hn : 0 < n) (h : LongF ts n 0 f) (ch : Chain ts c) (hc : ∀ a ∈ c, a < n) (hl : c.length = hgM ts n + 1) : (∀ k, k < n → f k ≤ c.length) ∧ ∃ k, k < n ∧ f k = c.length := by
  have up : ∀ k, k < n → f k ≤ c.length := fun k hk => by
    have := h.le n k hk (by omega)
    omega
  refine ⟨up, ?_⟩
  cases hcc : c with
  | nil => rw [hcc] at hl; simp at hl
  | cons a r =>
    have h1 := h.ge ch hc a (by rw [hcc]; rfl)
    have h2 := hc a (by rw [hcc]; simp)
    have h3 := up a h2
    rw [hcc] at h1 h3
    exact ⟨a, h2, by omega⟩
theorem lti_get {ts : List Int} {i j : Nat} {a b : Int} (h1 : ts[i]? = some a) (h2 : ts[j]? = some b) : lti ts i j = decide (a < b) := by
  unfold lti
  rw [List.getD_eq_getElem?_getD, List.getD_eq_getElem?_getD, h1, h2]; rfl
theorem chain_all {ts : List Int} (hr : RiseI ts) : Chain ts (List.range ts.length) := fun i a b h1 h2 => by
  have l1 := (List.getElem?_eq_some_iff.mp h1).1
  have l2 := (List.getElem?_eq_some_iff.mp h2).1
  rw [List.length_range] at l1 l2
  rw [List.getElem?_range l1] at h1
  rw [List.getElem?_range l2] at h2
  cases h1; cases h2
  refine ⟨by omega, ?_⟩
  have e1 : ts[i]? = some ts[i] := List.getElem?_eq_getElem l1
  have e2 : ts[i + 1]? = some ts[i + 1] := List.getElem?_eq_getElem l2
  rw [lti_get e1 e2]
  exact decide_eq_true (hr i _ _ e1 e2)
theorem chain_lo {ts : List Int} {c : List Nat} (h : Chain ts c) : ∀ {i a : Nat}, c[i]? = some a → i ≤ a
  | 0, _, _ => Nat.zero_le _
  | i + 1, b, hb => by
    have l := (List.getElem?_eq_some_iff.mp hb).1
    have ha : c[i]? = some c[i] := List.getElem?_eq_getElem (by omega)
    have h1 := chain_lo h ha
    have := (h i _ b ha hb).1
    omega
theorem chain_hi {ts : List Int} {c : List Nat} {n : Nat} (h : Chain ts c) (hn : ∀ a ∈ c, a < n) : ∀ (d : Nat) {i a : Nat}, c[i]? = some a → c.length - i ≤ d → a + (c.length - i) ≤ n
  | 0, i, a, ha, hd => by
    have l := (List.getElem?_eq_some_iff.mp ha).1
    omega
  | d + 1, i, a, ha, hd => by
    have l := (List.getElem?_eq_some_iff.mp ha).1
    by_cases q : i + 1 < c.length
    · have hb : c[i + 1]? = some c[i + 1] := List.getElem?_eq_getElem q
      have h1 := chain_hi h hn d hb (by omega)
      have := (h i a _ ha hb).1
      omega
    · have := hn a (List.mem_of_getElem? ha)
      omega
/-- of all rows but one -/
def skipI (m i : Nat) : Nat := if i < m then i else i + 1
theorem rm_get {α : Type} (l : List α) (m i : Nat) (hm : m < l.length) : (l.take m ++ l.drop (m + 1))[i]? = l[skipI m i]? := by
  unfold skipI
  by_cases h : i < m
  · rw [if_pos h, List.getElem?_append_left (by rw [List.length_take]; omega), List.getElem?_take_of_lt h]
  · rw [if_neg h, List.getElem?_append_right (by rw [List.length_take]; omega), List.length_take, List.getElem?_drop]
    congr 1
    omega
theorem rise_all {ts : List Int} {c : List Nat} (h : Chain ts c) (hn : ∀ a ∈ c, a < ts.length) (hl : c.length = ts.length) : RiseI ts := fun i a b ha hb => by
  have l1 := (List.getElem?_eq_some_iff.mp ha).1
  have l2 := (List.getElem?_eq_some_iff.mp hb).1
  have eq : ∀ j, j < ts.length → c[j]? = some j := fun j hj => by
    have hc : c[j]? = some c[j] := List.getElem?_eq_getElem (by omega)
    have h1 := chain_lo h hc
    have h2 := chain_hi h hn c.length hc (by omega)
    rw [hc]
    congr 1
    omega
  have := (h i i (i + 1) (eq i l1) (eq (i + 1) l2)).2
  rw [lti_get ha hb] at this
  exact of_decide_eq_true this
theorem rise_one {ts : List Int} {c : List Nat} (h : Chain ts c) (hn : ∀ a ∈ c, a < ts.length) (hl : c.length + 1 = ts.length) : ∃ m, m < ts.length ∧ RiseI (ts.take m ++ ts.drop (m + 1)) := by
  have bd : ∀ j a, c[j]? = some a → j ≤ a ∧ a ≤ j + 1 := fun j a hc => by
    have h1 := chain_lo h hc
    have h2 := chain_hi h hn c.length hc (by omega)
    have l := (List.getElem?_eq_some_iff.mp hc).1
    exact ⟨h1, by omega⟩
  -- the first place where the number is one more
  have ex : ∃ m, m ≤ c.length ∧ ∀ j a, c[j]? = some a → a = skipI m j := by
    by_cases q : ∃ j, j < c.length ∧ c[j]? = some (j + 1)
    · obtain ⟨m, ⟨m1, m2⟩, m3⟩ := existsLeast (p := fun j => j < c.length ∧ c[j]? = some (j + 1)) q
      refine ⟨m, by omega, fun j a hc => ?_⟩
      obtain ⟨b1, b2⟩ := bd j a hc
      have l := (List.getElem?_eq_some_iff.mp hc).1
      unfold skipI
      by_cases jm : j < m
      · rw [if_pos jm]
        rcases Nat.lt_or_ge j a with z | z
        · exact absurd (m3 j ⟨l, by rw [hc]; congr 1; omega⟩) (by omega)
        · omega
      · rw [if_neg jm]
        have up : ∀ d, m + d < c.length → c[m + d]? = some (m + d + 1) := fun d => by
          induction d with
          | zero => intro _; exact m2
          | succ d ih =>
            intro hd
            have h0 := ih (by omega)
            have h1 : c[m + (d + 1)]? = some c[m + (d + 1)] := List.getElem?_eq_getElem hd
            have h2 := (h (m + d) _ _ h0 (by rw [show m + d + 1 = m + (d + 1) by omega]; exact h1)).1
            have h3 := bd _ _ h1
            rw [h1]
            congr 1
            omega
        have h4 := up (j - m) (by omega)
        rw [show m + (j - m) = j by omega, hc] at h4
        exact Option.some.inj h4
    · refine ⟨c.length, Nat.le_refl _, fun j a hc => ?_⟩
      obtain ⟨b1, b2⟩ := bd j a hc
      have l := (List.getElem?_eq_some_iff.mp hc).1
      unfold skipI
      rw [if_pos l]
      rcases Nat.lt_or_ge j a with z | z
      · exact absurd ⟨j, l, by rw [hc]; congr 1; omega⟩ q
      · omega
  obtain ⟨m, m1, m2⟩ := ex
  refine ⟨m, by omega, fun i a b ha hb => ?_⟩
  rw [rm_get ts m _ (by omega)] at ha hb
  have l2 := (List.getElem?_eq_some_iff.mp hb).1
  have lc : i + 1 < c.length := by
    unfold skipI at l2
    split at l2 <;> omega
  have c1 : c[i]? = some c[i] := List.getElem?_eq_getElem (by omega)
  have c2 : c[i + 1]? = some c[i + 1] := List.getElem?_eq_getElem lc
  have h3 := (h i _ _ c1 c2).2
  rw [m2 i _ c1, m2 (i + 1) _ c2, lti_get ha hb] at h3
  exact of_decide_eq_true h3
theorem chain_rm {ts : List Int} {m : Nat} (hm : m < ts.length) (hr : RiseI (ts.take m ++ ts.drop (m + 1))) : Chain ts ((List.range (ts.length - 1)).map (skipI m)) ∧ ∀ a ∈ (List.range (ts.length - 1)).map (skipI m), a < ts.length := by
  have get : ∀ i a, ((List.range (ts.length - 1)).map (skipI m))[i]? = some a → i < ts.length - 1 ∧ a = skipI m i := fun i a h => by
    have l := (List.getElem?_eq_some_iff.mp h).1
    rw [List.length_map, List.length_range] at l
    rw [List.getElem?_map, List.getElem?_range l] at h
    exact ⟨l, (Option.some.inj h).symm⟩
  have lt : ∀ i, i < ts.length - 1 → skipI m i < ts.length := fun i h => by unfold skipI; split <;> omega
  refine ⟨fun i a b h1 h2 => ?_, fun a ha => ?_⟩
  · obtain ⟨l1, rfl⟩ := get i a h1
    obtain ⟨l2, rfl⟩ := get (i + 1) b h2
    refine ⟨by unfold skipI; split <;> split <;> omega, ?_⟩
    have q1 := lt _ l1
    have q2 := lt _ l2
    have e1 : ts[skipI m i]? = some ts[skipI m i] := List.getElem?_eq_getElem q1
    have e2 : ts[skipI m (i + 1)]? = some ts[skipI m (i + 1)] := List.getElem?_eq_getElem q2
    rw [lti_get e1 e2]
    refine decide_eq_true (hr i _ _ ?_ ?_)
    · rw [rm_get ts m _ hm]; exact e1
    · rw [rm_get ts m _ hm]; exact e2
  · obtain ⟨i, hi⟩ := List.mem_iff_getElem?.mp ha
    obtain ⟨l, rfl⟩ := get i a hi
    exact lt _ l
def nv (l : List Nat) : List V := l.map fun n : Nat => V.int (n : Int)
theorem nv_len (l : List Nat) : (nv l).length = l.length := List.length_map ..
theorem nv_get {l : List Nat} {i n : Nat} (h : l[i]? = some n) : (nv l)[i]? = some (.int (n : Int)) := by unfold nv; rw [List.getElem?_map, h]; rfl
theorem nv_ints (l : List Nat) : nv l = (l.map fun n : Nat => (n : Int)).map V.int := by unfold nv; rw [List.map_map]; rfl
theorem nv_app (a b : List Nat) : nv (a ++ b) = nv a ++ nv b := List.map_append ..
theorem nv_hgt {ts : List Int} {n i : Nat} (h : i < n) : (nv (hgt ts n))[i]? = some (.int (hgN ts i : Int)) := nv_get (hgt_get ts h)
theorem mxN_int {l : List Nat} {m : Int} (h : m ∈ l.map fun n : Nat => (n : Int)) (g : ∀ y ∈ (l.map fun n : Nat => (n : Int)), y ≤ m) : m = (mxN l : Int) := by
  obtain ⟨x, hx, rfl⟩ := List.mem_map.mp h
  have h1 := mxN_le hx
  have ne : l ≠ [] := fun e => by rw [e] at hx; cases hx
  have h2 := g _ (List.mem_map.mpr ⟨_, mxN_mem ne, rfl⟩)
  omega
def sp_slipS (K : PySem.W.Frag) (CM : Addr) : Sp := fun vs H Q _ => ∃ (T : Addr) (k : Nat) (ps : List V) (zs : List Q2), vs = [.ref T] ∧ (SqL K H T ps ∨ SqT K H T ps) ∧ Mks CM H k ps zs ∧ k ≤ 9000 ∧ zs.length ≤ 1000 ∧ ∀ o, SlipQ zs o → Q (optI o) H
def sp_heights (K : PySem.W.Frag) (CM : Addr) : Sp := fun vs H Q _ => ∃ (T : Addr) (k : Nat) (ps : List V) (d : Int) (ts : List Int), vs = [.ref T] ∧ SqT K H T ps ∧ Mks CM H k ps (zq d ts) ∧ k ≤ 9000 ∧ 0 < d ∧ ts.length ≤ 24 ∧
  ∀ (D : Addr) (H' : Hp), Same H H' → H' D = some (.lst (nv (hgt ts ts.length))) → Q (.ref D) H'
def sp_kept (K : PySem.W.Frag) : Sp := fun vs H Q _ => ∃ (D : Addr) (ts : List Int) (n : Nat), vs = [.ref D] ∧ SqL K H D (nv (hgt ts n)) ∧ 0 < n ∧ n ≤ 24 ∧
  ∀ (E : Addr) (c : List Nat) (H' : Hp), Same H H' → H' E = some (.lst (nv c)) → Chain ts c → (∀ a ∈ c, a < n) → c.length = hgM ts n + 1 → Q (.ref E) H'
structure Told23 (H : Hp) (X : Addr) (ts : List Int) (c : List Nat) (TK TH : Addr) : Prop where
  ob : H X = some (.tup [.ref TK, .ref TH])
  hk : H TK = some (.tup (nv c))
  ht : H TH = some (.tup (nv (hgt ts ts.length)))
  ch : Chain ts c
  lt : ∀ a ∈ c, a < ts.length
  len : c.length = hgM ts ts.length + 1
theorem Told23.same {H H' : Hp} {X TK TH : Addr} {ts : List Int} {c : List Nat} (t : Told23 H X ts c TK TH) (s : Same H H') : Told23 H' X ts c TK TH := ⟨s _ _ t.ob, s _ _ t.hk, s _ _ t.ht, t.ch, t.lt, t.len⟩
theorem Told23.le {H : Hp} {X TK TH : Addr} {ts : List Int} {c : List Nat} (t : Told23 H X ts c TK TH) (l24 : ts.length ≤ 24) : c.length ≤ 24 := by
  cases e : c with
  | nil => exact Nat.zero_le _
  | cons a r =>
    have h := chain_hi t.ch t.lt c.length (i := 0) (a := a) (by rw [e]; rfl) (Nat.le_refl _)
    rw [← e]; omega
def sp_riseof (K : PySem.W.Frag) (CM : Addr) : Sp := fun vs H Q _ => ∃ (T : Addr) (k : Nat) (ps : List V) (d : Int) (ts : List Int), vs = [.ref T] ∧ SqT K H T ps ∧ Mks CM H k ps (zq d ts) ∧ k ≤ 9000 ∧ 0 < d ∧ 0 < ts.length ∧ ts.length ≤ 24 ∧
  ∀ (X : Addr) (c : List Nat) (TK TH : Addr) (H' : Hp), Same H H' → Told23 H' X ts c TK TH → Q (.ref X) H'
theorem cand_fm (ts : List Int) (n i : Nat) : ((List.range i).map fun a => if lti ts a n then some (V.int ((hgN ts a : Int) + 1)) else none).filterMap _root_.id = ((List.range i).filter fun a => lti ts a n).map fun a => V.int ((hgN ts a : Int) + 1) := by
  induction i with
  | zero => rfl
  | succ i ih =>
    rw [List.range_succ, List.map_append, List.filterMap_append, ih, List.filter_append, List.map_append]
    congr 1
    by_cases c : lti ts i n = true
    · simp [c]
    · simp [c]
theorem cand_nv (ts : List Int) (i : Nat) : (((List.range i).filter fun a => lti ts a i).map fun a => V.int ((hgN ts a : Int) + 1)) = nv (candH ts (hgt ts i) i) := by
  unfold nv candH
  rw [List.map_map]
  refine List.map_congr_left fun a ha => ?_
  have := List.mem_range.mp (List.mem_filter.mp ha).1
  show V.int ((hgN ts a : Int) + 1) = V.int (((hgt ts i).getD a 0 + 1 : Nat) : Int)
  rw [hgt_getD ts this]; rfl

def sp_arew (K : PySem.W.Frag) : Sp := fun vs H Q _ => ∃ (T : Addr) (c : List Nat), vs = [.ref T] ∧ SqT K H T (nv c) ∧ c.length ≤ 24 ∧ ∀ H', Same H H' → Q (.bl true) H'
def sp_allb (K : PySem.W.Frag) : Sp := fun vs H Q _ => ∃ (T : Addr) (m : Int) (c : List Nat), vs = [.ref T, .int m] ∧ SqT K H T (nv c) ∧ c.length ≤ 24 ∧ (∀ a ∈ c, ((a : Nat) : Int) < m) ∧ ∀ H', Same H H' → Q (.bl true) H'
def sp_arer (K : PySem.W.Frag) : Sp := fun vs H Q _ => ∃ (T : Addr) (m : Int) (c : List Nat), vs = [.ref T, .int m] ∧ SqT K H T (nv c) ∧ c.length ≤ 24 ∧ (∀ a ∈ c, ((a : Nat) : Int) < m) ∧ (∀ i a b, c[i]? = some a → c[i + 1]? = some b → a < b) ∧ ∀ H', Same H H' → Q (.bl true) H'
def sp_ist23 (K : PySem.W.Frag) : Sp := fun vs H Q _ => ∃ (X a b : Addr), vs = [.ref X, .int 2] ∧ H X = some (.tup [.ref a, .ref b]) ∧ Q (.bl true) H
def sp_iskept (K : PySem.W.Frag) (CM : Addr) : Sp := fun vs H Q _ => ∃ (T TK : Addr) (k : Nat) (ps : List V) (d : Int) (ts : List Int) (c : List Nat), vs = [.ref T, .ref TK] ∧ SqT K H T ps ∧ Mks CM H k ps (zq d ts) ∧ k ≤ 9000 ∧ 0 < d ∧ ts.length ≤ 24 ∧ SqT K H TK (nv c) ∧ Chain ts c ∧ (∀ a ∈ c, a < ts.length) ∧ c.length ≤ 24 ∧ ∀ H', Same H H' → Q (.bl true) H'
def sp_rio (K : PySem.W.Frag) (CM : Addr) : Sp := fun vs H Q _ => ∃ (T TH : Addr) (j : Nat) (k : Nat) (ps : List V) (d : Int) (ts : List Int), vs = [.ref T, .ref TH, .int (j : Int)] ∧ SqT K H T ps ∧ Mks CM H k ps (zq d ts) ∧ k ≤ 9000 ∧ 0 < d ∧ ts.length ≤ 24 ∧ SqT K H TH (nv (hgt ts ts.length)) ∧ j < ts.length ∧ ∀ H', Same H H' → Q (.bl false) H'
def sp_isn (K : PySem.W.Frag) (CM : Addr) : Sp := fun vs H Q _ => ∃ (T TH : Addr) (m : Int) (k : Nat) (ps : List V) (d : Int) (ts : List Int), vs = [.ref T, .ref TH, .int m] ∧ SqT K H T ps ∧ Mks CM H k ps (zq d ts) ∧ k ≤ 9000 ∧ 0 < d ∧ ts.length ≤ 24 ∧ SqT K H TH (nv (hgt ts ts.length)) ∧ (∀ a ∈ hgt ts ts.length, ((a : Nat) : Int) < m) ∧ ∀ H', Same H H' → Q (.bl true) H'
def sp_shows (K : PySem.W.Frag) (CM : Addr) : Sp := fun vs H Q _ => ∃ (T X : Addr) (k : Nat) (ps : List V) (d : Int) (ts : List Int) (c : List Nat) (TK TH : Addr), vs = [.ref T, .ref X] ∧ SqT K H T ps ∧ Mks CM H k ps (zq d ts) ∧ k ≤ 9000 ∧ 0 < d ∧ ts.length ≤ 24 ∧ Told23 H X ts c TK TH ∧ ∀ H', Same H H' → Q (.bl true) H'
theorem hgt_mem {ts : List Int} {n a : Nat} (h : a ∈ hgt ts n) : a ≤ hgM ts n := mxN_le h
theorem rioF {ts : List Int} {a j : Nat} (h : a < j) : (decide ((hgN ts a : Int) = (hgN ts j : Int)) && lti ts a j) = false := by
  cases e : lti ts a j with
  | false => rw [Bool.and_false]
  | true =>
    have := hh_up ts h e
    rw [Bool.and_true]
    exact decide_eq_false (by omega)
theorem zq_at {C : Addr} {H : Hp} {k : Nat} {ps : List V} {d : Int} {ts : List Int} (hm : Mks C H k ps (zq d ts)) {i : Nat} {x : Int} (hx : ts[i]? = some x) : ∃ q, ps[i]? = some (.ref q) ∧ QAt C H q k (x, d) := hm.at (zs := zq d ts) (i := i) (z := (x, d)) (by unfold zq; rw [List.getElem?_map, hx]; rfl)
theorem riseq_c {ts : List Int} {d : Int} (h : 0 < d) {c : List Nat} (ch : Chain ts c) (lt : ∀ a ∈ c, a < ts.length) : RiseQ (zq d (c.map fun a => ts.getD a 0)) := fun i a b h1 h2 => by
  obtain ⟨x, hx, rfl⟩ := zq_get h1
  obtain ⟨y, hy, rfl⟩ := zq_get h2
  rw [List.getElem?_map] at hx hy
  cases e1 : c[i]? with
  | none => rw [e1] at hx; cases hx
  | some p =>
    cases e2 : c[i + 1]? with
    | none => rw [e2] at hy; cases hy
    | some q =>
      rw [e1] at hx
      rw [e2] at hy
      cases hx; cases hy
      rw [ltq_d h]
      exact (ch i p q e1 e2).2
theorem slip_rise {zs : List Q2} (h : RiseQ zs) {o : Option Nat} (s : SlipQ zs o) : decide (optI o = V.non) = true := by
  rw [slip_none s]
  exact riseB_iff.mpr h

theorem kept_all (ts : List Int) (n : Nat) : ∀ i, i ≤ n → ∃ c w, Kept ts n (n - i) c w
  | 0, _ => ⟨[], _, Kept.start ts n⟩
  | i + 1, h => by
    obtain ⟨c, w, k⟩ := kept_all ts n i (by omega)
    rw [show n - i = (n - (i + 1)) + 1 by omega] at k
    by_cases e : (hgN ts (n - (i + 1)) : Int) = w
    · exact ⟨_, _, k.take (by omega) e⟩
    · exact ⟨_, _, k.skip e⟩
theorem chain_ex (ts : List Int) {n : Nat} (hn : 0 < n) : ∃ c, Chain ts c ∧ (∀ a ∈ c, a < n) ∧ c.length = hgM ts n + 1 := by
  obtain ⟨c, w, k⟩ := kept_all ts n n (Nat.le_refl _)
  rw [Nat.sub_self] at k
  exact ⟨c, k.ch, fun a ha => (k.lo a ha).2, k.end_ hn⟩
def behF (ts : List Int) (n i at' : Nat) (f : Nat → Nat) : List Nat := ((List.range i).filter fun j => lti ts at' (n - 1 - j)).map fun j => f (n - 1 - j)
theorem beh_fm (ts : List Int) (n i at' : Nat) (f : Nat → Nat) : ((List.range i).map fun j => if lti ts at' (n - 1 - j) then some (V.int (f (n - 1 - j) : Int)) else none).filterMap _root_.id = nv (behF ts n i at' f) := by
  unfold nv behF
  induction i with
  | zero => rfl
  | succ i ih =>
    rw [List.range_succ, List.map_append, List.filterMap_append, ih, List.filter_append, List.map_append, List.map_append]
    congr 1
    by_cases c : lti ts at' (n - 1 - i) = true
    · simp [c]
    · simp [c]
theorem long_step {ts : List Int} {n i : Nat} {f : Nat → Nat} (hi : i < n) (h : LongF ts n (n - i) f) : LongF ts n (n - (i + 1)) (fun k => if k = n - 1 - i then 1 + mxN (behF ts n i (n - 1 - i) f) else f k) := fun k h1 h2 => by
  by_cases e : k = n - 1 - i
  · subst e
    simp only [if_true]
    refine ⟨by omega, fun j j1 j2 j3 => ?_, ?_⟩
    · rw [if_neg (by omega)]
      have : f j ∈ behF ts n i (n - 1 - i) f := List.mem_map.mpr ⟨n - 1 - j, List.mem_filter.mpr ⟨List.mem_range.mpr (by omega), by rw [show n - 1 - (n - 1 - j) = j by omega]; exact j3⟩, by rw [show n - 1 - (n - 1 - j) = j by omega]⟩
      have := mxN_le this
      omega
    · by_cases q : behF ts n i (n - 1 - i) f = []
      · left; rw [q]; rfl
      · right
        obtain ⟨j, j1, j2⟩ := List.mem_map.mp (mxN_mem q)
        obtain ⟨j3, j4⟩ := List.mem_filter.mp j1
        have j3 := List.mem_range.mp j3
        refine ⟨n - 1 - j, by omega, by omega, j4, ?_⟩
        rw [if_neg (by omega)]
        have j2 : f (n - 1 - j) = mxN (behF ts n i (n - 1 - i) f) := j2
        omega
  · obtain ⟨f1, f2, f3⟩ := h k (by omega) h2
    simp only [if_neg e]
    refine ⟨f1, fun j j1 j2 j3 => ?_, ?_⟩
    · rw [if_neg (by omega)]; exact f2 j j1 j2 j3
    · rcases f3 with z | ⟨j, j1, j2, j3, j4⟩
      · exact .inl z
      · exact .inr ⟨j, j1, j2, j3, by rw [if_neg (by omega)]; exact j4⟩
def sp_longest (K : PySem.W.Frag) : Sp := fun vs H Q _ => ∃ (T : Addr) (ts : List Int), vs = [.ref T] ∧ SqT K H T (ts.map V.int) ∧ 0 < ts.length ∧ ts.length ≤ 24 ∧ ∀ H', Same H H' → Q (.int ((hgM ts ts.length + 1 : Nat) : Int)) H'
def sp_liw : Sp := fun vs H Q _ => ∃ z m : Int, vs = [.int z, .int m] ∧ 0 ≤ z ∧ z < m ∧ Q (.bl true) H
def sp_ltold (K : PySem.W.Frag) : Sp := fun vs H Q _ => ∃ (T X : Addr) (ts : List Int) (c : List Nat) (TK TH : Addr), vs = [.ref T, .ref X] ∧ SqT K H T (ts.map V.int) ∧ 0 < ts.length ∧ ts.length ≤ 24 ∧ Told23 H X ts c TK TH ∧ ∀ H', Same H H' → Q (.bl true) H'
theorem hgM_bnd (ts : List Int) {n : Nat} (hn : 0 < n) : hgM ts n + 1 ≤ n := by
  obtain ⟨c, ch, lt, le⟩ := chain_ex ts hn
  cases e : c with
  | nil => rw [e] at le; simp at le
  | cons a r =>
    have h := chain_hi ch lt c.length (i := 0) (a := a) (by rw [e]; rfl) (Nat.le_refl _)
    omega
/-- less 0: just where the rows rise -/
theorem less0 {ts : List Int} {c : List Nat} (ch : Chain ts c) (lt : ∀ a ∈ c, a < ts.length) (le : c.length = hgM ts ts.length + 1) (l0 : 0 < ts.length) : ts.length = c.length ↔ RiseI ts := by
  constructor
  · intro e; exact rise_all ch lt e.symm
  · intro hr
    have h := (chain_all hr).le (n := ts.length) (fun a ha => List.mem_range.mp ha)
    rw [List.length_range] at h
    have := hgM_bnd ts l0
    omega
theorem less1 {ts : List Int} {c : List Nat} (ch : Chain ts c) (lt : ∀ a ∈ c, a < ts.length) (le : c.length = hgM ts ts.length + 1) (l0 : 0 < ts.length) : ts.length ≤ c.length + 1 ↔ ∃ m, m < ts.length ∧ RiseI (ts.take m ++ ts.drop (m + 1)) := by
  have hb := hgM_bnd ts l0
  constructor
  · intro h
    by_cases e : c.length = ts.length
    · have hr := rise_all ch lt e
      refine ⟨0, l0, fun i a b h1 h2 => ?_⟩
      rw [rm_get ts 0 _ l0] at h1 h2
      exact hr (i + 1) a b h1 h2
    · exact rise_one ch lt (by omega)
  · rintro ⟨m, h1, h2⟩
    obtain ⟨g1, g2⟩ := chain_rm h1 h2
    have h := g1.le (n := ts.length) g2
    rw [List.length_map, List.length_range] at h
    omega


structure G23 (CM : Addr) (H : Hp) (T2 T' : Addr) (ys : List V) (part : Int) (ts : List Int) : Prop where
  hM : H T2 = some (.tup ys)
  mks : Mks CM H 40 ys (zq part ts)
  hT : H T' = some (.tup (ts.map V.int))
  p0 : 0 < part
  l0 : 0 < ts.length
  l1 : ts.length ≤ 24
theorem G23.same {CM : Addr} {H H' : Hp} {T2 T' : Addr} {ys : List V} {part : Int} {ts : List Int} (g : G23 CM H T2 T' ys part ts) (s : Same H H') : G23 CM H' T2 T' ys part ts := ⟨s _ _ g.hM, g.mks.same s, s _ _ g.hT, g.p0, g.l0, g.l1⟩
theorem riseq_zq {d : Int} (h : 0 < d) (ts : List Int) : RiseQ (zq d ts) ↔ RiseI ts := by
  constructor
  · intro r i a b h1 h2
    have := r i (a, d) (b, d) (by unfold zq; rw [List.getElem?_map, h1]; rfl) (by unfold zq; rw [List.getElem?_map, h2]; rfl)
    rw [ltq_d h] at this
    exact of_decide_eq_true this
  · intro r i a b h1 h2
    obtain ⟨x, hx, rfl⟩ := zq_get h1
    obtain ⟨y, hy, rfl⟩ := zq_get h2
    rw [ltq_d h]
    exact decide_eq_true (r i x y hx hy)
theorem riseb_zq {d : Int} (h : 0 < d) (ts : List Int) : riseB (zq d ts) = true ↔ RiseI ts := by
  rw [riseB_iff, riseq_zq h]
theorem riseb_f {d : Int} (h : 0 < d) {ts : List Int} (r : ¬ RiseI ts) : riseB (zq d ts) = false := by
  cases e : riseB (zq d ts) with
  | false => rfl
  | true => exact absurd ((riseb_zq h ts).mp e) r
theorem idx_iff {n : Nat} {c : Nat → Bool} : idx n c = [] ↔ ∀ i, i < n → c i = false := by
  unfold idx
  rw [List.map_eq_nil_iff, List.filter_eq_nil_iff]
  constructor
  · intro h i hi
    have := h i (List.mem_range.mpr hi)
    simpa using this
  · intro h i hi
    rw [h i (List.mem_range.mp hi)]
    exact Bool.false_ne_true
theorem all_true {ys : List V} (h : ∀ y ∈ ys, y = V.bl true) : ys = (List.replicate ys.length true).map V.bl := by
  rw [List.map_replicate]
  exact List.eq_replicate_iff.mpr ⟨rfl, h⟩
theorem zq_rm (d : Int) (ts : List Int) (n : Nat) : (zq d ts).take n ++ (zq d ts).drop (n + 1) = zq d (ts.take n ++ ts.drop (n + 1)) := by
  unfold zq
  rw [List.map_append, List.map_take, List.map_drop]

theorem b_is_whole_1 {K : PySem.W.Frag} {mg : Str → Option Value} {φ : Fds} (T : Txt K mg φ) : ∃ ds, Vals ([] : List V) ds ∧ Binds K φ.is_whole p_is_whole ds :=
  ⟨[], .nil, T.f_is_whole.bindsN fun _ _ _ _ _ _ us hl => match us, hl with | [_], _ => rfl⟩
theorem b_common_part_2 {K : PySem.W.Frag} {mg : Str → Option Value} {φ : Fds} (T : Txt K mg φ) : ∃ ds, Vals ([] : List V) ds ∧ Binds K φ.common_part p_common_part ds :=
  ⟨[], .nil, T.f_common_part.bindsN fun _ _ _ _ _ _ us hl => match us, hl with | [_, _], _ => rfl⟩
theorem b_Measure_is_below_2 {K : PySem.W.Frag} {mg : Str → Option Value} {φ : Fds} (T : Txt K mg φ) : ∃ ds, Vals ([V.bl false] : List V) ds ∧ Binds K φ.Measure_is_below p_Measure_is_below ds :=
  T.f_Measure_is_below.binds1 2 0 (by simp) rfl fun _ _ _ _ _ _ _ us its h1 h2 => match us, its, h1, h2 with | [_, _], [_], _, _ => ⟨_, rfl, rfl⟩
theorem b_l_take_2 {K : PySem.W.Frag} {mg : Str → Option Value} {φ : Fds} (T : Txt K mg φ) : ∃ ds, Vals ([] : List V) ds ∧ Binds K φ.l_take p_l_take ds :=
  ⟨[], .nil, T.f_l_take.bindsN fun _ _ _ _ _ _ us hl => match us, hl with | [_, _], _ => rfl⟩
theorem b_heights_of_1 {K : PySem.W.Frag} {mg : Str → Option Value} {φ : Fds} (T : Txt K mg φ) : ∃ ds, Vals ([] : List V) ds ∧ Binds K φ.heights_of p_heights_of ds :=
  ⟨[], .nil, T.f_heights_of.bindsN fun _ _ _ _ _ _ us hl => match us, hl with | [_], _ => rfl⟩
theorem b_kept_by_1 {K : PySem.W.Frag} {mg : Str → Option Value} {φ : Fds} (T : Txt K mg φ) : ∃ ds, Vals ([] : List V) ds ∧ Binds K φ.kept_by p_kept_by ds :=
  ⟨[], .nil, T.f_kept_by.bindsN fun _ _ _ _ _ _ us hl => match us, hl with | [_], _ => rfl⟩
theorem b_all_below_2 {K : PySem.W.Frag} {mg : Str → Option Value} {φ : Fds} (T : Txt K mg φ) : ∃ ds, Vals ([] : List V) ds ∧ Binds K φ.all_below p_all_below ds :=
  ⟨[], .nil, T.f_all_below.bindsN fun _ _ _ _ _ _ us hl => match us, hl with | [_, _], _ => rfl⟩
theorem b_are_wholes_1 {K : PySem.W.Frag} {mg : Str → Option Value} {φ : Fds} (T : Txt K mg φ) : ∃ ds, Vals ([] : List V) ds ∧ Binds K φ.are_wholes p_are_wholes ds :=
  ⟨[], .nil, T.f_are_wholes.bindsN fun _ _ _ _ _ _ us hl => match us, hl with | [_], _ => rfl⟩
theorem b_are_rising_2 {K : PySem.W.Frag} {mg : Str → Option Value} {φ : Fds} (T : Txt K mg φ) : ∃ ds, Vals ([] : List V) ds ∧ Binds K φ.are_rising p_are_rising ds :=
  ⟨[], .nil, T.f_are_rising.bindsN fun _ _ _ _ _ _ us hl => match us, hl with | [_, _], _ => rfl⟩
theorem b_slip_of_1 {K : PySem.W.Frag} {mg : Str → Option Value} {φ : Fds} (T : Txt K mg φ) : ∃ ds, Vals ([] : List V) ds ∧ Binds K φ.slip_of p_slip_of ds :=
  ⟨[], .nil, T.f_slip_of.bindsN fun _ _ _ _ _ _ us hl => match us, hl with | [_], _ => rfl⟩
theorem b_rises_in_one_3 {K : PySem.W.Frag} {mg : Str → Option Value} {φ : Fds} (T : Txt K mg φ) : ∃ ds, Vals ([] : List V) ds ∧ Binds K φ.rises_in_one p_rises_in_one ds :=
  ⟨[], .nil, T.f_rises_in_one.bindsN fun _ _ _ _ _ _ us hl => match us, hl with | [_, _, _], _ => rfl⟩
theorem b_is_tuple_of_2 {K : PySem.W.Frag} {mg : Str → Option Value} {φ : Fds} (T : Txt K mg φ) : ∃ ds, Vals ([] : List V) ds ∧ Binds K φ.is_tuple_of p_is_tuple_of ds :=
  ⟨[], .nil, T.f_is_tuple_of.bindsN fun _ _ _ _ _ _ us hl => match us, hl with | [_, _], _ => rfl⟩
theorem b_is_numbering_3 {K : PySem.W.Frag} {mg : Str → Option Value} {φ : Fds} (T : Txt K mg φ) : ∃ ds, Vals ([] : List V) ds ∧ Binds K φ.is_numbering p_is_numbering ds :=
  ⟨[], .nil, T.f_is_numbering.bindsN fun _ _ _ _ _ _ us hl => match us, hl with | [_, _, _], _ => rfl⟩
theorem b_is_kept_2 {K : PySem.W.Frag} {mg : Str → Option Value} {φ : Fds} (T : Txt K mg φ) : ∃ ds, Vals ([] : List V) ds ∧ Binds K φ.is_kept p_is_kept ds :=
  ⟨[], .nil, T.f_is_kept.bindsN fun _ _ _ _ _ _ us hl => match us, hl with | [_, _], _ => rfl⟩
theorem b_rises_without_2 {K : PySem.W.Frag} {mg : Str → Option Value} {φ : Fds} (T : Txt K mg φ) : ∃ ds, Vals ([] : List V) ds ∧ Binds K φ.rises_without p_rises_without ds :=
  ⟨[], .nil, T.f_rises_without.bindsN fun _ _ _ _ _ _ us hl => match us, hl with | [_, _], _ => rfl⟩
theorem b_l_of_2 {K : PySem.W.Frag} {mg : Str → Option Value} {φ : Fds} (T : Txt K mg φ) : ∃ ds, Vals ([] : List V) ds ∧ Binds K φ.l_of p_l_of ds :=
  ⟨[], .nil, T.f_l_of.bindsN fun _ _ _ _ _ _ us hl => match us, hl with | [_, _], _ => rfl⟩
theorem b_Measure_init_3 {K : PySem.W.Frag} {mg : Str → Option Value} {φ : Fds} (T : Txt K mg φ) : ∃ ds, Vals ([] : List V) ds ∧ Binds K φ.Measure_init p_Measure_init ds :=
  T.f_Measure_init.binds1 3 1 (by simp) rfl fun _ _ _ _ _ _ _ us its h1 h2 => match us, its, h1, h2 with | [_, _, _], [_], _, _ => ⟨_, rfl, rfl⟩
theorem b_l_is_whole_2 {K : PySem.W.Frag} {mg : Str → Option Value} {φ : Fds} (T : Txt K mg φ) : ∃ ds, Vals ([] : List V) ds ∧ Binds K φ.l_is_whole p_l_is_whole ds :=
  ⟨[], .nil, T.f_l_is_whole.bindsN fun _ _ _ _ _ _ us hl => match us, hl with | [_, _], _ => rfl⟩
theorem b_l_longest_1 {K : PySem.W.Frag} {mg : Str → Option Value} {φ : Fds} (T : Txt K mg φ) : ∃ ds, Vals ([] : List V) ds ∧ Binds K φ.l_longest p_l_longest ds :=
  ⟨[], .nil, T.f_l_longest.bindsN fun _ _ _ _ _ _ us hl => match us, hl with | [_], _ => rfl⟩
theorem b_l_rows_1 {K : PySem.W.Frag} {mg : Str → Option Value} {φ : Fds} (T : Txt K mg φ) : ∃ ds, Vals ([] : List V) ds ∧ Binds K φ.l_rows p_l_rows ds :=
  ⟨[], .nil, T.f_l_rows.bindsN fun _ _ _ _ _ _ us hl => match us, hl with | [_], _ => rfl⟩
theorem b_l_hand_2 {K : PySem.W.Frag} {mg : Str → Option Value} {φ : Fds} (T : Txt K mg φ) : ∃ ds, Vals ([] : List V) ds ∧ Binds K φ.l_hand p_l_hand ds :=
  ⟨[], .nil, T.f_l_hand.bindsN fun _ _ _ _ _ _ us hl => match us, hl with | [_, _], _ => rfl⟩
theorem b_l_made_1 {K : PySem.W.Frag} {mg : Str → Option Value} {φ : Fds} (T : Txt K mg φ) : ∃ ds, Vals ([] : List V) ds ∧ Binds K φ.l_made p_l_made ds :=
  ⟨[], .nil, T.f_l_made.bindsN fun _ _ _ _ _ _ us hl => match us, hl with | [_], _ => rfl⟩
theorem b_rise_of_1 {K : PySem.W.Frag} {mg : Str → Option Value} {φ : Fds} (T : Txt K mg φ) : ∃ ds, Vals ([] : List V) ds ∧ Binds K φ.rise_of p_rise_of ds :=
  ⟨[], .nil, T.f_rise_of.bindsN fun _ _ _ _ _ _ us hl => match us, hl with | [_], _ => rfl⟩
theorem b_shows_rise_2 {K : PySem.W.Frag} {mg : Str → Option Value} {φ : Fds} (T : Txt K mg φ) : ∃ ds, Vals ([] : List V) ds ∧ Binds K φ.shows_rise p_shows_rise ds :=
  ⟨[], .nil, T.f_shows_rise.bindsN fun _ _ _ _ _ _ us hl => match us, hl with | [_, _], _ => rfl⟩
theorem b_l_told_2 {K : PySem.W.Frag} {mg : Str → Option Value} {φ : Fds} (T : Txt K mg φ) : ∃ ds, Vals ([] : List V) ds ∧ Binds K φ.l_told p_l_told ds :=
  ⟨[], .nil, T.f_l_told.bindsN fun _ _ _ _ _ _ us hl => match us, hl with | [_, _], _ => rfl⟩
theorem b_rise_of_0_rows {K : PySem.W.Frag} {mg : Str → Option Value} {φ : Fds} (T : Txt K mg φ) : ∃ its : List Value, KBn K φ.rise_of p_rise_of 0 ["rows"] (fun vs zs => (fun {α : Type} (vs ds zs : List α) => (vs ++ (zs.drop 0).take 1)) vs its zs) (fun vs zs => (fun {α : Type} (vs ds zs : List α) => (vs ++ (zs.drop 0).take 1)) vs ([] : List V) zs) :=
  ⟨[], kb_none T.f_rise_of (fun {α : Type} (vs zs : List α) => (fun (ds : List α) => (vs ++ (zs.drop 0).take 1)) []) (fun a c => (a.append ((c.drop 0).take 1))) fun _ _ _ _ _ _ us ws h1 h2 => match us, ws, h1, h2 with | [], [_], _, _ => rfl⟩
theorem b_shows_rise_0_thing_rows {K : PySem.W.Frag} {mg : Str → Option Value} {φ : Fds} (T : Txt K mg φ) : ∃ its : List Value, KBn K φ.shows_rise p_shows_rise 0 ["thing", "rows"] (fun vs zs => (fun {α : Type} (vs ds zs : List α) => ((vs ++ (zs.drop 1).take 1) ++ (zs.drop 0).take 1)) vs its zs) (fun vs zs => (fun {α : Type} (vs ds zs : List α) => ((vs ++ (zs.drop 1).take 1) ++ (zs.drop 0).take 1)) vs ([] : List V) zs) :=
  ⟨[], kb_none T.f_shows_rise (fun {α : Type} (vs zs : List α) => (fun (ds : List α) => ((vs ++ (zs.drop 1).take 1) ++ (zs.drop 0).take 1)) []) (fun a c => ((a.append ((c.drop 1).take 1)).append ((c.drop 0).take 1))) fun _ _ _ _ _ _ us ws h1 h2 => match us, ws, h1, h2 with | [], [_, _], _, _ => rfl⟩
theorem b_singles_of_1 {K : PySem.W.Frag} {mg : Str → Option Value} {φ : Fds} (T : Txt K mg φ) : ∃ ds, Vals ([] : List V) ds ∧ Binds K φ.singles_of p_singles_of ds :=
  ⟨[], .nil, T.f_singles_of.bindsN fun _ _ _ _ _ _ us hl => match us, hl with | [_], _ => rfl⟩
theorem ok_is_whole {P : Program} {w : World} {K : PySem.W.Frag} {mg : Str → Option Value} {base : Heap} {φ : Fds} (T : Txt K mg φ) : FnOk P w K mg base CX0 1 (He.fAd K ("is_whole", none)) φ.is_whole p_is_whole sp_whole := by
  refine T.f_is_whole.ok sc_is_whole (fun vs H Q E h => ?_) (fun cdv A outer s H vs Q E hr h => ?_)
  · obtain ⟨n, rfl, k⟩ := h; rfl
  · obtain ⟨n, rfl, k⟩ := h
    refine ⟨_, PSs.nox (pss_one (ps_ret (pe_and (pe_callB (id := "isinstance") (isi (K := K)) (by rfl) T.z_isinstance (by decide +kernel) (pa_cons (pv 0) (pa_cons (pe_bltn (v := .ty "int") rfl T.z_int (by decide +kernel) rfl) pa_nil))) (pe_one (pe_not (pe_callB (id := "isinstance") (isi (K := K)) (by rfl) T.z_isinstance (by decide +kernel) (pa_cons (pv 0) (pa_cons (pe_bltn (v := .ty "bool") rfl T.z_bool (by decide +kernel) rfl) pa_nil)))))))), ?_⟩
    refine ⟨_, rfl, _, _, _, _, _, rfl, .ty _, .base (.int _), kit_ty (r := true) (by decide +kernel), _, rfl, ?_⟩
    refine iteT ?_
    refine ⟨_, rfl, _, _, _, _, _, rfl, .ty _, .base (.int _), kit_ty (r := false) (by decide +kernel), _, rfl, ?_⟩
    exact k
theorem ok_common_part {P : Program} {w : World} {K : PySem.W.Frag} {mg : Str → Option Value} {base : Heap} {φ : Fds} (T : Txt K mg φ) : FnOk P w K mg base CX0 1 (He.fAd K ("common_part", none)) φ.common_part p_common_part sp_common := by
  refine T.f_common_part.ok sc_common_part (fun vs H Q E h => ?_) (fun cdv A outer s H vs Q E hr h => ?_)
  · obtain ⟨a, b, rfl, k⟩ := h; rfl
  · obtain ⟨a, b, rfl, k⟩ := h
    refine ⟨_, PSs.nox (pss_cons (ps_par (i := 2) (j := 3) rfl sc_common_part.nd rfl rfl (by decide) rfl rfl (pa_cons (pe_callB (id := "abs") call_abs (by rfl) T.z_abs (by decide +kernel) (pa_cons (pv 0) pa_nil)) (pa_cons (pe_callB (id := "abs") call_abs (by rfl) T.z_abs (by decide +kernel) (pa_cons (pv 1) pa_nil)) pa_nil)) (by rfl))
      (pss_cons (ps_while PassesOwn.never (pt_cmpR op_gt (pv 3) pe_int (nomark _))
      (pss_one (ps_par (i := 2) (j := 3) rfl sc_common_part.nd rfl rfl (by decide) rfl rfl (pa_cons (pv 3) (pa_cons (pe_op op_mod (pv 2) (pv 3)) pa_nil)) (by rfl))))
      (pss_one (ps_ret (pv 2))))), ?_⟩
    refine ⟨_, rfl, _, rfl, _, rfl, _, rfl, _, _, rfl, ?_⟩
    refine while_by (fun σ H' => H' = H ∧ ∃ g s : Int, σ = [some (.int a), some (.int b), some (.int g), some (.int s)] ∧ 0 ≤ g ∧ 0 ≤ s ∧ Int.gcd g s = Int.gcd a b)
      (fun σ _ => match σ with | [_, _, _, some (.int s)] => s.toNat | _ => 0) ⟨rfl, _, _, rfl, ?_, ?_, ?_⟩ ?_ (fun σ H Q Q' hQ ⟨v, e1, i, j, e2, e3, c, e4, q⟩ => ⟨v, e1, i, j, e2, e3, c, e4, hQ _ _ q⟩)
    · split <;> omega
    · split <;> omega
    · have e1 : (if a < 0 then -a else a) = (a.natAbs : Int) := by split <;> omega
      have e2 : (if b < 0 then -b else b) = (b.natAbs : Int) := by split <;> omega
      rw [e1, e2]
      rfl
    · rintro σ H' ⟨rfl, g, s, rfl, hg, hs, e⟩
      refine ⟨_, rfl, _, _, rfl, rfl, _, rfl, ?_⟩
      refine ite2 (fun c => ?_) (fun c => ?_)
      · have c0 : 0 < s := of_decide_eq_true c
        refine ⟨_, rfl, _, rfl, _, rfl, _, _, rfl, rfl, c0, _, _, rfl, ?_⟩
        refine ⟨⟨rfl, s, g % s, rfl, hs, Int.emod_nonneg _ (by omega), (gcd_step c0 hg).trans e⟩, ?_⟩
        show (g % s).toNat < s.toNat
        have h1 := Int.emod_nonneg g (show s ≠ 0 by omega)
        have h2 := Int.emod_lt_of_pos g c0
        omega
      · have c0 : ¬ 0 < s := fun z => c (decide_eq_true z)
        have s0 : s = 0 := by omega
        subst s0
        refine ⟨_, rfl, ?_⟩
        have eg : g = (Int.gcd a b : Int) := by
          rw [← e, Int.gcd_zero_right]
          omega
        rw [eg]
        exact k
theorem ok_Measure_init {P : Program} {w : World} {K : PySem.W.Frag} {mg : Str → Option Value} {base : Heap} {φ : Fds} (T : Txt K mg φ) : FnOk P w K mg base CX0 2 (He.fAd K ("Measure", some "__init__")) φ.Measure_init p_Measure_init (sp_minit (He.ga K "Measure")) := by
  obtain ⟨_, B0v, B0⟩ := b_is_whole_1 T
  obtain ⟨_, B1v, B1⟩ := b_common_part_2 T
  refine T.f_Measure_init.ok sc_Measure_init (fun vs H Q E h => ?_) (fun cdv A outer s H vs Q E hr h => ?_)
  · obtain ⟨p, dx, a, b, rfl, hp, hb, hl, k⟩ := h; rfl
  · obtain ⟨p, dx, a, b, rfl, hp, hb, hl, k⟩ := h
    refine ⟨_, PSs.nox (pss_cons (ps_if (PW.pt (pw_or (pt_not (pt_val (pe_call (ok_is_whole (K := K) T) (hr.mono (by decide)) rfl T.g_is_whole T.f_is_whole.kp B0 B0v pass0 (pa_cons (pv 1) pa_nil)))) (pw_or1 (pt_not (pt_val (pe_call (ok_is_whole (K := K) T) (hr.mono (by decide)) rfl T.g_is_whole T.f_is_whole.kp B0 B0v pass0 (pa_cons (pv 2) pa_nil)))))))
      (pss_one ps_never)
      pss_nil)
      (pss_cons (ps_if (pt_cmpR op_eq (pv 2) pe_int (nomark _))
      (pss_one ps_never)
      pss_nil)
      (pss_cons (ps_set (i := 3) sc_Measure_init.nd rfl (Or.inl rfl) (pe_call (ok_common_part (K := K) T) (hr.mono (by decide)) rfl T.g_common_part T.f_common_part.kp B1 B1v pass0 (pa_cons (pv 1) (pa_cons (pv 2) pa_nil))))
      (pss_cons (ps_cut (ps_if (pt_cmpR op_lt (pv 2) pe_int (nomark _))
      (pss_one (ps_set (i := 3) sc_Measure_init.nd rfl (Or.inl rfl) (pe_un un_neg (pv 3))))
      pss_nil))
      (pss_cons (ps_fld (pv 0) (pe_op op_fd (pv 1) (pv 3)) rfl)
      (pss_one (ps_fld (pv 0) (pe_op op_fd (pv 2) (pv 3)) rfl))))))), ?_⟩
    refine ⟨_, rfl, a, rfl, _, rfl, ?_⟩
    refine iteF ?_
    refine ⟨_, rfl, b, rfl, _, rfl, ?_⟩
    refine iteF ?_
    refine ⟨_, rfl, rfl, _, rfl, ?_⟩
    rw [dI]
    refine ite2 (fun e => absurd (of_decide_eq_true e) hb) (fun _ => ?_)
    refine ⟨_, rfl, _, rfl, a, b, rfl, ?_⟩
    refine ⟨fun σ' H' => H' = H ∧ ∃ c : Int, c = sgn b * (Int.gcd a b : Int) ∧ σ' = [some (.ref p), some (.int a), some (.int b), some (.int c)], ?_, ?_⟩
    · refine ⟨_, rfl, _, _, rfl, rfl, _, rfl, ?_⟩
      refine ite2 (fun e => ?_) (fun e => ?_)
      · have e0 : b < 0 := of_decide_eq_true e
        refine ⟨_, rfl, _, rfl, rfl, _, ?_, rfl⟩
        unfold sgn
        rw [if_neg (by omega), Int.neg_one_mul]
      · have e0 : ¬ b < 0 := fun z => e (decide_eq_true z)
        refine ⟨rfl, _, ?_, rfl⟩
        unfold sgn
        rw [if_pos (by omega), Int.one_mul]
    · rintro σ' H' ⟨rfl, c, hc, rfl⟩
      obtain ⟨c0, cl, fr⟩ := fr_mk hb hc
      have c9 : c.natAbs.log2 < 9000 := by
        refine Nat.lt_of_le_of_lt ?_ hl
        exact (Nat.le_log2 (by omega)).mpr (Nat.le_trans (Nat.log2_self_le (by omega)) cl)
      refine ⟨_, rfl, _, rfl, _, _, rfl, rfl, ⟨c0, c9⟩, _, rfl, p, _, dx, _, rfl, hp, T.cl_Measure, T.na_Measure_top, (by show 0 < 1000; decide), ?_⟩
      refine ⟨_, rfl, _, rfl, _, _, rfl, rfl, ⟨c0, c9⟩, _, rfl, p, _, dx, _, rfl, upd_same, T.cl_Measure, T.na_Measure_bottom, (by show 1 < 1000; decide), ?_⟩
      refine k _ _ _ fr ?_ fun q o e nq => ?_
      · rw [upd_same, mf_put]
      · rw [upd_ne nq, upd_ne nq]
        exact e
theorem ok_Measure_is_below {P : Program} {w : World} {K : PySem.W.Frag} {mg : Str → Option Value} {base : Heap} {φ : Fds} (T : Txt K mg φ) : FnOk P w K mg base CX0 1 (He.fAd K ("Measure", some "is_below")) φ.Measure_is_below p_Measure_is_below (sp_below (He.ga K "Measure")) := by
  refine T.f_Measure_is_below.ok sc_Measure_is_below (fun vs H Q E h => ?_) (fun cdv A outer s H vs Q E hr h => ?_)
  · obtain ⟨p, q, t, u, t', u', al, rfl, ⟨dp, hp⟩, ⟨dq, hq⟩, st, su, st', su', k⟩ := h; rfl
  · obtain ⟨p, q, t, u, t', u', al, rfl, ⟨dp, hp⟩, ⟨dq, hq⟩, st, su, st', su', k⟩ := h
    refine ⟨_, PSs.nox (pss_cons (ps_set (i := 3) sc_Measure_is_below.nd rfl (Or.inl rfl) (pe_op op_mulA (fldK (K := K) (pv 0) rfl) (fldK (K := K) (pv 1) rfl)))
      (pss_cons (ps_set (i := 4) sc_Measure_is_below.nd rfl (Or.inl rfl) (pe_op op_mulA (fldK (K := K) (pv 1) rfl) (fldK (K := K) (pv 0) rfl)))
      (pss_one (ps_ret (pe_or (pe_cmpR op_lt (pv 3) (pv 4) (nomark _)) (pe_one (pe_and (pv 2) (pe_one (pe_cmpR op_eq (pv 3) (pv 4) (nomark _)))))))))), ?_⟩
    refine ⟨_, rfl, _, _, _, _, _, rfl, hp, T.cl_Measure, T.na_Measure_top, mf_top _ _, _, rfl, _, _, _, _, _, rfl, hq, T.cl_Measure, T.na_Measure_bottom, mf_bottom _ _, _, _, rfl, rfl, st.cmul su' (by decide) (by decide) (by decide), ?_⟩
    refine ⟨_, rfl, _, _, _, _, _, rfl, hq, T.cl_Measure, T.na_Measure_top, mf_top _ _, _, rfl, _, _, _, _, _, rfl, hp, T.cl_Measure, T.na_Measure_bottom, mf_bottom _ _, _, _, rfl, rfl, st'.cmul su (by decide) (by decide) (by decide), ?_⟩
    refine ⟨_, rfl, _, rfl, _, _, rfl, rfl, _, rfl, ?_⟩
    have e : ∀ b : Bool, b = lessA t u t' u' al → Q (.bl b) H := fun b z => by rw [z]; exact k
    refine ite2 (fun c => e _ ?_) (fun c => ?_)
    · unfold lessA
      rw [c]
      rfl
    · have c0 : decide (t * u' < t' * u) = false := by simpa using c
      refine ⟨_, rfl, _, rfl, ?_⟩
      cases al with
      | false =>
        refine iteF (e _ ?_)
        unfold lessA
        rw [c0]
        rfl
      | true =>
        refine iteT ?_
        refine ⟨_, rfl, _, rfl, rfl, e _ ?_⟩
        unfold lessA
        rw [c0, dI]
        rfl
theorem ok_slip_of {P : Program} {w : World} {K : PySem.W.Frag} {mg : Str → Option Value} {base : Heap} {φ : Fds} (T : Txt K mg φ) : FnOk P w K mg base CX0 2 (He.fAd K ("slip_of", none)) φ.slip_of p_slip_of (sp_slipS K (He.ga K "Measure")) := by
  obtain ⟨_, B0v, B0⟩ := b_Measure_is_below_2 T
  refine T.f_slip_of.ok sc_slip_of (fun vs H Q E h => ?_) (fun cdv A outer s H vs Q E hr h => ?_)
  · obtain ⟨T', k, ps, zs, rfl, hT, hm, hk, hl, kk⟩ := h; rfl
  · obtain ⟨T', k, ps, zs, rfl, hT, hm, hk, hl, kk⟩ := h
    refine ⟨_, PSs.nox (pss_cons (ps_for PassesOwn.never rfl (pi_range2 rfl T.z_range (pa_cons pe_int (pa_cons (pe_callB (id := "len") (lenS (K := K)) (by rfl) T.z_len PySem.boot_len (pa_cons (pv 0) pa_nil)) pa_nil))) (pg_name (i := 1) sc_slip_of.nd rfl (Or.inl rfl))
      (pss_one (ps_if (pt_not (pt_val (pe_meth (pe_ix (ixs (K := K)) (pv 0) (pe_op op_sub (pv 1) pe_int) (fun _ _ => rfl)) T.cl_Measure T.me_Measure_is_below (ok_Measure_is_below (K := K) T) (hr.mono (by decide)) B0 B0v pass0 (pa_cons (pe_ix (ixs (K := K)) (pv 0) (pv 1) (fun _ _ => rfl)) pa_nil))))
      (pss_one (ps_ret (pv 1)))
      pss_nil)))
      (pss_one (ps_ret pe_non))), ?_⟩
    have el : ((ps.length : Nat) : Int) = (zs.length : Int) := by rw [hm.len]
    walk_at "w"
    refine for_range (fun i σ H' => H' = H ∧ (∃ v, σ = [some (.ref T'), v]) ∧ ∀ j a b, j < i → zs[j]? = some a → zs[j + 1]? = some b → ltq a b = true) ⟨rfl, ⟨_, rfl⟩, fun j a b z => by omega⟩ ?_ ?_
    · rintro i σ H1 hi ⟨rfl, ⟨v, rfl⟩, hp⟩
      obtain ⟨a, ha⟩ := ge2 (zs := zs) (n := i) (by omega)
      obtain ⟨b, hb⟩ := ge2 (zs := zs) (n := i + 1) (by omega)
      obtain ⟨p, ep, qp⟩ := hm.at ha
      obtain ⟨q, eq, qq⟩ := hm.at hb
      walk_at "w"
      refine ⟨atI_of (n := i) (by omega) ep, ?_⟩
      walk_at "w"
      refine ⟨atI_of (n := i + 1) (by omega) eq, ?_⟩
      walk_at "w"
      cases e : ltq a b with
      | false =>
        refine iteT ⟨_, rfl, ?_⟩
        have z : (1 : Int) + i = ((i + 1 : Nat) : Int) := by omega
        rw [z]
        refine kk (some (i + 1)) ⟨by omega, by omega, fun a' b' h1 h2 => ?_, fun j a' b' hj h1 h2 => hp j a' b' (by omega) h1 h2⟩
        rw [Nat.add_sub_cancel, ha] at h1
        rw [hb] at h2
        cases h1; cases h2
        exact e
      | true =>
        refine iteF ⟨rfl, ⟨_, rfl⟩, fun j a' b' hj h1 h2 => ?_⟩
        by_cases hji : j < i
        · exact hp j a' b' hji h1 h2
        · have : j = i := by omega
          subst this
          rw [ha] at h1
          rw [hb] at h2
          cases h1; cases h2
          exact e
    · rintro σ H1 ⟨rfl, ⟨v, rfl⟩, hp⟩
      refine kk none fun j a b h1 h2 => hp j a b ?_ h1 h2
      have := (List.getElem?_eq_some_iff.mp h2).1
      omega
theorem ok_l_take {P : Program} {w : World} {K : PySem.W.Frag} {mg : Str → Option Value} {base : Heap} {φ : Fds} (T : Txt K mg φ) : FnOk P w K mg base CX0 1 (He.fAd K ("_law_take", none)) φ.l_take p_l_take sp_take := by
  refine T.f_l_take.ok sc_l_take (fun vs H Q E h => ?_) (fun cdv A outer s H vs Q E hr h => ?_)
  · obtain ⟨hd, n, m, rfl, hh, hn, hm, hl, k⟩ := h; rfl
  · obtain ⟨hd, n, m, rfl, hh, hn, hm, hl, k⟩ := h
    refine ⟨_, PSs.nox (pss_cons (ps_if (pt_cmpR op_gt (pe_ix (ixl (K := K)) (pv 0) pe_int (fun _ _ => rfl)) pe_int (nomark _))
      (pss_cons (ps_set (i := 2) sc_l_take.nd rfl (Or.inl rfl) (pe_op op_mod (pe_ix (ixl (K := K)) (pv 0) pe_int (fun _ _ => rfl)) (pv 1)))
      (pss_cons (ps_asg (pe_op op_fd (pe_ix (ixl (K := K)) (pv 0) pe_int (fun _ _ => rfl)) (pv 1)) (pg_sub (pv 0) pe_int set_list))
      (pss_one (ps_ret (pv 2)))))
      pss_nil)
      (pss_cons (ps_set (i := 3) sc_l_take.nd rfl (Or.inl rfl) (pe_op op_add (pe_ix (ixl (K := K)) (pv 0) pe_int (fun _ _ => rfl)) pe_int))
      (pss_cons (ps_asg (pv 3) (pg_sub (pv 0) pe_int set_list))
      (pss_cons (ps_set (i := 4) sc_l_take.nd rfl (Or.inl rfl) (pe_ix (ixl (K := K)) (pe_lst (pa_cons pe_int (pa_cons pe_int (pa_cons pe_int (pa_cons pe_int pa_nil))))) (pe_op op_mod (pv 3) pe_int) (fun _ _ => rfl)))
      (pss_cons (ps_set (i := 5) sc_l_take.nd rfl (Or.inl rfl) (pe_op op_mod (pe_op op_add (pe_op op_add (pe_ix (ixl (K := K)) (pv 0) pe_int (fun _ _ => rfl)) (pe_op op_mulA (pe_op op_mulA pe_int (pv 3)) (pv 3))) (pe_op op_mulA pe_int (pv 3))) (pv 4)))
      (pss_cons (ps_set (i := 5) sc_l_take.nd rfl (Or.inl rfl) (pe_op op_mod (pe_op op_pow (pv 5) pe_int) (pv 4)))
      (pss_one (ps_ret (pe_op op_mod (pe_op op_add (pe_op op_fd (pv 5) pe_int) (pe_op op_mulA (pe_op op_fd (pv 5) pe_int) pe_int)) (pv 1)))))))))), ?_⟩
    obtain ⟨a, b, c, h0, ha, hb, hb2, hc, hc2⟩ := hh
    refine ⟨_, rfl, _, _, _, _, rfl, rfl, SqL.of h0, rfl, _, _, rfl, rfl, _, rfl, ?_⟩
    refine ite2 (fun e => ?_) (fun e => ?_)
    · have e0 : 0 < a := of_decide_eq_true e
      refine ⟨_, rfl, _, _, _, _, rfl, rfl, SqL.of h0, rfl, _, rfl, _, _, rfl, rfl, hm, ?_⟩
      refine ⟨_, rfl, _, _, _, _, rfl, rfl, SqL.of h0, rfl, _, rfl, _, _, rfl, rfl, ⟨by omega, hl⟩, _, rfl, _, _, _, _, rfl, rfl, h0, rfl, ?_⟩
      refine ⟨_, rfl, k _ _ (Int.emod_nonneg _ (by omega)) (Int.emod_lt_of_pos _ hm) ⟨a.fdiv m, b, c, upd_same, ?_, hb, hb2, hc, by omega⟩ (Kp.refl _ _).set⟩
      rw [Int.fdiv_eq_ediv_of_nonneg a (by omega)]
      exact Int.ediv_nonneg ha (by omega)
    · have c9 : c ≤ 1000000 := by omega
      refine ⟨_, rfl, _, _, _, _, rfl, rfl, SqL.of h0, rfl, _, _, rfl, rfl, _, rfl, _, rfl, _, _, _, _, rfl, rfl, h0, rfl, ?_⟩
      have h1 : (upd H hd (.lst ([V.int a, V.int b, V.int c].set 2 (V.int (c + 1))))) hd = some (.lst [V.int a, V.int b, V.int (c + 1)]) := upd_same
      refine ⟨by show 4 ≤ sizeLine; decide, fun q nq => ?_⟩
      have nqh : q ≠ hd := (ne_of_none h1 nq).symm
      have hp : ∃ m : Int, 0 < m ∧ m < 2 ^ 62 ∧ atI [V.int 2305843009213693951, V.int 999999999989, V.int 1000000000039, V.int 67280421310721] ((c + 1) % 4) = some (V.int m) := by
        have e4 : (c + 1) % 4 = 0 ∨ (c + 1) % 4 = 1 ∨ (c + 1) % 4 = 2 ∨ (c + 1) % 4 = 3 := by omega
        rcases e4 with e | e | e | e <;> rw [e]
        · exact ⟨2305843009213693951, by decide, by decide, rfl⟩
        · exact ⟨999999999989, by decide, by decide, rfl⟩
        · exact ⟨1000000000039, by decide, by decide, rfl⟩
        · exact ⟨67280421310721, by decide, by decide, rfl⟩
      obtain ⟨p, p0, p1, hat⟩ := hp
      refine ⟨_, rfl, _, _, rfl, rfl, (by show (0 : Int) < 4; decide), _, _, _, _, rfl, rfl, SqL.of upd_same, hat, ?_⟩
      have h2 := up1 (u := .lst [V.int 2305843009213693951, V.int 999999999989, V.int 1000000000039, V.int 67280421310721]) nq h1
      have s2 : Kp hd H (upd (upd H hd (.lst ([V.int a, V.int b, V.int c].set 2 (V.int (c + 1))))) q (.lst [V.int 2305843009213693951, V.int 999999999989, V.int 1000000000039, V.int 67280421310721])) := ((Kp.refl hd H).set).up nq
      have cm : 0 ≤ 7919 * (c + 1) := by omega
      have cM : 7919 * (c + 1) ≤ 7919 * 1000001 := by omega
      refine ⟨_, rfl, _, _, _, _, rfl, rfl, SqL.of h2, rfl, _, rfl, _, _, rfl, rfl, .inl (.inl ⟨by decide, by decide⟩), _, rfl, _, _, rfl, rfl, .inl (.inl ⟨by omega, by omega⟩), _, _, rfl, rfl, _, rfl, _, _, rfl, rfl, .inl (.inl ⟨by decide, by decide⟩), _, _, rfl, rfl, _, rfl, _, _, rfl, rfl, p0, ?_⟩
      generalize (b + 7919 * (c + 1) * (c + 1) + 65537 * (c + 1)) = z
      have z0 := Int.emod_nonneg z (show p ≠ 0 by omega)
      have z1 := Int.emod_lt_of_pos z p0
      refine ⟨_, rfl, _, _, rfl, rfl, ⟨by decide, by decide, ?_⟩, _, rfl, _, _, rfl, rfl, p0, ?_⟩
      · show (z % p).natAbs < 2 ^ 64
        omega
      generalize (z % p) ^ Int.toNat 5 % p = y
      refine ⟨_, rfl, _, _, rfl, rfl, ⟨by decide, by decide +kernel⟩, _, rfl, _, _, rfl, rfl, ⟨by decide, by decide +kernel⟩, _, _, rfl, rfl, .inl (.inr ⟨by decide, by decide⟩), _, _, rfl, rfl, _, rfl, _, _, rfl, rfl, hm, ?_⟩
      exact k _ _ (Int.emod_nonneg _ (by omega)) (Int.emod_lt_of_pos _ hm) ⟨a, b, c + 1, h2, ha, hb, hb2, by omega, by omega⟩ s2
theorem ok_l_hand {P : Program} {w : World} {K : PySem.W.Frag} {mg : Str → Option Value} {base : Heap} {φ : Fds} (T : Txt K mg φ) : FnOk P w K mg base CX0 1 (He.fAd K ("_law_hand", none)) φ.l_hand p_l_hand (sp_hand K) := by
  refine T.f_l_hand.ok sc_l_hand (fun vs H Q E h => ?_) (fun cdv A outer s H vs Q E hr h => ?_)
  · obtain ⟨a, ns, kk, rfl, hS, hk, k⟩ := h; rfl
  · obtain ⟨a, ns, kk, rfl, hS, hk, k⟩ := h
    refine ⟨_, PSs.nox (pss_cons (ps_set (i := 2) sc_l_hand.nd rfl (Or.inl rfl) pe_int)
      (pss_cons (ps_cut (ps_if (pt_cmpR op_lt (pv 1) (pe_callB (id := "len") (lenS (K := K)) (by rfl) T.z_len PySem.boot_len (pa_cons (pv 0) pa_nil)) (nomark _))
      (pss_one (ps_set (i := 2) sc_l_hand.nd rfl (Or.inl rfl) (pe_ix (ixl (K := K)) (pv 0) (pv 1) (fun _ _ => rfl))))
      pss_nil))
      (pss_cons (ps_set (i := 3) sc_l_hand.nd rfl (Or.inl rfl) (pe_callB (id := "abs") call_abs (by rfl) T.z_abs (by decide +kernel) (pa_cons (pv 2) pa_nil)))
      (pss_cons (ps_cut (ps_if (pt_cmpR op_lt (pv 3) (pe_op op_pow pe_int pe_int) (nomark _))
      (pss_one (ps_set (i := 3) sc_l_hand.nd rfl (Or.inl rfl) pe_int))
      pss_nil))
      (pss_one (ps_ret (pe_lst (pa_cons (pv 3) (pa_cons (pe_op op_add (pe_op op_add (pe_op op_mod (pv 2) pe_int) (pe_op op_mulA pe_int (pv 1))) pe_int) (pa_cons pe_int pa_nil)))))))))), ?_⟩
    refine ⟨fun σ' H' => H' = H ∧ ∃ z : Int, σ' = [some (.ref a), some (.int kk), some (.int z), none], ?_, ?_⟩
    · refine ⟨_, rfl, _, rfl, a, _, rfl, .inl hS, _, _, rfl, rfl, _, rfl, ?_⟩
      refine ite2 (fun e => ?_) (fun e => ?_)
      · have e0 : (kk : Int) < ((ns.map V.int).length : Int) := of_decide_eq_true e
        rw [List.length_map] at e0
        have e1 : kk < ns.length := by omega
        refine ⟨_, rfl, _, rfl, a, _, _, V.int ns[kk], rfl, rfl, hS, atI_nat ?_, rfl, _, rfl⟩
        rw [List.getElem?_map, List.getElem?_eq_getElem e1]
        rfl
      · exact ⟨rfl, 0, rfl⟩
    · rintro σ' H' ⟨rfl, z, rfl⟩
      refine ⟨_, rfl, _, rfl, ?_⟩
      refine ⟨fun σ' H'' => H'' = H' ∧ ∃ y : Int, 0 ≤ y ∧ σ' = [some (.ref a), some (.int kk), some (.int z), some (.int y)], ?_, ?_⟩
      · refine ⟨_, rfl, _, _, rfl, rfl, ⟨by decide, by decide, by decide⟩, _, _, rfl, rfl, _, rfl, ?_⟩
        refine ite2 (fun e => ?_) (fun e => ?_)
        · exact ⟨rfl, 0, by decide, rfl⟩
        · exact ⟨rfl, _, by split <;> omega, rfl⟩
      rintro σ' H'' ⟨rfl, y, y0, rfl⟩
      refine ⟨_, rfl, _, rfl, _, _, rfl, rfl, (by show (0 : Int) < 2305843009213693951; decide), _, rfl, _, _, rfl, rfl, .inl (.inl ⟨by decide, by decide⟩), _, _, rfl, rfl, _, _, rfl, rfl, by show 3 ≤ sizeLine; decide, fun p hp => ?_⟩
      have e1 := Int.emod_nonneg z (show (2305843009213693951 : Int) ≠ 0 by decide)
      have e2 := Int.emod_lt_of_pos z (show (0 : Int) < 2305843009213693951 by decide)
      exact k p _ hp (same1 hp) ⟨_, _, _, upd_same, y0, by omega, by omega, by decide, by decide⟩
theorem ok_l_of {P : Program} {w : World} {K : PySem.W.Frag} {mg : Str → Option Value} {base : Heap} {φ : Fds} (T : Txt K mg φ) : FnOk P w K mg base CX0 2 (He.fAd K ("_law_of", none)) φ.l_of p_l_of (sp_of K) := by
  obtain ⟨_, B0v, B0⟩ := b_l_take_2 T
  refine T.f_l_of.ok sc_l_of (fun vs H Q E h => ?_) (fun cdv A outer s H vs Q E hr h => ?_)
  · obtain ⟨h, l, n, xs, rfl, hh, hn, hl, ne, l0, l1, k⟩ := h; rfl
  · obtain ⟨h, l, n, xs, rfl, hh, hn, hl, ne, l0, l1, k⟩ := h
    refine ⟨_, PSs.nox (pss_one (ps_ret (pe_ix (ixl (K := K)) (pv 1) (pe_call (ok_l_take (K := K) T) (hr.mono (by decide)) rfl T.g_l_take T.f_l_take.kp B0 B0v pass0 (pa_cons (pv 0) (pa_cons (pe_callB (id := "len") (lenS (K := K)) (by rfl) T.z_len PySem.boot_len (pa_cons (pv 1) pa_nil)) pa_nil))) (fun _ _ => rfl)))), ?_⟩
    refine ⟨_, rfl, _, rfl, _, rfl, l, xs, rfl, .inl hl, h, n, (xs.length : Int), rfl, hh, by omega, by omega, ?_, fun d H1 d0 d1 hh1 k1 => ?_⟩
    · have : (xs.length : Int).natAbs = xs.length := by omega
      rw [this]
      have : xs.length < 2 ^ 10 := by omega
      exact Nat.lt_of_lt_of_le (PySem.Flt.log2_lt_of (by decide) this) (by decide)
    obtain ⟨j, rfl⟩ := Int.eq_ofNat_of_zero_le d0
    have hj : j < xs.length := by omega
    exact ⟨l, xs, _, xs[j], rfl, rfl, k1.seq ne hl, atI_nat (List.getElem?_eq_getElem hj), k j _ _ (List.getElem?_eq_getElem hj) hh1 k1⟩
theorem ok_heights_of {P : Program} {w : World} {K : PySem.W.Frag} {mg : Str → Option Value} {base : Heap} {φ : Fds} (T : Txt K mg φ) : FnOk P w K mg base CX0 2 (He.fAd K ("heights_of", none)) φ.heights_of p_heights_of (sp_heights K (He.ga K "Measure")) := by
  obtain ⟨_, B0v, B0⟩ := b_Measure_is_below_2 T
  refine T.f_heights_of.ok sc_heights_of (fun vs H Q E h => ?_) (fun cdv A outer s H vs Q E hr h => ?_)
  · obtain ⟨T', k, ps, d, ts, rfl, hT, hm, hk, p0, hl, kk⟩ := h; rfl
  · obtain ⟨T', k, ps, d, ts, rfl, hT, hm, hk, p0, hl, kk⟩ := h
    refine ⟨_, PSs.nox (pss_cons (ps_set (i := 1) sc_heights_of.nd rfl (Or.inr rfl) (pe_lst pa_nil))
      (pss_cons (ps_for PassesOwn.never rfl (pi_range1 rfl T.z_range (pa_cons (pe_callB (id := "len") (lenS (K := K)) (by rfl) T.z_len PySem.boot_len (pa_cons (pv 0) pa_nil)) pa_nil)) (pg_name (i := 2) sc_heights_of.nd rfl (Or.inr rfl))
      (pss_cons (ps_setLc (i := 3) (own := [("at", 4)]) (g := gName 4) rfl sc_heights_of.nd rfl rfl (sw_true rfl rfl rfl (by decide +kernel)) (pi_range1 rfl T.z_range (pa_cons (pv 2) pa_nil)) (blkOk_by (own := [("at", 4)]) (N := N_heights_of) (sc := (defScope s_heights_of)) (by decide +kernel)) (fun _ _ _ _ _ => (pg_name (i := 4) sc_heights_of.nd rfl (Or.inl rfl))) (fun _ _ _ _ _ => (pts_one (pt_val (pe_meth (pe_ix (ixt (K := K)) (pv 0) (pv 4) (fun _ _ => rfl)) T.cl_Measure T.me_Measure_is_below (ok_Measure_is_below (K := K) T) (hr.mono (by decide)) B0 B0v pass0 (pa_cons (pe_ix (ixt (K := K)) (pv 0) (pv 2) (fun _ _ => rfl)) pa_nil))))) (fun _ _ _ _ _ => (pe_op op_add (pe_ix (ixl (K := K)) (pv 1) (pv 4) (fun _ _ => rfl)) pe_int)))
      (pss_one (ps_expr (pe_bm PySem.F.plainAttrs_list PySem.F.slot_list_append PySem.F.type_list_append mt_append (pv 1) (pa_cons (pe_callBK (id := "max") (maxDf (K := K) hr) (by rfl) T.z_max (by decide +kernel) (pa_cons (pv 3) pa_nil) (pk_cons pe_int pk_nil)) pa_nil))))))
      (pss_one (ps_ret (pv 1))))), ?_⟩
    have el : ps.length = ts.length := hm.len.trans (zq_len _ _)
    have el2 : ((ps.length : Nat) : Int).toNat = ts.length := by omega
    walk_at "w"
    intro D nD
    have s0 : Same H (upd H D (.lst [])) := same1 nD
    have hD0 : upd H D (.lst []) D = some (.lst []) := upd_same
    generalize upd H D (.lst []) = H0 at *
    have hT0 := s0.sqt hT
    walk_at "w"
    refine for_range (fun i σ H' => (∃ v1 v2 v3, σ = [some (.ref T'), some (.ref D), v1, v2, v3]) ∧ Same H H' ∧ H' D = some (.lst (nv (hgt ts i)))) ⟨⟨_, _, _, rfl⟩, s0, hD0⟩ ?_ ?_
    · rintro i σ H1 hi ⟨⟨v1, v2, v3, rfl⟩, s1, hD⟩
      have hi : i < ts.length := by omega
      have hT1 := s1.sqt hT
      have hm1 := hm.same s1
      have lD : (nv (hgt ts i)).length = i := by rw [nv_len, hgt_len]
      walk_at "w"
      intro D2 nD2
      refine lcz walk_range (fun _ _ _ _ => trivial) ((List.range i).map fun a => if lti ts a i then some (V.int ((hgN ts a : Int) + 1)) else none) (by rw [List.length_map, List.length_range]; omega) (szs (by omega)) trivial nD2 (fun a x H2 H3 z N M ha ez s2 yy hN hM => ?_) (fun H2 s2 hD2 => ?_)
      · obtain ⟨rfl, rfl⟩ := yy
        have ha : a < i := by omega
        rw [List.getElem?_map, List.getElem?_range (by omega)] at ez
        replace ez : (if lti ts a i then some (V.int ((hgN ts a : Int) + 1)) else none) = z := Option.some.inj ez
        obtain ⟨x, hx⟩ := geI (zs := ts) (n := a) (by omega)
        obtain ⟨y, hy⟩ := geI (zs := ts) (n := i) hi
        obtain ⟨p, ep, qp⟩ := (hm1.same s2).at (zs := zq d ts) (i := a) (z := (x, d)) (by unfold zq; rw [List.getElem?_map, hx]; rfl)
        obtain ⟨q, eq, qq⟩ := (hm1.same s2).at (zs := zq d ts) (i := i) (z := (y, d)) (by unfold zq; rw [List.getElem?_map, hy]; rfl)
        have hT2 := s2.sqt hT1
        have hD2 := s2 _ _ hD
        have iz : (0 : Int) + (a : Int) = (a : Int) := Int.zero_add _
        have iz2 : (0 : Int) + (i : Int) = (i : Int) := Int.zero_add _
        refine ⟨rfl, ?_⟩
        walk_at "w"
        refine ⟨atI_of (n := a) (by omega) ep, ?_⟩
        walk_at "w"
        refine ⟨atI_of (n := i) (by omega) eq, ?_⟩
        walk_at "w"
        rw [ltq_d p0]
        have el : lti ts a i = decide (x < y) := lti_get hx hy
        rw [el] at ez
        cases c : decide (x < y) with
        | true =>
          rw [c, if_pos rfl] at ez
          refine iteT ?_
          walk_at "w"
          refine ⟨atI_of (n := a) (by omega) (nv_hgt ha), ?_⟩
          walk_at "w"
          exact hN _ _ ez.symm (Same.refl _)
        | false =>
          rw [c, if_neg Bool.false_ne_true] at ez
          exact iteF (hM _ ez.symm (Same.refl _))
      rw [cand_fm, cand_nv] at hD2
      have go : ∀ v : V, v = .int (hgN ts i : Int) → True := fun _ _ => trivial
      have s12 := s1.trans s2
      have hDD := s2 _ _ hD
      have hD2i : H2 D2 = some (.lst (((candH ts (hgt ts i) i).map fun n : Nat => (n : Int)).map V.int)) := by rw [← nv_ints]; exact hD2
      have put : ∀ {c : Addr} {o : HO}, H c = some o → upd H2 D (.lst (nv (hgt ts i) ++ [.int (hgN ts i : Int)])) c = some o := fun {c o} e => by
        rw [upd_ne (ne_of_none e nD)]; exact s12 _ _ e
      have fin : upd H2 D (.lst (nv (hgt ts i) ++ [.int (hgN ts i : Int)])) D = some (.lst (nv (hgt ts (i + 1)))) := by
        rw [upd_same]
        show _ = some (HO.lst (nv (hgt ts i ++ [mxN (candH ts (hgt ts i) i)])))
        rw [nv_app]; rfl
      walk_at "w"
      refine ⟨_, _, rfl, rfl, SqL.of hD2i, fun e => ?_, fun m h1 h2 => ?_⟩
      · have e0 : hgN ts i = 0 := by
          unfold hgN
          have := congrArg List.length e
          rw [List.length_map] at this
          have e2 : candH ts (hgt ts i) i = [] := List.eq_nil_of_length_eq_zero this
          rw [e2]; rfl
        rw [e0] at put fin
        walk_at "w"
        exact ⟨⟨_, _, _, rfl⟩, fun c o e => put e, fin⟩
      · have e0 : m = (hgN ts i : Int) := mxN_int h1 h2
        subst e0
        walk_at "w"
        exact ⟨⟨_, _, _, rfl⟩, fun c o e => put e, fin⟩
    · rintro σ H1 ⟨⟨v1, v2, v3, rfl⟩, s1, hD⟩
      rw [el2] at hD
      walk_at "w"
      exact kk D H1 s1 hD
theorem ok_kept_by {P : Program} {w : World} {K : PySem.W.Frag} {mg : Str → Option Value} {base : Heap} {φ : Fds} (T : Txt K mg φ) : FnOk P w K mg base CX0 1 (He.fAd K ("kept_by", none)) φ.kept_by p_kept_by (sp_kept K) := by
  refine T.f_kept_by.ok sc_kept_by (fun vs H Q E h => ?_) (fun cdv A outer s H vs Q E hr h => ?_)
  · obtain ⟨D, ts, n, rfl, hD, n0, n1, kk⟩ := h; rfl
  · obtain ⟨D, ts, n, rfl, hD, n0, n1, kk⟩ := h
    refine ⟨_, PSs.nox (pss_cons (ps_set (i := 1) sc_kept_by.nd rfl (Or.inl rfl) (pe_lst pa_nil))
      (pss_cons (ps_set (i := 2) sc_kept_by.nd rfl (Or.inl rfl) (pe_callBK (id := "max") (maxDf (K := K) hr) (by rfl) T.z_max (by decide +kernel) (pa_cons (pv 0) pa_nil) (pk_cons pe_int pk_nil)))
      (pss_cons (ps_for PassesOwn.never rfl (pi_revR (by rfl) T.z_reversed (prg_1 (by rfl) T.z_range (pe_callB (id := "len") (lenS (K := K)) (by rfl) T.z_len PySem.boot_len (pa_cons (pv 0) pa_nil)))) (pg_name (i := 3) sc_kept_by.nd rfl (Or.inl rfl))
      (pss_one (ps_if (pt_cmpR op_eq (pe_ix (ixl (K := K)) (pv 0) (pv 3) (fun _ _ => rfl)) (pv 2) (nomark _))
      (pss_cons (ps_expr (pe_bm PySem.F.plainAttrs_list PySem.F.slot_list_insert PySem.F.type_list_insert mt_insert (pv 1) (pa_cons pe_int (pa_cons (pv 3) pa_nil))))
      (pss_one (ps_aug (i := 2) sc_kept_by.nd rfl (Or.inl rfl) pe_int ip_sub)))
      pss_nil)))
      (pss_one (ps_ret (pv 1)))))), ?_⟩
    have lD : (nv (hgt ts n)).length = n := by rw [nv_len, hgt_len]
    have hD' : SqL K H D (((hgt ts n).map fun n : Nat => (n : Int)).map V.int) := by rw [← nv_ints]; exact hD
    walk_at "w"
    intro E0' nE
    have s0 : Same H (upd H E0' (.lst [])) := same1 nE
    have hE : upd H E0' (.lst []) E0' = some (.lst []) := upd_same
    generalize upd H E0' (.lst []) = H0 at *
    have hD0 := s0.seq hD'
    walk_at "w"
    refine ⟨_, _, rfl, rfl, hD0, fun e => ?_, fun m h1 h2 => ?_⟩
    · have := congrArg List.length e
      rw [List.length_map, hgt_len] at this
      simp at this
      omega
    have e0 : m = (hgM ts n : Int) := mxN_int h1 h2
    subst e0
    have hD00 := s0.seq hD
    clear h1 h2
    walk_at "w"
    refine for_rangeC (fun i σ H' => (∃ (c : List Nat) (w : Int) (v : Option V), σ = [some (.ref D), some (.ref E0'), some (.int w), v] ∧ Kept ts n (n - i) c w ∧ c.length ≤ i ∧ H' E0' = some (.lst (nv c))) ∧ Same H H') ⟨⟨[], _, _, rfl, Kept.start ts n, Nat.le_refl _, hE⟩, s0⟩ ?_ ?_
    · rintro i σ H1 hi ⟨⟨c, w, v, rfl, kp, lc, hE1⟩, s1⟩
      have hi : i < n := by omega
      have hD1 := s1.seq hD
      obtain ⟨j, rfl⟩ : ∃ j, n = j + 1 + i := ⟨n - i - 1, by omega⟩
      rw [show j + 1 + i - i = j + 1 by omega] at kp
      have ej : j + 1 + i - (i + 1) = j := by omega
      rw [ej]
      have eat : atI (nv (hgt ts (j + 1 + i))) ((0 : Int) + (((((nv (hgt ts (j + 1 + i))).length : Nat) : Int) - 0).toNat : Int) - 1 + (i : Int) * (-1)) = some (.int (hgN ts j : Int)) := atI_of (n := j) (by rw [lD]; omega) (nv_hgt (by omega))
      have en : (0 : Int) + (((((nv (hgt ts (j + 1 + i))).length : Nat) : Int) - 0).toNat : Int) - 1 + (i : Int) * (-1) = (j : Int) := by rw [lD]; omega
      have ln : (nv c).length = c.length := nv_len _
      rw [en] at eat ⊢
      walk_at "w"
      rw [dI]
      refine ite2 (fun e => ?_) (fun e => ?_)
      · have e := of_decide_eq_true e
        have kt := kp.take (by omega) e
        walk_at "w"
        refine ⟨⟨j :: c, w - 1, _, rfl, kt, by rw [List.length_cons]; omega, ?_⟩, fun a o q => by rw [upd_ne (ne_of_none q nE)]; exact s1 _ _ q⟩
        rw [upd_same]; rfl
      · have e : ¬ (hgN ts j : Int) = w := fun z => e (decide_eq_true z)
        walk_at "w"
        exact ⟨⟨c, w, _, rfl, kp.skip e, by omega, hE1⟩, s1⟩
    · rintro σ H1 ⟨⟨c, w, v, rfl, kp, lc, hE1⟩, s1⟩
      rw [show n - (((((nv (hgt ts n)).length : Nat) : Int) - 0).toNat) = 0 by rw [lD]; omega] at kp
      walk_at "w"
      exact kk E0' c H1 s1 hE1 kp.ch (fun a ha => (kp.lo a ha).2) (kp.end_ n0)
theorem ok_rise_of {P : Program} {w : World} {K : PySem.W.Frag} {mg : Str → Option Value} {base : Heap} {φ : Fds} (T : Txt K mg φ) : FnOk P w K mg base CX0 3 (He.fAd K ("rise_of", none)) φ.rise_of p_rise_of (sp_riseof K (He.ga K "Measure")) := by
  obtain ⟨_, B0v, B0⟩ := b_heights_of_1 T
  obtain ⟨_, B1v, B1⟩ := b_kept_by_1 T
  refine T.f_rise_of.ok sc_rise_of (fun vs H Q E h => ?_) (fun cdv A outer s H vs Q E hr h => ?_)
  · obtain ⟨T', k, ps, d, ts, rfl, hT, hm, hk, p0, l0, hl, kk⟩ := h; rfl
  · obtain ⟨T', k, ps, d, ts, rfl, hT, hm, hk, p0, l0, hl, kk⟩ := h
    refine ⟨_, PSs.nox (pss_cons (ps_set (i := 1) sc_rise_of.nd rfl (Or.inl rfl) (pe_call (ok_heights_of (K := K) T) (hr.mono (by decide)) rfl T.g_heights_of T.f_heights_of.kp B0 B0v pass0 (pa_cons (pv 0) pa_nil)))
      (pss_one (ps_ret (pe_tup (pa_cons (pe_callTy (T := "tuple") (tupleL (K := K)) (by rfl) T.z_tuple (by decide +kernel) (pa_cons (pe_call (ok_kept_by (K := K) T) (hr.mono (by decide)) rfl T.g_kept_by T.f_kept_by.kp B1 B1v pass0 (pa_cons (pv 1) pa_nil)) pa_nil)) (pa_cons (pe_callTy (T := "tuple") (tupleL (K := K)) (by rfl) T.z_tuple (by decide +kernel) (pa_cons (pv 1) pa_nil)) pa_nil)))))), ?_⟩
    walk_at "w"
    refine ⟨ts, rfl, hT, hm, hk, p0, hl, fun D H1 s1 hD => ?_⟩
    walk_at "w"
    refine ⟨ts, _, rfl, SqL.of hD, l0, hl, fun E' c H2 s2 hE ch lt le => ?_⟩
    have hD2 := s2 _ _ hD
    have lc : c.length ≤ 24 := by
      have t : Told23 (upd (upd (upd H2 0 (.tup [.ref 1, .ref 2])) 1 (.tup (nv c))) 2 (.tup (nv (hgt ts ts.length)))) 0 ts c 1 2 := ⟨rfl, rfl, rfl, ch, lt, le⟩
      exact t.le hl
    have ln : (nv c).length = c.length := nv_len _
    have lh : (nv (hgt ts ts.length)).length = ts.length := by rw [nv_len, hgt_len]
    walk_at "w"
    intro T1 nT1
    have h1 := upd_same (H := H2) (a := T1) (o := .tup (nv c))
    have s3 : Same H2 (upd H2 T1 (.tup (nv c))) := same1 nT1
    generalize upd H2 T1 (.tup (nv c)) = H3 at *
    replace hD2 := s3 _ _ hD2
    walk_at "w"
    intro T2 nT2
    have h2 := upd_same (H := H3) (a := T2) (o := .tup (nv (hgt ts ts.length)))
    have s4 : Same H3 (upd H3 T2 (.tup (nv (hgt ts ts.length)))) := same1 nT2
    generalize upd H3 T2 (.tup (nv (hgt ts ts.length))) = H4 at *
    replace h1 := s4 _ _ h1
    walk_at "w"
    intro T3 nT3
    exact kk T3 c T1 T2 _ (((s1.trans s2).trans s3).trans (s4.up nT3)) ⟨upd_same, up1 nT3 h1, up1 nT3 h2, ch, lt, le⟩
theorem ok_are_wholes {P : Program} {w : World} {K : PySem.W.Frag} {mg : Str → Option Value} {base : Heap} {φ : Fds} (T : Txt K mg φ) : FnOk P w K mg base CX0 2 (He.fAd K ("are_wholes", none)) φ.are_wholes p_are_wholes (sp_arew K) := by
  obtain ⟨_, B0v, B0⟩ := b_is_whole_1 T
  refine T.f_are_wholes.ok sc_are_wholes (fun vs H Q E h => ?_) (fun cdv A outer s H vs Q E hr h => ?_)
  · obtain ⟨T', c, rfl, hT, hl, kk⟩ := h; rfl
  · obtain ⟨T', c, rfl, hT, hl, kk⟩ := h
    refine ⟨_, PSs.nox (pss_one (ps_ret (pe_and (pe_callB (id := "isinstance") (isi (K := K)) (by rfl) T.z_isinstance (by decide +kernel) (pa_cons (pv 0) (pa_cons (pe_bltn (v := .ty "tuple") rfl T.z_tuple (by decide +kernel) rfl) pa_nil))) (pe_one (pe_callB (id := "all") (allK (K := K)) (by rfl) T.z_all (by decide +kernel) (pa_cons (pe_lc (own := [("part", 1)]) (g := gName 1) rfl sc_are_wholes.nd (pi_tup (pv 0)) (blkOk_by (own := [("part", 1)]) (N := N_are_wholes) (sc := (defScope s_are_wholes)) (by decide +kernel)) (fun _ _ _ _ _ => (pg_name (i := 1) sc_are_wholes.nd rfl (Or.inl rfl))) (fun _ _ _ _ _ => pts_nil) (fun _ _ _ _ _ => (pe_call (ok_is_whole (K := K) T) (hr.mono (by decide)) rfl T.g_is_whole T.f_is_whole.kp B0 B0v pass0 (pa_cons (pv 1) pa_nil)))) pa_nil)))))), ?_⟩
    have ln : (nv c).length = c.length := nv_len _
    refine ⟨_, rfl, _, _, _, _, _, rfl, .ty _, tyTup hT, kit_ty (r := true) (by decide +kernel), _, rfl, iteT ?_⟩
    walk_at "w"
    refine ⟨⟨_, hT⟩, fun D nD => ?_⟩
    refine lcz (n := (nv c).length) walk_tup (fun _ _ g s => s.sqt g) (List.replicate _ (some (V.bl true))) List.length_replicate (szs (by omega)) hT nD (fun i x H1 H2 z N M hi hz s1 y hN hM => ?_) (fun H1 s1 hD => ?_)
    · obtain ⟨rfl, hx⟩ := y
      have hc : c[i]? = some c[i] := List.getElem?_eq_getElem (by omega)
      rw [nv_get hc] at hx
      cases hx
      rw [List.getElem?_replicate, if_pos hi] at hz
      cases hz
      refine ⟨rfl, yesT ?_⟩
      walk_at "w"
      exact hN _ _ rfl (Same.refl _)
    rw [rep_fm] at hD
    walk_at "w"
    refine ⟨_, rfl, SqL.of hD, ?_⟩
    rw [rep_all]
    exact kk _ s1
theorem ok_all_below {P : Program} {w : World} {K : PySem.W.Frag} {mg : Str → Option Value} {base : Heap} {φ : Fds} (T : Txt K mg φ) : FnOk P w K mg base CX0 1 (He.fAd K ("all_below", none)) φ.all_below p_all_below (sp_allb K) := by
  refine T.f_all_below.ok sc_all_below (fun vs H Q E h => ?_) (fun cdv A outer s H vs Q E hr h => ?_)
  · obtain ⟨T', m, c, rfl, hT, hl, hb, kk⟩ := h; rfl
  · obtain ⟨T', m, c, rfl, hT, hl, hb, kk⟩ := h
    refine ⟨_, PSs.nox (pss_one (ps_ret (pe_callB (id := "all") (allK (K := K)) (by rfl) T.z_all (by decide +kernel) (pa_cons (pe_lc (own := [("number", 2)]) (g := gName 2) rfl sc_all_below.nd (pi_tup (pv 0)) (blkOk_by (own := [("number", 2)]) (N := N_all_below) (sc := (defScope s_all_below)) (by decide +kernel)) (fun _ _ _ _ _ => (pg_name (i := 2) sc_all_below.nd rfl (Or.inl rfl))) (fun _ _ _ _ _ => pts_nil) (fun _ _ _ _ _ => (pe_chain op_le op_lt pe_int (pv 2) (pv 1)))) pa_nil)))), ?_⟩
    have ln : (nv c).length = c.length := nv_len _
    walk_at "w"
    refine ⟨⟨_, hT⟩, fun D nD => ?_⟩
    refine lcz (n := (nv c).length) walk_tup (fun _ _ g s => s.sqt g) (List.replicate _ (some (V.bl true))) List.length_replicate (szs (by omega)) hT nD (fun i x H1 H2 z N M hi hz s1 y hN hM => ?_) (fun H1 s1 hD => ?_)
    · obtain ⟨rfl, hx⟩ := y
      have hc : c[i]? = some c[i] := List.getElem?_eq_getElem (by omega)
      have hb1 := hb _ (List.mem_of_getElem? hc)
      rw [nv_get hc] at hx
      cases hx
      rw [List.getElem?_replicate, if_pos hi] at hz
      cases hz
      generalize c[i] = a at *
      refine ⟨rfl, yesT ?_⟩
      walk_at "w"
      show N (V.bl (decide (((a : Nat) : Int) < m))) _
      rw [decide_eq_true hb1]
      exact hN _ _ rfl (Same.refl _)
    rw [rep_fm] at hD
    walk_at "w"
    refine ⟨_, rfl, SqL.of hD, ?_⟩
    rw [rep_all]
    exact kk _ s1
theorem ok_are_rising {P : Program} {w : World} {K : PySem.W.Frag} {mg : Str → Option Value} {base : Heap} {φ : Fds} (T : Txt K mg φ) : FnOk P w K mg base CX0 3 (He.fAd K ("are_rising", none)) φ.are_rising p_are_rising (sp_arer K) := by
  obtain ⟨_, B0v, B0⟩ := b_all_below_2 T
  obtain ⟨_, B1v, B1⟩ := b_are_wholes_1 T
  refine T.f_are_rising.ok sc_are_rising (fun vs H Q E h => ?_) (fun cdv A outer s H vs Q E hr h => ?_)
  · obtain ⟨T', m, c, rfl, hT, hl, hb, hr', kk⟩ := h; rfl
  · obtain ⟨T', m, c, rfl, hT, hl, hb, hr', kk⟩ := h
    refine ⟨_, PSs.nox (pss_cons (ps_if (PW.pt (pw_or (pt_not (pt_val (pe_call (ok_are_wholes (K := K) T) (hr.mono (by decide)) rfl T.g_are_wholes T.f_are_wholes.kp B1 B1v pass0 (pa_cons (pv 0) pa_nil)))) (pw_or1 (pt_not (pt_val (pe_call (ok_all_below (K := K) T) (hr.mono (by decide)) rfl T.g_all_below T.f_all_below.kp B0 B0v pass0 (pa_cons (pv 0) (pa_cons (pv 1) pa_nil))))))))
      (pss_one (ps_ret pe_bl))
      pss_nil)
      (pss_one (ps_ret (pe_callB (id := "all") (allK (K := K)) (by rfl) T.z_all (by decide +kernel) (pa_cons (pe_lc (own := [("at", 2)]) (g := gName 2) rfl sc_are_rising.nd (pi_range2 rfl T.z_range (pa_cons pe_int (pa_cons (pe_callB (id := "len") (lenS (K := K)) (by rfl) T.z_len PySem.boot_len (pa_cons (pv 0) pa_nil)) pa_nil))) (blkOk_by (own := [("at", 2)]) (N := N_are_rising) (sc := (defScope s_are_rising)) (by decide +kernel)) (fun _ _ _ _ _ => (pg_name (i := 2) sc_are_rising.nd rfl (Or.inl rfl))) (fun _ _ _ _ _ => pts_nil) (fun _ _ _ _ _ => (pe_cmpR op_lt (pe_ix (ixt (K := K)) (pv 0) (pe_op op_sub (pv 2) pe_int) (fun _ _ => rfl)) (pe_ix (ixt (K := K)) (pv 0) (pv 2) (fun _ _ => rfl)) (nomark _)))) pa_nil))))), ?_⟩
    have ln : (nv c).length = c.length := nv_len _
    walk_at "w"
    refine ⟨c, rfl, hT, hl, fun H1 s1 => ?_⟩
    have hT1 := s1.sqt hT
    walk_at "w"
    refine ⟨c, rfl, hT1, hl, hb, fun H2 s2 => ?_⟩
    have hT2 := s2.sqt hT1
    walk_at "w"
    intro D nD
    refine lcz walk_range (fun _ _ _ _ => trivial) (List.replicate _ (some (V.bl true))) List.length_replicate (szs (by omega)) trivial nD (fun i x H3 H4 z N M hi hz s3 y hN hM => ?_) (fun H3 s3 hD => ?_)
    · obtain ⟨rfl, rfl⟩ := y
      rw [List.getElem?_replicate, if_pos hi] at hz
      cases hz
      have h1 : c[i]? = some c[i] := List.getElem?_eq_getElem (by omega)
      have h2 : c[i + 1]? = some c[i + 1] := List.getElem?_eq_getElem (by omega)
      have h3 := hr' i _ _ h1 h2
      have a1 := atI_of (n := i) (z := (1 : Int) + (i : Int) - 1) (by omega) (nv_get h1)
      have a2 := atI_of (n := i + 1) (z := (1 : Int) + (i : Int)) (by omega) (nv_get h2)
      generalize c[i] = p at *
      generalize c[i + 1] = q at *
      have hT3 := s3.sqt hT2
      refine ⟨rfl, yesT ?_⟩
      walk_at "w"
      show N (V.bl (decide (((p : Nat) : Int) < ((q : Nat) : Int)))) _
      rw [decide_eq_true (show (p : Int) < (q : Int) by omega)]
      exact hN _ _ rfl (Same.refl _)
    rw [rep_fm] at hD
    walk_at "w"
    refine ⟨_, rfl, SqL.of hD, ?_⟩
    rw [rep_all]
    exact kk _ ((s1.trans s2).trans s3)
theorem ok_is_tuple_of {P : Program} {w : World} {K : PySem.W.Frag} {mg : Str → Option Value} {base : Heap} {φ : Fds} (T : Txt K mg φ) : FnOk P w K mg base CX0 1 (He.fAd K ("is_tuple_of", none)) φ.is_tuple_of p_is_tuple_of (sp_ist23 K) := by
  refine T.f_is_tuple_of.ok sc_is_tuple_of (fun vs H Q E h => ?_) (fun cdv A outer s H vs Q E hr h => ?_)
  · obtain ⟨X, a, b, rfl, hX, kk⟩ := h; rfl
  · obtain ⟨X, a, b, rfl, hX, kk⟩ := h
    refine ⟨_, PSs.nox (pss_one (ps_ret (pe_and (pe_callB (id := "isinstance") (isi (K := K)) (by rfl) T.z_isinstance (by decide +kernel) (pa_cons (pv 0) (pa_cons (pe_bltn (v := .ty "tuple") rfl T.z_tuple (by decide +kernel) rfl) pa_nil))) (pe_one (pe_cmpR op_eq (pe_callB (id := "len") (lenS (K := K)) (by rfl) T.z_len PySem.boot_len (pa_cons (pv 0) pa_nil)) (pv 1) (nomark _)))))), ?_⟩
    refine ⟨_, rfl, _, _, _, _, _, rfl, .ty _, tyTup (SqT.of hX), kit_ty (r := true) (by decide +kernel), _, rfl, iteT ?_⟩
    walk_at "w"
    show Q (V.bl (decide (V.int 2 = V.int 2))) H
    rw [decide_eq_true rfl]
    exact kk
theorem ok_is_kept {P : Program} {w : World} {K : PySem.W.Frag} {mg : Str → Option Value} {base : Heap} {φ : Fds} (T : Txt K mg φ) : FnOk P w K mg base CX0 4 (He.fAd K ("is_kept", none)) φ.is_kept p_is_kept (sp_iskept K (He.ga K "Measure")) := by
  obtain ⟨_, B0v, B0⟩ := b_are_rising_2 T
  obtain ⟨_, B1v, B1⟩ := b_slip_of_1 T
  refine T.f_is_kept.ok sc_is_kept (fun vs H Q E h => ?_) (fun cdv A outer s H vs Q E hr h => ?_)
  · obtain ⟨T', TK, k, ps, d, ts, c, rfl, hT, hm, hk, p0, hl, hK, ch, lt, lc, kk⟩ := h; rfl
  · obtain ⟨T', TK, k, ps, d, ts, c, rfl, hT, hm, hk, p0, hl, hK, ch, lt, lc, kk⟩ := h
    refine ⟨_, PSs.nox (pss_cons (ps_if (pt_not (pt_val (pe_call (ok_are_rising (K := K) T) (hr.mono (by decide)) rfl T.g_are_rising T.f_are_rising.kp B0 B0v pass0 (pa_cons (pv 1) (pa_cons (pe_callB (id := "len") (lenS (K := K)) (by rfl) T.z_len PySem.boot_len (pa_cons (pv 0) pa_nil)) pa_nil)))))
      (pss_one (ps_ret pe_bl))
      pss_nil)
      (pss_one (ps_ret (pe_cmpR op_isN (pe_call (ok_slip_of (K := K) T) (hr.mono (by decide)) rfl T.g_slip_of T.f_slip_of.kp B1 B1v pass0 (pa_cons (pe_lc (own := [("number", 2)]) (g := gName 2) rfl sc_is_kept.nd (pi_tup (pv 1)) (blkOk_by (own := [("number", 2)]) (N := N_is_kept) (sc := (defScope s_is_kept)) (by decide +kernel)) (fun _ _ _ _ _ => (pg_name (i := 2) sc_is_kept.nd rfl (Or.inl rfl))) (fun _ _ _ _ _ => pts_nil) (fun _ _ _ _ _ => (pe_ix (ixt (K := K)) (pv 0) (pv 2) (fun _ _ => rfl)))) pa_nil)) pe_non (nomark _))))), ?_⟩
    have ln : (nv c).length = c.length := nv_len _
    have el : ps.length = ts.length := hm.len.trans (zq_len _ _)
    walk_at "w"
    refine ⟨c, rfl, hK, lc, (fun a ha => by have := lt a ha; omega), (fun i a b h1 h2 => (ch i a b h1 h2).1), fun H1 s1 => ?_⟩
    have hT1 := s1.sqt hT
    have hK1 := s1.sqt hK
    have hm1 := hm.same s1
    walk_at "w"
    refine ⟨⟨_, hK1⟩, fun D nD => ?_⟩
    refine lcr (n := (nv c).length) walk_tup (fun _ _ g s => s.sqt g) (fun i H v => ∃ q a, v = .ref q ∧ c[i]? = some a ∧ QAt (He.ga K "Measure") H q k (ts.getD a 0, d)) (fun i H H' y ⟨q, m, e1, e2, e3⟩ n => ⟨q, m, e1, e2, e3.nl n⟩) (szs (by omega)) hK1 nD (fun i x H2 H3 N M hi s2 y hN => ?_) (fun H2 ys s2 hD ly hy => ?_)
    · obtain ⟨rfl, hx⟩ := y
      have hc : c[i]? = some c[i] := List.getElem?_eq_getElem (by omega)
      have la := lt _ (List.mem_of_getElem? hc)
      rw [nv_get hc] at hx
      cases hx
      generalize c[i] = a at *
      obtain ⟨x, hx⟩ := geI (zs := ts) (n := a) la
      obtain ⟨q, hq, qa⟩ := zq_at (hm1.same s2) hx
      have hT2 := s2.sqt hT1
      have a1 := atI_of (n := a) (z := ((a : Nat) : Int)) rfl hq
      have ex : ts.getD a 0 = x := by rw [List.getD_eq_getElem?_getD, hx]; rfl
      refine ⟨rfl, yesT ?_⟩
      walk_at "w"
      exact hN _ _ (Same.refl _) ⟨q, a, rfl, hc, by rw [ex]; exact qa⟩
    have mk : Mks (He.ga K "Measure") H2 k ys (zq d (c.map fun a => ts.getD a 0)) := ⟨by rw [zq_len, List.length_map]; omega, fun i v z h1 h2 => by
      obtain ⟨q, a, e1, e2, e3⟩ := hy i v h1
      obtain ⟨y, hy2, rfl⟩ := zq_get h2
      rw [List.getElem?_map, e2] at hy2
      cases hy2
      exact ⟨q, e1, e3⟩⟩
    walk_at "w"
    refine ⟨_, rfl, .inl (SqL.of hD), mk, hk, by rw [zq_len, List.length_map]; omega, fun o ho => ?_⟩
    walk_at "w"
    rw [slip_rise (riseq_c p0 ch lt) ho]
    exact kk _ (s1.trans s2)
theorem ok_rises_in_one {P : Program} {w : World} {K : PySem.W.Frag} {mg : Str → Option Value} {base : Heap} {φ : Fds} (T : Txt K mg φ) : FnOk P w K mg base CX0 2 (He.fAd K ("rises_in_one", none)) φ.rises_in_one p_rises_in_one (sp_rio K (He.ga K "Measure")) := by
  obtain ⟨_, B0v, B0⟩ := b_Measure_is_below_2 T
  refine T.f_rises_in_one.ok sc_rises_in_one (fun vs H Q E h => ?_) (fun cdv A outer s H vs Q E hr h => ?_)
  · obtain ⟨T', TH, j, k, ps, d, ts, rfl, hT, hm, hk, p0, hl, hH, hj, kk⟩ := h; rfl
  · obtain ⟨T', TH, j, k, ps, d, ts, rfl, hT, hm, hk, p0, hl, hH, hj, kk⟩ := h
    refine ⟨_, PSs.nox (pss_one (ps_ret (pe_callB (id := "any") (anyK (K := K)) (by rfl) T.z_any (by decide +kernel) (pa_cons (pe_lc (own := [("at", 3)]) (g := gName 3) rfl sc_rises_in_one.nd (pi_range1 rfl T.z_range (pa_cons (pv 2) pa_nil)) (blkOk_by (own := [("at", 3)]) (N := N_rises_in_one) (sc := (defScope s_rises_in_one)) (by decide +kernel)) (fun _ _ _ _ _ => (pg_name (i := 3) sc_rises_in_one.nd rfl (Or.inl rfl))) (fun _ _ _ _ _ => pts_nil) (fun _ _ _ _ _ => (pe_and (pe_cmpR op_eq (pe_ix (ixt (K := K)) (pv 1) (pv 3) (fun _ _ => rfl)) (pe_ix (ixt (K := K)) (pv 1) (pv 2) (fun _ _ => rfl)) (nomark _)) (pe_one (pe_meth (pe_ix (ixt (K := K)) (pv 0) (pv 3) (fun _ _ => rfl)) T.cl_Measure T.me_Measure_is_below (ok_Measure_is_below (K := K) T) (hr.mono (by decide)) B0 B0v pass0 (pa_cons (pe_ix (ixt (K := K)) (pv 0) (pv 2) (fun _ _ => rfl)) pa_nil)))))) pa_nil)))), ?_⟩
    have el : ps.length = ts.length := hm.len.trans (zq_len _ _)
    walk_at "w"
    intro D nD
    refine lcz walk_range (fun _ _ _ _ => trivial) (List.replicate _ (some (V.bl false))) List.length_replicate (szs (by omega)) trivial nD (fun i x H3 H4 z N M hi hz s3 y hN hM => ?_) (fun H3 s3 hD => ?_)
    · obtain ⟨rfl, rfl⟩ := y
      rw [List.getElem?_replicate, if_pos hi] at hz
      cases hz
      have hi : i < j := by omega
      obtain ⟨x, hx⟩ := geI (zs := ts) (n := i) (by omega)
      obtain ⟨y, hy⟩ := geI (zs := ts) (n := j) hj
      obtain ⟨p, ep, qp⟩ := zq_at (hm.same s3) hx
      obtain ⟨q, eq, qq⟩ := zq_at (hm.same s3) hy
      have hT2 := s3.sqt hT
      have hH2 := s3.sqt hH
      have a1 := atI_of (n := i) (z := (0 : Int) + (i : Int)) (by omega) ep
      have a2 := atI_of (n := j) (z := ((j : Nat) : Int)) rfl eq
      have b1 := atI_of (n := i) (z := (0 : Int) + (i : Int)) (by omega) (nv_hgt (ts := ts) (n := ts.length) (i := i) (by omega))
      have b2 := atI_of (n := j) (z := ((j : Nat) : Int)) rfl (nv_hgt (ts := ts) (n := ts.length) (i := j) hj)
      have key := rioF (ts := ts) hi
      rw [lti_get hx hy] at key
      refine ⟨rfl, yesT ?_⟩
      walk_at "w"
      rw [dI]
      cases c : decide ((hgN ts i : Int) = (hgN ts j : Int)) with
      | false =>
        refine iteF ?_
        exact hN _ _ rfl (Same.refl _)
      | true =>
        rw [c, Bool.true_and] at key
        refine iteT ?_
        walk_at "w"
        rw [ltq_d p0, key]
        exact hN _ _ rfl (Same.refl _)
    rw [rep_fmF] at hD
    walk_at "w"
    refine ⟨_, rfl, SqL.of hD, ?_⟩
    rw [rep_any]
    exact kk _ s3
theorem ok_is_numbering {P : Program} {w : World} {K : PySem.W.Frag} {mg : Str → Option Value} {base : Heap} {φ : Fds} (T : Txt K mg φ) : FnOk P w K mg base CX0 3 (He.fAd K ("is_numbering", none)) φ.is_numbering p_is_numbering (sp_isn K (He.ga K "Measure")) := by
  obtain ⟨_, B0v, B0⟩ := b_all_below_2 T
  obtain ⟨_, B1v, B1⟩ := b_are_wholes_1 T
  obtain ⟨_, B2v, B2⟩ := b_rises_in_one_3 T
  refine T.f_is_numbering.ok sc_is_numbering (fun vs H Q E h => ?_) (fun cdv A outer s H vs Q E hr h => ?_)
  · obtain ⟨T', TH, m, k, ps, d, ts, rfl, hT, hm, hk, p0, hl, hH, hb, kk⟩ := h; rfl
  · obtain ⟨T', TH, m, k, ps, d, ts, rfl, hT, hm, hk, p0, hl, hH, hb, kk⟩ := h
    refine ⟨_, PSs.nox (pss_cons (ps_if (PW.pt (pw_or (pt_not (pt_val (pe_call (ok_are_wholes (K := K) T) (hr.mono (by decide)) rfl T.g_are_wholes T.f_are_wholes.kp B1 B1v pass0 (pa_cons (pv 1) pa_nil)))) (pw_or (pt_cmpR op_ne (pe_callB (id := "len") (lenS (K := K)) (by rfl) T.z_len PySem.boot_len (pa_cons (pv 1) pa_nil)) (pe_callB (id := "len") (lenS (K := K)) (by rfl) T.z_len PySem.boot_len (pa_cons (pv 0) pa_nil)) (nomark _)) (pw_or1 (pt_not (pt_val (pe_call (ok_all_below (K := K) T) (hr.mono (by decide)) rfl T.g_all_below T.f_all_below.kp B0 B0v pass0 (pa_cons (pv 1) (pa_cons (pv 2) pa_nil)))))))))
      (pss_one (ps_ret pe_bl))
      pss_nil)
      (pss_one (ps_ret (pe_not (pe_callB (id := "any") (anyK (K := K)) (by rfl) T.z_any (by decide +kernel) (pa_cons (pe_lc (own := [("last", 3)]) (g := gName 3) rfl sc_is_numbering.nd (pi_range1 rfl T.z_range (pa_cons (pe_callB (id := "len") (lenS (K := K)) (by rfl) T.z_len PySem.boot_len (pa_cons (pv 0) pa_nil)) pa_nil)) (blkOk_by (own := [("last", 3)]) (N := N_is_numbering) (sc := (defScope s_is_numbering)) (by decide +kernel)) (fun _ _ _ _ _ => (pg_name (i := 3) sc_is_numbering.nd rfl (Or.inl rfl))) (fun _ _ _ _ _ => pts_nil) (fun _ _ _ _ _ => (pe_call (ok_rises_in_one (K := K) T) (hr.mono (by decide)) rfl T.g_rises_in_one T.f_rises_in_one.kp B2 B2v pass0 (pa_cons (pv 0) (pa_cons (pv 1) (pa_cons (pv 3) pa_nil)))))) pa_nil)))))), ?_⟩
    have el : ps.length = ts.length := hm.len.trans (zq_len _ _)
    have lh : (nv (hgt ts ts.length)).length = ts.length := by rw [nv_len, hgt_len]
    have lg : (hgt ts ts.length).length ≤ 24 := by rw [hgt_len]; exact hl
    walk_at "w"
    refine ⟨_, rfl, hH, lg, fun H1 s1 => ?_⟩
    have hT1 := s1.sqt hT
    have hH1 := s1.sqt hH
    have hm1 := hm.same s1
    walk_at "w"
    rw [lh, el, decide_eq_true rfl]
    walk_at "w"
    refine ⟨_, rfl, hH1, lg, hb, fun H2 s2 => ?_⟩
    have hT2 := s2.sqt hT1
    have hH2 := s2.sqt hH1
    have hm2 := hm1.same s2
    walk_at "w"
    intro D nD
    refine lcz walk_range (fun _ _ _ _ => trivial) (List.replicate _ (some (V.bl false))) List.length_replicate (szs (by omega)) trivial nD (fun i x H3 H4 z N M hi hz s3 y hN hM => ?_) (fun H3 s3 hD => ?_)
    · obtain ⟨rfl, rfl⟩ := y
      rw [List.getElem?_replicate, if_pos hi] at hz
      cases hz
      refine ⟨rfl, yesT ?_⟩
      refine ⟨_, rfl, _, rfl, _, rfl, T', TH, i, k, ps, d, ts, by show [V.ref T', V.ref TH, V.int (0 + (i : Int))] = _; rw [Int.zero_add], s3.sqt hT2, hm2.same s3, hk, p0, hl, s3.sqt hH2, by omega, fun H5 s5 => ?_⟩
      exact hN _ _ rfl s5
    rw [rep_fmF] at hD
    walk_at "w"
    refine ⟨_, rfl, SqL.of hD, ?_⟩
    rw [rep_any]
    exact ⟨_, rfl, kk _ ((s1.trans s2).trans s3)⟩
theorem ok_shows_rise {P : Program} {w : World} {K : PySem.W.Frag} {mg : Str → Option Value} {base : Heap} {φ : Fds} (T : Txt K mg φ) : FnOk P w K mg base CX0 5 (He.fAd K ("shows_rise", none)) φ.shows_rise p_shows_rise (sp_shows K (He.ga K "Measure")) := by
  obtain ⟨_, B0v, B0⟩ := b_is_tuple_of_2 T
  obtain ⟨_, B1v, B1⟩ := b_is_numbering_3 T
  obtain ⟨_, B2v, B2⟩ := b_is_kept_2 T
  refine T.f_shows_rise.ok sc_shows_rise (fun vs H Q E h => ?_) (fun cdv A outer s H vs Q E hr h => ?_)
  · obtain ⟨T', X, k, ps, d, ts, c, TK, TH, rfl, hT, hm, hk, p0, hl, t, kk⟩ := h; rfl
  · obtain ⟨T', X, k, ps, d, ts, c, TK, TH, rfl, hT, hm, hk, p0, hl, t, kk⟩ := h
    refine ⟨_, PSs.nox (pss_cons (ps_if (pt_not (pt_val (pe_call (ok_is_tuple_of (K := K) T) (hr.mono (by decide)) rfl T.g_is_tuple_of T.f_is_tuple_of.kp B0 B0v pass0 (pa_cons (pv 1) (pa_cons pe_int pa_nil)))))
      (pss_one (ps_ret pe_bl))
      pss_nil)
      (pss_cons (ps_asg (pv 1) (pg_tup rfl (pgs_cons (pg_name (i := 2) sc_shows_rise.nd rfl (Or.inl rfl)) (pgs_cons (pg_name (i := 3) sc_shows_rise.nd rfl (Or.inl rfl)) pgs_nil))))
      (pss_one (ps_ret (pe_and (pe_call (ok_is_kept (K := K) T) (hr.mono (by decide)) rfl T.g_is_kept T.f_is_kept.kp B2 B2v pass0 (pa_cons (pv 0) (pa_cons (pv 2) pa_nil))) (pe_one (pe_call (ok_is_numbering (K := K) T) (hr.mono (by decide)) rfl T.g_is_numbering T.f_is_numbering.kp B1 B1v pass0 (pa_cons (pv 0) (pa_cons (pv 3) (pa_cons (pe_callB (id := "len") (lenS (K := K)) (by rfl) T.z_len PySem.boot_len (pa_cons (pv 2) pa_nil)) pa_nil)))))))))), ?_⟩
    have hX := t.ob
    have hK := t.hk
    have hH := t.ht
    have lc := t.le hl
    have ln : (nv c).length = c.length := nv_len _
    walk_at "w"
    refine ⟨ts, c, rfl, hT, hm, hk, p0, hl, SqT.of hK, t.ch, t.lt, lc, fun H1 s1 => ?_⟩
    have hK1 := s1 _ _ hK
    walk_at "w"
    refine ⟨ts, rfl, s1.sqt hT, hm.same s1, hk, p0, hl, SqT.of (s1 _ _ hH), (fun a ha => by have := hgt_mem ha; have := t.len; omega), fun H2 s2 => ?_⟩
    exact kk _ (s1.trans s2)
theorem ok_rises_without {P : Program} {w : World} {K : PySem.W.Frag} {mg : Str → Option Value} {base : Heap} {φ : Fds} (T : Txt K mg φ) : FnOk P w K mg base CX0 3 (He.fAd K ("rises_without", none)) φ.rises_without p_rises_without (sp_without K (He.ga K "Measure")) := by
  obtain ⟨_, B0v, B0⟩ := b_slip_of_1 T
  refine T.f_rises_without.ok sc_rises_without (fun vs H Q E h => ?_) (fun cdv A outer s H vs Q E hr h => ?_)
  · obtain ⟨T', k, ps, zs, n, rfl, hT, hm, hk, hl, hn, kk⟩ := h; rfl
  · obtain ⟨T', k, ps, zs, n, rfl, hT, hm, hk, hl, hn, kk⟩ := h
    refine ⟨_, PSs.nox (pss_one (ps_ret (pe_cmpR op_isN (pe_call (ok_slip_of (K := K) T) (hr.mono (by decide)) rfl T.g_slip_of T.f_slip_of.kp B0 B0v pass0 (pa_cons (pe_op (catU (K := K)) (pe_slice (slU (K := K)) (pv 0) po_none (po_some (pv 1))) (pe_slice (slU (K := K)) (pv 0) (po_some (pe_op op_add (pv 1) pe_int)) po_none)) pa_nil)) pe_non (nomark _)))), ?_⟩
    have el : ps.length = zs.length := hm.len
    walk_at "w"
    intro p1 H1 s1 h1
    rw [cutV_take _ (n := n) rfl] at h1
    have hT1 := s1.sqt hT
    walk_at "w"
    intro p2 H2 s2 h2
    rw [cutV_drop _ (n := n + 1) (by omega)] at h2
    have h1' := s2.sqt h1
    refine ⟨p1, p2, _, _, rfl, rfl, h1', h2, szl (by rw [List.length_take, List.length_drop]; omega), fun p3 H3 s3 h3 => ?_⟩
    have sA := (s1.trans s2).trans s3
    refine ⟨p3, k, _, _, rfl, .inr h3, (hm.same sA).cut n, hk, by rw [List.length_append, List.length_take, List.length_drop]; omega, fun o ho => ?_⟩
    refine ⟨rfl, ?_⟩
    rw [slip_none ho]
    exact kk _ sA
theorem ok_singles_of {P : Program} {w : World} {K : PySem.W.Frag} {mg : Str → Option Value} {base : Heap} {φ : Fds} (T : Txt K mg φ) : FnOk P w K mg base CX0 4 (He.fAd K ("singles_of", none)) φ.singles_of p_singles_of (sp_singles K (He.ga K "Measure")) := by
  obtain ⟨_, B0v, B0⟩ := b_rises_without_2 T
  refine T.f_singles_of.ok sc_singles_of (fun vs H Q E h => ?_) (fun cdv A outer s H vs Q E hr h => ?_)
  · obtain ⟨T', k, ps, zs, rfl, hT, hm, hk, hl, kk⟩ := h; rfl
  · obtain ⟨T', k, ps, zs, rfl, hT, hm, hk, hl, kk⟩ := h
    refine ⟨_, PSs.nox (pss_one (ps_ret (pe_callTy (T := "tuple") (tupleL (K := K)) (by rfl) T.z_tuple (by decide +kernel) (pa_cons (pe_lc (own := [("number", 1)]) (g := gName 1) rfl sc_singles_of.nd (pi_range1 rfl T.z_range (pa_cons (pe_callB (id := "len") (lenS (K := K)) (by rfl) T.z_len PySem.boot_len (pa_cons (pv 0) pa_nil)) pa_nil)) (blkOk_by (own := [("number", 1)]) (N := N_singles_of) (sc := (defScope s_singles_of)) (by decide +kernel)) (fun _ _ _ _ _ => (pg_name (i := 1) sc_singles_of.nd rfl (Or.inl rfl))) (fun _ _ _ _ _ => (pts_one (pt_val (pe_call (ok_rises_without (K := K) T) (hr.mono (by decide)) rfl T.g_rises_without T.f_rises_without.kp B0 B0v pass0 (pa_cons (pv 0) (pa_cons (pv 1) pa_nil)))))) (fun _ _ _ _ _ => (pv 1))) pa_nil)))), ?_⟩
    have el : ps.length = zs.length := hm.len
    walk_at "w"
    intro D nD
    have nn : ((ps.length : Nat) : Int).toNat = zs.length := by omega
    refine lcz walk_range (fun _ _ _ _ => trivial) (oIdx _ (fun n => riseB (zs.take n ++ zs.drop (n + 1)))) (oIdx_len _ _) (szs (by omega)) trivial nD (fun i x H1 H2 o N M hi ho s1 y hN hM => ?_) (fun H1 s1 hD => ?_)
    · obtain ⟨rfl, rfl⟩ := y
      have eo := oIdx_get ho
      have hT1 := s1.sqt hT
      have hm1 := hm.same s1
      refine ⟨rfl, ?_⟩
      refine ⟨_, rfl, _, rfl, T', k, ps, zs, i, by show [V.ref T', V.int (0 + (i : Int))] = _; rw [Int.zero_add], hT1, hm1, hk, hl, by omega, fun H3 s3 => ⟨_, rfl, ?_⟩⟩
      refine ite2 (fun e => ?_) (fun e => ?_)
      · refine ⟨_, rfl, hN _ _ ?_ s3⟩
        rw [eo, if_pos e]
        show _ = some (V.int (0 + (i : Int)))
        rw [Int.zero_add]
      · exact hM _ (by rw [eo, if_neg e]) s3
    rw [oIdx_fm, nn] at hD
    walk_at "w"
    intro p2 np2
    exact kk p2 _ (s1.up np2) upd_same
theorem ok_l_rows {P : Program} {w : World} {K : PySem.W.Frag} {mg : Str → Option Value} {base : Heap} {φ : Fds} (T : Txt K mg φ) : FnOk P w K mg base CX0 3 (He.fAd K ("_law_rows", none)) φ.l_rows p_l_rows sp_rows := by
  obtain ⟨_, B0v, B0⟩ := b_l_of_2 T
  obtain ⟨_, B1v, B1⟩ := b_l_take_2 T
  refine T.f_l_rows.ok sc_l_rows (fun vs H Q E h => ?_) (fun cdv A outer s H vs Q E hr h => ?_)
  · obtain ⟨h, n, rfl, hh, hn, k⟩ := h; rfl
  · obtain ⟨h, n, rfl, hh, hn, k⟩ := h
    refine ⟨_, PSs.nox (pss_cons (ps_par (i := 1) (j := 2) rfl sc_l_rows.nd rfl rfl (by decide) rfl rfl (pa_cons (pe_call (ok_l_take (K := K) T) (hr.mono (by decide)) rfl T.g_l_take T.f_l_take.kp B1 B1v pass0 (pa_cons (pv 0) (pa_cons pe_int pa_nil))) (pa_cons (pe_call (ok_l_of (K := K) T) (hr.mono (by decide)) rfl T.g_l_of T.f_l_of.kp B0 B0v pass0 (pa_cons (pv 0) (pa_cons (pe_lst (pa_cons pe_int (pa_cons pe_int (pa_cons pe_int (pa_cons pe_int (pa_cons pe_int pa_nil)))))) pa_nil))) pa_nil)) (by rfl))
      (pss_cons (ps_set (i := 3) sc_l_rows.nd rfl (Or.inl rfl) (pe_call (ok_l_of (K := K) T) (hr.mono (by decide)) rfl T.g_l_of T.f_l_of.kp B0 B0v pass0 (pa_cons (pv 0) (pa_cons (pe_lst (pa_cons pe_int (pa_cons pe_int (pa_cons pe_int (pa_cons pe_int (pa_cons pe_int (pa_cons pe_int (pa_cons pe_int pa_nil)))))))) pa_nil))))
      (pss_cons (ps_par (i := 4) (j := 5) rfl sc_l_rows.nd rfl rfl (by decide) rfl rfl (pa_cons (pe_lst pa_nil) (pa_cons (pe_op op_sub (pe_call (ok_l_take (K := K) T) (hr.mono (by decide)) rfl T.g_l_take T.f_l_take.kp B1 B1v pass0 (pa_cons (pv 0) (pa_cons pe_int pa_nil))) pe_int) pa_nil)) (by rfl))
      (pss_cons (ps_for PassesOwn.never rfl (pi_range1 rfl T.z_range (pa_cons (pv 3) pa_nil)) (pg_name (i := 6) sc_l_rows.nd rfl (Or.inl rfl))
      (pss_cons (ps_expr (pe_bm PySem.F.plainAttrs_list PySem.F.slot_list_append PySem.F.type_list_append mt_append (pv 4) (pa_cons (pe_ix (ixl (K := K)) (pe_lst (pa_cons (pv 5) (pa_cons (pv 5) (pa_cons (pv 5) (pa_cons (pv 5) (pa_cons (pe_call (ok_l_take (K := K) T) (hr.mono (by decide)) rfl T.g_l_take T.f_l_take.kp B1 B1v pass0 (pa_cons (pv 0) (pa_cons pe_int pa_nil))) (pa_cons (pe_op op_sub (pe_call (ok_l_take (K := K) T) (hr.mono (by decide)) rfl T.g_l_take T.f_l_take.kp B1 B1v pass0 (pa_cons (pv 0) (pa_cons pe_int pa_nil))) pe_int) (pa_cons (pe_op op_sub pe_int (pv 5)) pa_nil)))))))) (pv 1) (fun _ _ => rfl)) pa_nil)))
      (pss_one (ps_set (i := 5) sc_l_rows.nd rfl (Or.inl rfl) (pe_op op_add (pe_op op_add (pv 5) pe_int) (pe_call (ok_l_of (K := K) T) (hr.mono (by decide)) rfl T.g_l_of T.f_l_of.kp B0 B0v pass0 (pa_cons (pv 0) (pa_cons (pe_lst (pa_cons pe_int (pa_cons pe_int (pa_cons (pe_call (ok_l_take (K := K) T) (hr.mono (by decide)) rfl T.g_l_take T.f_l_take.kp B1 B1v pass0 (pa_cons (pv 0) (pa_cons (pe_op op_mulA pe_int (pv 2)) pa_nil))) pa_nil)))) pa_nil))))))))
      (pss_cons (ps_par (i := 7) (j := 8) rfl sc_l_rows.nd rfl rfl (by decide) rfl rfl (pa_cons (pe_call (ok_l_take (K := K) T) (hr.mono (by decide)) rfl T.g_l_take T.f_l_take.kp B1 B1v pass0 (pa_cons (pv 0) (pa_cons (pv 3) pa_nil))) (pa_cons (pe_call (ok_l_take (K := K) T) (hr.mono (by decide)) rfl T.g_l_take T.f_l_take.kp B1 B1v pass0 (pa_cons (pv 0) (pa_cons (pv 3) pa_nil))) pa_nil)) (by rfl))
      (pss_cons (ps_cut (ps_if (pt_cmpR op_eq (pv 1) pe_int (nomark _))
      (pss_one (ps_asg (pe_tup (pa_cons (pe_ix (ixl (K := K)) (pv 4) (pv 8) (fun _ _ => rfl)) (pa_cons (pe_ix (ixl (K := K)) (pv 4) (pv 7) (fun _ _ => rfl)) pa_nil))) (pg_tup rfl (pgs_cons (pg_sub (pv 4) (pv 7) set_list) (pgs_cons (pg_sub (pv 4) (pv 8) set_list) pgs_nil)))))
      pss_nil))
      (pss_cons (ps_cut (ps_if (pt_cmpR op_eq (pv 1) pe_int (nomark _))
      (pss_one (ps_expr (pe_bm PySem.F.plainAttrs_list PySem.F.slot_list_insert PySem.F.type_list_insert mt_insert (pv 4) (pa_cons (pv 8) (pa_cons (pe_bm PySem.F.plainAttrs_list PySem.F.slot_list_pop PySem.F.type_list_pop mt_popAt (pv 4) (pa_cons (pv 7) pa_nil)) pa_nil)))))
      pss_nil))
      (pss_cons (ps_cut (ps_if (pt_cmpR op_eq (pv 1) pe_int (nomark _))
      (pss_one (ps_asg (pe_op op_add (pe_ix (ixl (K := K)) (pv 4) (pv 8) (fun _ _ => rfl)) (pe_call (ok_l_of (K := K) T) (hr.mono (by decide)) rfl T.g_l_of T.f_l_of.kp B0 B0v pass0 (pa_cons (pv 0) (pa_cons (pe_lst (pa_cons pe_int (pa_cons pe_int (pa_cons pe_int (pa_cons (pe_un un_neg pe_int) (pa_cons pe_int pa_nil)))))) pa_nil)))) (pg_sub (pv 4) (pv 7) set_list)))
      pss_nil))
      (pss_one (ps_ret (pe_tup (pa_cons (pv 2) (pa_cons (pe_callTy (T := "tuple") (tupleL (K := K)) (by rfl) T.z_tuple (by decide +kernel) (pa_cons (pv 4) pa_nil)) pa_nil))))))))))))), ?_⟩
    walk_at "w"
    intro way H1 w0 w1 hh1 k1
    walk_at "w"
    intro p1 np1
    refine ⟨h, p1, _, _, rfl, hh1.up np1, by omega, SqL.of upd_same, hh1.ne np1, by decide, by decide, fun i1 vp H2 hr1 hh2 k2 => ?_⟩
    have hpa : ∃ part : Int, vp = .int part ∧ 0 < part ∧ part ≤ 10007 := by
      have hm := List.mem_of_getElem? hr1
      simp at hm
      rcases hm with rfl | rfl | rfl | rfl | rfl <;> exact ⟨_, rfl, by decide, by decide⟩
    obtain ⟨part, rfl, pa0, pa1⟩ := hpa
    walk_at "w"
    intro p2 np2
    refine ⟨h, p2, _, _, rfl, hh2.up np2, by omega, SqL.of upd_same, hh2.ne np2, by decide, by decide, fun i2 vm H3 hr2 hh3 k3 => ?_⟩
    have hma : ∃ many : Nat, vm = .int many ∧ 0 < many ∧ many ≤ 24 := by
      have hm := List.mem_of_getElem? hr2
      simp at hm
      rcases hm with rfl | rfl | rfl | rfl | rfl | rfl | rfl
      · exact ⟨1, rfl, by decide, by decide⟩
      · exact ⟨2, rfl, by decide, by decide⟩
      · exact ⟨3, rfl, by decide, by decide⟩
      · exact ⟨4, rfl, by decide, by decide⟩
      · exact ⟨6, rfl, by decide, by decide⟩
      · exact ⟨9, rfl, by decide, by decide⟩
      · exact ⟨24, rfl, by decide, by decide⟩
    obtain ⟨many, rfl, ma0, ma1⟩ := hma
    clear hr1 hr2
    walk_at "w"
    intro l nl
    have kB : Kp h H H3 := ((k1.up np1).trans (k2.up np2)).trans k3
    have kA : Kp h H (upd H3 l (.lst [])) := kB.up nl
    have hhA := hh3.up (u := .lst []) nl
    have nlh := hh3.ne nl
    have nlH : H l = none := kB.fresh nl nlh
    have hlA : upd H3 l (.lst []) l = some (.lst []) := upd_same
    generalize upd H3 l (.lst []) = HA at *
    clear hh hh1 hh2 hh3 k1 k2 k3 np1 np2 nl kB
    walk_at "w"
    intro tp HB t0 t1 hhB kB'
    have hlB := kB' _ _ hlA nlh
    have kB := kA.trans kB'
    clear kB' hhA hlA kA
    walk_at "w"
    refine for_range (fun i σ H' => ∃ (tp : Int) (ts : List Int) (vk : Option V), σ = [some (.ref h), some (.int way), some (.int part), some (.int many), some (.ref l), some (.int tp), vk, none, none] ∧ H' l = some (.lst (ts.map V.int)) ∧ ts.length = i ∧ HandAt H' h (n + 4 + 4 * i) ∧ Kp h H H' ∧
      -4 ≤ tp ∧ tp ≤ 4 + i * 40029 ∧ ∀ t ∈ ts, -1000000 ≤ t ∧ t ≤ 1000000) ?_ ?_ ?_
    · exact ⟨_, [], _, rfl, hlB, rfl, hhB, kB, by omega, by omega, fun m hm => by simp at hm⟩
    · rintro i σ H7 hi ⟨tp, ts, vk, rfl, hl, lts, hh7, k7, b0, b1, bts⟩
      have lm : (ts.map V.int).length = ts.length := List.length_map ..
      walk_at "w"
      intro d5 H8 d50 d51 hh8 k8
      walk_at "w"
      intro d40 H9 d400 d401 hh9 k9
      walk_at "w"
      intro pl npl
      have hat : ∃ e : Int, atI [V.int tp, V.int tp, V.int tp, V.int tp, V.int d5, V.int (d40 - 20), V.int (0 - tp)] way = some (.int e) ∧ -1000000 ≤ e ∧ e ≤ 1000000 := by
        obtain rfl | rfl | rfl | rfl | rfl | rfl | rfl : way = 0 ∨ way = 1 ∨ way = 2 ∨ way = 3 ∨ way = 4 ∨ way = 5 ∨ way = 6 := by omega
        · exact ⟨_, rfl, by omega, by omega⟩
        · exact ⟨_, rfl, by omega, by omega⟩
        · exact ⟨_, rfl, by omega, by omega⟩
        · exact ⟨_, rfl, by omega, by omega⟩
        · exact ⟨_, rfl, by omega, by omega⟩
        · exact ⟨_, rfl, by omega, by omega⟩
        · exact ⟨_, rfl, by omega, by omega⟩
      obtain ⟨e, hat, e0, e1⟩ := hat
      have hl9 := up1 (u := .lst [V.int tp, V.int tp, V.int tp, V.int tp, V.int d5, V.int (d40 - 20), V.int (0 - tp)]) npl (k9 _ _ (k8 _ _ hl nlh) nlh)
      have hh10 := hh9.up (u := .lst [V.int tp, V.int tp, V.int tp, V.int tp, V.int d5, V.int (d40 - 20), V.int (0 - tp)]) npl
      have k10 := ((k7.trans k8).trans k9).up (u := .lst [V.int tp, V.int tp, V.int tp, V.int tp, V.int d5, V.int (d40 - 20), V.int (0 - tp)]) npl
      refine ⟨_, rfl, pl, _, _, _, rfl, rfl, SqL.of upd_same, hat, ?_⟩
      have hh11 := hh10.put (u := .lst (ts.map V.int ++ [V.int e])) nlh
      have k11 := k10.putN (u := .lst (ts.map V.int ++ [V.int e])) nlH
      refine ⟨l, _, _, rfl, rfl, hl9, szs (by omega), ?_⟩
      walk_at "w"
      intro dt H12 dt0 dt1 hh12 k12
      have hl12 := k12 _ _ upd_same nlh
      rw [map_snoc] at hl12
      walk_at "w"
      intro p3 np3
      refine ⟨h, p3, _, _, rfl, hh12.up np3, by omega, SqL.of upd_same, hh12.ne np3, Nat.le_of_ble_eq_true rfl, Nat.le_of_ble_eq_true rfl, fun i3 vx H13 hr3 hh13 k13 => ?_⟩
      have hx : ∃ x : Int, vx = .int x ∧ 0 ≤ x ∧ x ≤ 40028 := by
        have hm := List.mem_of_getElem? hr3
        simp at hm
        rcases hm with rfl | rfl
        · exact ⟨_, rfl, by omega, by omega⟩
        · exact ⟨_, rfl, by omega, by omega⟩
      obtain ⟨x, rfl, x0, x1⟩ := hx
      have hl13 := k13 _ _ (up1 np3 hl12) nlh
      walk_at "w"
      refine ⟨ts ++ [e], _, rfl, hl13, by rw [List.length_append, lts]; rfl, hh13, ((k11.trans k12).up np3).trans k13, by omega, by omega, fun t ht => ?_⟩
      rcases List.mem_append.mp ht with ht | ht
      · exact bts t ht
      · have : t = e := by simpa using ht
        omega
    rintro σ H7 ⟨tp, ts, vk, rfl, hl, lts, hh7, k7, b0, b1, bts⟩
    have lts2 : ts.length = many := by omega
    walk_at "w"
    intro at' H8 at0 at1 hh8 k8
    walk_at "w"
    intro ot H9 ot0 ot1 hh9 k9
    obtain ⟨at', rfl⟩ := Int.eq_ofNat_of_zero_le at0
    obtain ⟨ot, rfl⟩ := Int.eq_ofNat_of_zero_le ot0
    have hl9 := k9 _ _ (k8 _ _ hl nlh) nlh
    have kC := (k7.trans k8).trans k9
    replace hh9 := hh9.mono (show _ ≤ n + 110 by omega)
    clear hh7 hh8 k7 k8 k9 hl lts
    walk_at "w"
    have st0 : RowSt h l many (n + 110) H H9 := ⟨ts, hl9, lts2, hh9, kC, fun t ht => by have := bts t ht; omega⟩
    clear hl9 lts2 hh9 kC bts b0 b1
    refine ⟨fun σ' H' => σ' = [some (.ref h), some (.int way), some (.int part), some (.int many), some (.ref l), some (.int tp), vk, some (.int at'), some (.int ot)] ∧ RowSt h l many (n + 110) H H', ?_, ?_⟩
    · obtain ⟨ts, hl, lts, hh, kC, bts⟩ := st0
      obtain ⟨a, ha⟩ := geI (zs := ts) (n := at') (by omega)
      obtain ⟨b, hb⟩ := geI (zs := ts) (n := ot) (by omega)
      have ba := bts a (List.mem_of_getElem? ha)
      have bb := bts b (List.mem_of_getElem? hb)
      replace ha := mapI ha
      replace hb := mapI hb
      refine ⟨_, rfl, rfl, _, rfl, ?_⟩
      rw [dI]
      refine ite2 (fun e => ?_) (fun e => ?_)
      · walk_at "w"
        intro p np
        have hl2 := up1 (u := .tup [V.int b, V.int a]) np hl
        have hh2 := hh.up (u := .tup [V.int b, V.int a]) np
        have kC2 := kC.up (u := .tup [V.int b, V.int a]) np
        refine ⟨p, _, rfl, SqT.of upd_same, rfl, ?_⟩
        walk_at "w"
        refine ⟨ixN_nat (by rw [List.length_map]; omega), ?_⟩
        have hh3 := hh2.put (u := .lst ((ts.map V.int).set at' (V.int b))) nlh
        have kC3 := kC2.putN (u := .lst ((ts.map V.int).set at' (V.int b))) nlH
        have hl3 : upd (upd H9 p (HO.tup [V.int b, V.int a])) l (.lst ((ts.map V.int).set at' (V.int b))) l = some (.lst ((ts.map V.int).set at' (V.int b))) := upd_same
        walk_at "w"
        refine ⟨ixN_nat (by rw [List.length_set, List.length_map]; omega), ?_⟩
        have hh4 := hh3.put (u := .lst (((ts.map V.int).set at' (V.int b)).set ot (V.int a))) nlh
        have kC4 := kC3.putN (u := .lst (((ts.map V.int).set at' (V.int b)).set ot (V.int a))) nlH
        refine ⟨rfl, rfl, (ts.set at' b).set ot a, ?_, by rw [List.length_set, List.length_set]; exact lts, hh4, kC4, mem_set2 (mem_set2 bts bb) ba⟩
        rw [upd_same, map_set, map_set]
      · exact ⟨rfl, ts, hl, lts, hh, kC, bts⟩
    rintro σ' HC ⟨rfl, st1⟩
    refine ⟨fun σ' H' => σ' = [some (.ref h), some (.int way), some (.int part), some (.int many), some (.ref l), some (.int tp), vk, some (.int at'), some (.int ot)] ∧ RowSt h l many (n + 110) H H', ?_, ?_⟩
    · obtain ⟨ts, hl, lts, hh, kC, bts⟩ := st1
      refine ⟨_, rfl, rfl, _, rfl, ?_⟩
      rw [dI]
      refine ite2 (fun e => ?_) (fun e => ?_)
      · obtain ⟨a, ha⟩ := geI (zs := ts) (n := at') (by omega)
        have ba := bts a (List.mem_of_getElem? ha)
        have hx := six_nat (n := (ts.map V.int).length) (i := at') (by rw [List.length_map]; omega)
        walk_at "w"
        refine ⟨mapI ha, ?_⟩
        refine ⟨l, _, _, _, rfl, rfl, upd_same, szs (by rw [List.length_eraseIdx_of_lt (by rw [List.length_map]; omega), List.length_map]; omega), by omega, by omega, rfl, ts.eraseIdx at' |>.take ot |>.append [a] |>.append ((ts.eraseIdx at').drop ot), ?_, ?_, (hh.put nlh).put nlh, (kC.putN nlH).putN nlH, fun t ht => ?_⟩
        · rw [upd_same]
          show some (HO.lst (((ts.map V.int).eraseIdx at').take ot ++ [V.int a] ++ ((ts.map V.int).eraseIdx at').drop ot)) = some (HO.lst (((ts.eraseIdx at').take ot ++ [a] ++ (ts.eraseIdx at').drop ot).map V.int))
          rw [List.map_append, List.map_append, List.map_take, List.map_drop, er_map]
          rfl
        · show ((ts.eraseIdx at').take ot ++ [a] ++ (ts.eraseIdx at').drop ot).length = many
          have := List.length_eraseIdx_of_lt (l := ts) (i := at') (by omega)
          simp only [List.length_append, List.length_take, List.length_drop, List.length_cons, List.length_nil]
          omega
        · have ht2 : t ∈ (ts.eraseIdx at').take ot ++ [a] ++ (ts.eraseIdx at').drop ot := ht
          rcases List.mem_append.mp ht2 with ht | ht
          · rcases List.mem_append.mp ht with ht | ht
            · exact bts t (List.mem_of_mem_eraseIdx (List.mem_of_mem_take ht))
            · have : t = a := by simpa using ht
              omega
          · exact bts t (List.mem_of_mem_eraseIdx (List.mem_of_mem_drop ht))
      · exact ⟨rfl, ts, hl, lts, hh, kC, bts⟩
    rintro σ' HD ⟨rfl, st2⟩
    refine ⟨fun σ' H' => σ' = [some (.ref h), some (.int way), some (.int part), some (.int many), some (.ref l), some (.int tp), vk, some (.int at'), some (.int ot)] ∧ RowSt2 h l many (n + 120) H H', ?_, ?_⟩
    · obtain ⟨ts, hl, lts, hh, kC, bts⟩ := st2
      obtain ⟨a, ha⟩ := geI (zs := ts) (n := ot) (by omega)
      have ba := bts a (List.mem_of_getElem? ha)
      replace ha := mapI ha
      refine ⟨_, rfl, rfl, _, rfl, ?_⟩
      rw [dI]
      refine ite2 (fun e => ?_) (fun e => ?_)
      · walk_at "w"
        intro p3 np3
        refine ⟨h, p3, _, _, rfl, hh.up np3, by omega, SqL.of upd_same, hh.ne np3, by decide, by decide, fun i3 vx H13 hr3 hh13 k13 => ?_⟩
        have hx : ∃ x : Int, vx = .int x ∧ -1 ≤ x ∧ x ≤ 99 := by
          have hm := List.mem_of_getElem? hr3
          simp at hm
          rcases hm with rfl | rfl | rfl | rfl | rfl <;> exact ⟨_, rfl, by decide, by decide⟩
        obtain ⟨x, rfl, x0, x1⟩ := hx
        have hl13 := k13 _ _ (up1 np3 hl) nlh
        have kC3 := (kC.up np3).trans k13
        walk_at "w"
        refine ⟨ixN_nat (by rw [List.length_map]; omega), ?_⟩
        refine ⟨rfl, ts.set at' (a + x), ?_, by rw [List.length_set]; exact lts, (hh13.put nlh).mono (by omega), kC3.putN nlH, mem_set2 (fun t ht => by have := bts t ht; omega) (by omega)⟩
        rw [upd_same]
        show some (HO.lst ((ts.map V.int).set at' (V.int (a + x)))) = _
        rw [map_set]
      · exact ⟨rfl, ts, hl, lts, hh.mono (by omega), kC, fun t ht => by have := bts t ht; omega⟩
    rintro σ' HE ⟨rfl, ts, hl, lts, hh, kC, bts⟩
    walk_at "w"
    intro T2 nT2
    walk_at "w"
    intro p9 np9
    exact k p9 part ts _ ⟨⟨T2, upd_same, up1 np9 upd_same⟩, pa0, pa1, by omega, by omega, fun t ht => by have := bts t ht; omega⟩ ((hh.up nT2).up np9) ((kC.up nT2).up np9)
theorem ok_l_made {P : Program} {w : World} {K : PySem.W.Frag} {mg : Str → Option Value} {base : Heap} {φ : Fds} (T : Txt K mg φ) : FnOk P w K mg base CX0 4 (He.fAd K ("_law_made", none)) φ.l_made p_l_made (sp_rmade (He.ga K "Measure")) := by
  obtain ⟨_, B0v, B0⟩ := b_Measure_init_3 T
  refine T.f_l_made.ok sc_l_made (fun vs H Q E h => ?_) (fun cdv A outer s H vs Q E hr h => ?_)
  · obtain ⟨p, part, ts, rfl, hR, k⟩ := h; rfl
  · obtain ⟨p, part, ts, rfl, hR, k⟩ := h
    refine ⟨_, PSs.nox (pss_one (ps_ret (pe_callTy (T := "tuple") (tupleL (K := K)) (by rfl) T.z_tuple (by decide +kernel) (pa_cons (pe_lc (own := [("_law_top", 1)]) (g := gName 1) rfl sc_l_made.nd (pi_tup (pe_ix (ixt (K := K)) (pv 0) pe_int (fun _ _ => rfl))) (blkOk_by (own := [("_law_top", 1)]) (N := N_l_made) (sc := (defScope s_l_made)) (by decide +kernel)) (fun _ _ _ _ _ => (pg_name (i := 1) sc_l_made.nd rfl (Or.inl rfl))) (fun _ _ _ _ _ => pts_nil) (fun _ _ _ _ _ => (pe_make T.mk_Measure (ok_Measure_init (K := K) T) (hr.mono (by decide)) rfl T.g_Measure B0 B0v pass0 (pa_cons (pv 1) (pa_cons (pe_ix (ixt (K := K)) (pv 0) pe_int (fun _ _ => rfl)) pa_nil))))) pa_nil)))), ?_⟩
    obtain ⟨⟨T', hp, hT⟩, p0, p1, l0, l1, bn⟩ := hR
    have lm : (ts.map V.int).length = ts.length := List.length_map ..
    walk_at "w"
    intro D nD
    refine lcr (n := (ts.map V.int).length) walk_tup (fun _ _ g s => s.sqt g) (fun i H v => ∃ q m, v = .ref q ∧ ts[i]? = some m ∧ QAt (He.ga K "Measure") H q 40 (m, part)) (fun i H H' y ⟨q, m, e1, e2, e3⟩ n => ⟨q, m, e1, e2, e3.nl n⟩) (szs (by omega)) (SqT.of hT) nD (fun i x H1 H2 N M hi s1 y hN => ?_) (fun H1 ys s1 hD ly hy => ?_)
    · obtain ⟨rfl, hx⟩ := y
      obtain ⟨m, hm⟩ := geI (zs := ts) (n := i) (by omega)
      rw [mapI hm] at hx
      cases hx
      have bm := bn m (List.mem_of_getElem? hm)
      have hp1 := s1 _ _ hp
      refine ⟨rfl, yesT ?_⟩
      walk_at "w"
      refine q_made (k := 40) p0 ?_ ?_ (by decide) (by decide) fun q H3 s3 R => hN _ _ s3 ⟨q, m, rfl, hm, R⟩
      · show m.natAbs < 2 ^ 40
        omega
      · show part.natAbs < 2 ^ 40
        omega
    walk_at "w"
    intro T2 nT2
    refine k T2 ys _ (s1.up nT2) upd_same ⟨by rw [zq_len]; omega, fun i v z h1 h2 => ?_⟩
    obtain ⟨q, m, e1, e2, e3⟩ := hy i v h1
    obtain ⟨m', e4, rfl⟩ := zq_get h2
    rw [e2] at e4
    cases e4
    exact ⟨q, e1, e3.same (same1 nT2)⟩
theorem ok_l_longest {P : Program} {w : World} {K : PySem.W.Frag} {mg : Str → Option Value} {base : Heap} {φ : Fds} (T : Txt K mg φ) : FnOk P w K mg base CX0 1 (He.fAd K ("_law_longest", none)) φ.l_longest p_l_longest (sp_longest K) := by
  refine T.f_l_longest.ok sc_l_longest (fun vs H Q E h => ?_) (fun cdv A outer s H vs Q E hr h => ?_)
  · obtain ⟨T', ts, rfl, hT, l0, hl, kk⟩ := h; rfl
  · obtain ⟨T', ts, rfl, hT, l0, hl, kk⟩ := h
    refine ⟨_, PSs.nox (pss_cons (ps_set (i := 1) sc_l_longest.nd rfl (Or.inl rfl) (pe_lst pa_nil))
      (pss_cons (ps_for PassesOwn.never rfl (pi_revR (by rfl) T.z_reversed (prg_1 (by rfl) T.z_range (pe_callB (id := "len") (lenS (K := K)) (by rfl) T.z_len PySem.boot_len (pa_cons (pv 0) pa_nil)))) (pg_name (i := 2) sc_l_longest.nd rfl (Or.inr rfl))
      (pss_cons (ps_setLc (i := 3) (own := [("_law_long", 4), ("_law_k", 5)]) (g := gTup K 2 (gCons (gName 4) (gCons (gName 5) (gNil)))) rfl sc_l_longest.nd rfl rfl (sw_true rfl rfl rfl (by decide +kernel)) (pi_list (pv 1)) (blkOk_by (own := [("_law_long", 4), ("_law_k", 5)]) (N := N_l_longest) (sc := (defScope s_l_longest)) (by decide +kernel)) (fun _ _ _ _ _ => (pg_tup rfl (pgs_cons (pg_name (i := 4) sc_l_longest.nd rfl (Or.inl rfl)) (pgs_cons (pg_name (i := 5) sc_l_longest.nd rfl (Or.inl rfl)) pgs_nil)))) (fun _ _ _ _ _ => (pts_one (pt_cmpR op_gt (pe_ix (ixt (K := K)) (pv 0) (pv 5) (fun _ _ => rfl)) (pe_ix (ixt (K := K)) (pv 0) (pv 2) (fun _ _ => rfl)) (nomark _)))) (fun _ _ _ _ _ => (pv 4)))
      (pss_one (ps_expr (pe_bm PySem.F.plainAttrs_list PySem.F.slot_list_append PySem.F.type_list_append mt_append (pv 1) (pa_cons (pe_tup (pa_cons (pe_op op_add pe_int (pe_callBK (id := "max") (maxDf (K := K) hr) (by rfl) T.z_max (by decide +kernel) (pa_cons (pv 3) pa_nil) (pk_cons pe_int pk_nil))) (pa_cons (pv 2) pa_nil))) pa_nil))))))
      (pss_one (ps_ret (pe_callB (id := "max") (maxL (K := K)) (by rfl) T.z_max (by decide +kernel) (pa_cons (pe_lc (own := [("_law_long", 4), ("_law_k", 5)]) (g := gTup K 2 (gCons (gName 4) (gCons (gName 5) (gNil)))) rfl sc_l_longest.nd (pi_list (pv 1)) (blkOk_by (own := [("_law_long", 4), ("_law_k", 5)]) (N := N_l_longest) (sc := (defScope s_l_longest)) (by decide +kernel)) (fun _ _ _ _ _ => (pg_tup rfl (pgs_cons (pg_name (i := 4) sc_l_longest.nd rfl (Or.inl rfl)) (pgs_cons (pg_name (i := 5) sc_l_longest.nd rfl (Or.inl rfl)) pgs_nil)))) (fun _ _ _ _ _ => pts_nil) (fun _ _ _ _ _ => (pv 4))) pa_nil)))))), ?_⟩
    have lm : (ts.map V.int).length = ts.length := List.length_map ..
    walk_at "w"
    intro D nD
    have s0 : Same H (upd H D (.lst [])) := same1 nD
    have hD0 : upd H D (.lst []) D = some (.lst []) := upd_same
    generalize upd H D (.lst []) = H0 at *
    have hT0 := s0.sqt hT
    walk_at "w"
    refine for_rangeC (fun i σ H' => (∃ v1 v2 v3 v4, σ = [some (.ref T'), some (.ref D), v1, v2, v3, v4]) ∧ Same H H' ∧ ∃ (f : Nat → Nat) (us : List V), LongF ts ts.length (ts.length - i) f ∧ us.length = i ∧ H' D = some (.lst us) ∧ (∀ (j : Nat) (v : V), us[j]? = some v → ∃ t, v = .ref t ∧ H' t = some (.tup [.int (f (ts.length - 1 - j) : Int), .int ((ts.length - 1 - j : Nat) : Int)])) ∧ ∀ k, k < ts.length → f k ≤ 24 + i) ⟨⟨_, _, _, _, rfl⟩, s0, fun _ => 0, [], (fun k h1 h2 => by omega), rfl, hD0, (fun j v h => by simp at h), fun k _ => Nat.zero_le _⟩ ?_ ?_
    · rintro i σ H1 hi ⟨⟨v1, v2, v3, v4, rfl⟩, s1, f, us, lf0, lu, hD, hu, fb⟩
      have hi : i < ts.length := by omega
      have hT1 := s1.sqt hT
      have en : (0 : Int) + (((((ts.map V.int).length : Nat) : Int) - 0).toNat : Int) - 1 + (i : Int) * (-1) = ((ts.length - 1 - i : Nat) : Int) := by rw [lm]; omega
      rw [en]
      obtain ⟨y, hy⟩ := geI (zs := ts) (n := ts.length - 1 - i) (by omega)
      have hya := atI_of (n := ts.length - 1 - i) (z := ((ts.length - 1 - i : Nat) : Int)) rfl (mapI hy)
      walk_at "w"
      intro D2 nD2
      refine lcz (n := us.length) (walk_list (xs := us)) (fun _ _ g s => s.seq g) ((List.range i).map fun j => if lti ts (ts.length - 1 - i) (ts.length - 1 - j) then some (V.int (f (ts.length - 1 - j) : Int)) else none) (by rw [List.length_map, List.length_range]; omega) (szs (by omega)) (SqL.of hD) nD2 (fun j x H2 H3 z N M ha ez s2 yy hN hM => ?_) (fun H2 s2 hD2 => ?_)
      · obtain ⟨rfl, hx⟩ := yy
        have ha : j < i := by omega
        rw [List.getElem?_map, List.getElem?_range ha] at ez
        replace ez : (if lti ts (ts.length - 1 - i) (ts.length - 1 - j) then some (V.int (f (ts.length - 1 - j) : Int)) else none) = z := Option.some.inj ez
        obtain ⟨t, rfl, ht⟩ := hu j x hx
        have ht2 := s2 _ _ ht
        have hT2 := s2.sqt hT1
        obtain ⟨x, hx2⟩ := geI (zs := ts) (n := ts.length - 1 - j) (by omega)
        have hxa := atI_of (n := ts.length - 1 - j) (z := ((ts.length - 1 - j : Nat) : Int)) rfl (mapI hx2)
        walk_at "w"
        rw [lti_get hy hx2] at ez
        have ec : ∀ b : Bool, b = decide (y < x) → True := fun _ _ => trivial
        by_cases c : y < x
        · rw [decide_eq_true c, if_pos rfl] at ez
          rw [decide_eq_true c]
          refine iteT ?_
          walk_at "w"
          exact hN _ _ ez.symm (Same.refl _)
        · rw [decide_eq_false c, if_neg Bool.false_ne_true] at ez
          rw [decide_eq_false c]
          exact iteF (hM _ ez.symm (Same.refl _))
      rw [beh_fm] at hD2
      have hD2i : H2 D2 = some (.lst (((behF ts ts.length i (ts.length - 1 - i) f).map fun n : Nat => (n : Int)).map V.int)) := by rw [← nv_ints]; exact hD2
      have s12 := s1.trans s2
      have hDD := s2 _ _ hD
      have st := long_step hi lf0
      have lb : mxN (behF ts ts.length i (ts.length - 1 - i) f) ≤ 24 + i := by
        by_cases q : behF ts ts.length i (ts.length - 1 - i) f = []
        · rw [q]; exact Nat.zero_le _
        · obtain ⟨j, j1, j2⟩ := List.mem_map.mp (mxN_mem q)
          have j2 : f (ts.length - 1 - j) = mxN (behF ts ts.length i (ts.length - 1 - i) f) := j2
          have j3 := List.mem_range.mp (List.mem_filter.mp j1).1
          have := fb (ts.length - 1 - j) (by omega)
          omega
      have fin : ∀ (t : Addr), H2 t = none → Same H (upd (upd H2 t (.tup [.int (1 + (mxN (behF ts ts.length i (ts.length - 1 - i) f) : Int)), .int ((ts.length - 1 - i : Nat) : Int)])) D (.lst (us ++ [.ref t]))) ∧ ∃ (f' : Nat → Nat) (us' : List V), LongF ts ts.length (ts.length - (i + 1)) f' ∧ us'.length = i + 1 ∧ upd (upd H2 t (.tup [.int (1 + (mxN (behF ts ts.length i (ts.length - 1 - i) f) : Int)), .int ((ts.length - 1 - i : Nat) : Int)])) D (.lst (us ++ [.ref t])) D = some (.lst us') ∧ (∀ (j : Nat) (v : V), us'[j]? = some v → ∃ t', v = .ref t' ∧ upd (upd H2 t (.tup [.int (1 + (mxN (behF ts ts.length i (ts.length - 1 - i) f) : Int)), .int ((ts.length - 1 - i : Nat) : Int)])) D (.lst (us ++ [.ref t])) t' = some (.tup [.int (f' (ts.length - 1 - j) : Int), .int ((ts.length - 1 - j : Nat) : Int)])) ∧ ∀ k, k < ts.length → f' k ≤ 24 + (i + 1) := fun t nt => by
        have hDt := up1 (u := .tup [.int (1 + (mxN (behF ts ts.length i (ts.length - 1 - i) f) : Int)), .int ((ts.length - 1 - i : Nat) : Int)]) nt hDD
        refine ⟨fun c o e => by rw [upd_ne (ne_of_none e nD)]; exact up1 nt (s12 _ _ e), _, us ++ [.ref t], st, by rw [List.length_append, lu]; rfl, upd_same, fun j v e => ?_, fun k hk => ?_⟩
        · by_cases q : j < us.length
          · rw [List.getElem?_append_left q] at e
            obtain ⟨t', e1, e2⟩ := hu j v e
            refine ⟨t', e1, up2 hDt (up1 nt (s2 _ _ ?_)) rfl⟩
            simp only [if_neg (show ¬ ts.length - 1 - j = ts.length - 1 - i by omega)]
            exact e2
          · have lj := (List.getElem?_eq_some_iff.mp e).1
            rw [List.length_append, List.length_singleton] at lj
            have : j = i := by omega
            subst this
            rw [List.getElem?_append_right (by omega), show j - us.length = 0 by omega] at e
            cases e
            refine ⟨t, rfl, up2 hDt ?_ rfl⟩
            rw [upd_same]
            simp
        · show (if k = ts.length - 1 - i then _ else _) ≤ _
          split
          · omega
          · have := fb k hk; omega
      walk_at "w"
      refine ⟨_, _, rfl, rfl, SqL.of hD2i, fun e => ?_, fun m h1 h2 => ?_⟩
      · have e0 : mxN (behF ts ts.length i (ts.length - 1 - i) f) = 0 := by
          have := congrArg List.length e
          rw [List.length_map] at this
          have e2 : behF ts ts.length i (ts.length - 1 - i) f = [] := List.eq_nil_of_length_eq_zero this
          rw [e2]; rfl
        rw [e0] at fin
        walk_at "w"
        intro t nt
        have hDt := up1 (u := .tup [.int (1 + 0), .int ((ts.length - 1 - i : Nat) : Int)]) nt hDD
        walk_at "w"
        exact ⟨⟨_, _, _, _, rfl⟩, fin t nt⟩
      · have e0 : m = (mxN (behF ts ts.length i (ts.length - 1 - i) f) : Int) := mxN_int h1 h2
        subst e0
        walk_at "w"
        intro t nt
        have hDt := up1 (u := .tup [.int (1 + (mxN (behF ts ts.length i (ts.length - 1 - i) f) : Int)), .int ((ts.length - 1 - i : Nat) : Int)]) nt hDD
        walk_at "w"
        exact ⟨⟨_, _, _, _, rfl⟩, fin t nt⟩
    · rintro σ H1 ⟨⟨v1, v2, v3, v4, rfl⟩, s1, f, us, lf0, lu, hD, hu, fb⟩
      have lu : us.length = ts.length := by omega
      rw [show ts.length - (((((ts.map V.int).length : Nat) : Int) - 0).toNat) = 0 by rw [lm]; omega] at lf0
      walk_at "w"
      intro D2 nD2
      refine lcz (n := us.length) (walk_list (xs := us)) (fun _ _ g s => s.seq g) ((List.range ts.length).map fun j => some (V.int (f (ts.length - 1 - j) : Int))) (by rw [List.length_map, List.length_range]; omega) (szs (by omega)) (SqL.of hD) nD2 (fun j x H2 H3 z N M ha ez s2 yy hN hM => ?_) (fun H2 s2 hD2 => ?_)
      · obtain ⟨rfl, hx⟩ := yy
        rw [List.getElem?_map, List.getElem?_range (by omega)] at ez
        replace ez : some (V.int (f (ts.length - 1 - j) : Int)) = z := Option.some.inj ez
        obtain ⟨t, rfl, ht⟩ := hu j x hx
        have ht2 := s2 _ _ ht
        walk_at "w"
        exact hN _ _ ez.symm (Same.refl _)
      obtain ⟨c, ch, lt, le⟩ := chain_ex ts l0
      obtain ⟨up, k, hk, ek⟩ := long_max l0 lf0 ch lt le
      have e2 : ((List.range ts.length).map fun j => some (V.int (f (ts.length - 1 - j) : Int))).filterMap _root_.id = ((List.range ts.length).map fun j => (f (ts.length - 1 - j) : Int)).map V.int := by
        generalize List.range ts.length = l
        induction l with
        | nil => rfl
        | cons a l ih => rw [List.map_cons, List.filterMap_cons, List.map_cons, List.map_cons, ← ih]; rfl
      rw [e2] at hD2
      walk_at "w"
      refine ⟨_, rfl, SqL.of hD2, by rw [List.length_map, List.length_range]; exact l0, fun m h1 h2 => ?_⟩
      have em : m = ((hgM ts ts.length + 1 : Nat) : Int) := by
        obtain ⟨j, j1, j2⟩ := List.mem_map.mp h1
        have j1 := List.mem_range.mp j1
        have a := up (ts.length - 1 - j) (by omega)
        have b := h2 _ (List.mem_map.mpr ⟨ts.length - 1 - k, List.mem_range.mpr (by omega), rfl⟩)
        rw [show ts.length - 1 - (ts.length - 1 - k) = k by omega] at b
        omega
      rw [em]
      exact kk _ (s1.trans s2)
theorem ok_l_is_whole {P : Program} {w : World} {K : PySem.W.Frag} {mg : Str → Option Value} {base : Heap} {φ : Fds} (T : Txt K mg φ) : FnOk P w K mg base CX0 1 (He.fAd K ("_law_is_whole", none)) φ.l_is_whole p_l_is_whole sp_liw := by
  refine T.f_l_is_whole.ok sc_l_is_whole (fun vs H Q E h => ?_) (fun cdv A outer s H vs Q E hr h => ?_)
  · obtain ⟨z, m, rfl, h0, h1, kk⟩ := h; rfl
  · obtain ⟨z, m, rfl, h0, h1, kk⟩ := h
    refine ⟨_, PSs.nox (pss_one (ps_ret (pe_and (pe_callB (id := "isinstance") (isi (K := K)) (by rfl) T.z_isinstance (by decide +kernel) (pa_cons (pv 0) (pa_cons (pe_bltn (v := .ty "int") rfl T.z_int (by decide +kernel) rfl) pa_nil))) (pe_and (pe_not (pe_callB (id := "isinstance") (isi (K := K)) (by rfl) T.z_isinstance (by decide +kernel) (pa_cons (pv 0) (pa_cons (pe_bltn (v := .ty "bool") rfl T.z_bool (by decide +kernel) rfl) pa_nil)))) (pe_one (pe_chain op_le op_lt pe_int (pv 0) (pv 1))))))), ?_⟩
    refine ⟨_, rfl, _, _, _, _, _, rfl, .ty _, .base (.int _), kit_ty (r := true) (by decide +kernel), _, rfl, iteT ?_⟩
    refine ⟨_, rfl, _, _, _, _, _, rfl, .ty _, .base (.int _), kit_ty (r := false) (by decide +kernel), _, rfl, ?_⟩
    walk_at "w"
    show Q (V.bl (decide (z < m))) H
    rw [decide_eq_true h1]
    exact kk
theorem ok_l_told {P : Program} {w : World} {K : PySem.W.Frag} {mg : Str → Option Value} {base : Heap} {φ : Fds} (T : Txt K mg φ) : FnOk P w K mg base CX0 2 (He.fAd K ("_law_told", none)) φ.l_told p_l_told (sp_ltold K) := by
  obtain ⟨_, B0v, B0⟩ := b_l_is_whole_2 T
  obtain ⟨_, B1v, B1⟩ := b_l_longest_1 T
  refine T.f_l_told.ok sc_l_told (fun vs H Q E h => ?_) (fun cdv A outer s H vs Q E hr h => ?_)
  · obtain ⟨T', X, ts, c, TK, TH, rfl, hT, l0, hl, t, kk⟩ := h; rfl
  · obtain ⟨T', X, ts, c, TK, TH, rfl, hT, l0, hl, t, kk⟩ := h
    refine ⟨_, PSs.nox (pss_cons (ps_cut (ps_if (PW.pt (pw_or (pt_not (pt_val (pe_callB (id := "isinstance") (isi (K := K)) (by rfl) T.z_isinstance (by decide +kernel) (pa_cons (pv 1) (pa_cons (pe_bltn (v := .ty "tuple") rfl T.z_tuple (by decide +kernel) rfl) pa_nil))))) (pw_or (pt_cmpR op_ne (pe_callB (id := "len") (lenS (K := K)) (by rfl) T.z_len PySem.boot_len (pa_cons (pv 1) pa_nil)) pe_int (nomark _)) (pw_or1 (pt_not (pt_val (pe_callB (id := "isinstance") (isi (K := K)) (by rfl) T.z_isinstance (by decide +kernel) (pa_cons (pe_ix (ixt (K := K)) (pv 1) pe_int (fun _ _ => rfl)) (pa_cons (pe_bltn (v := .ty "tuple") rfl T.z_tuple (by decide +kernel) rfl) pa_nil)))))))))
      (pss_one (ps_ret pe_bl))
      pss_nil))
      (pss_cons (ps_cut (ps_asg (pv 1) (pg_tup rfl (pgs_cons (pg_name (i := 2) sc_l_told.nd rfl (Or.inr rfl)) (pgs_cons (pg_name (i := 3) sc_l_told.nd rfl (Or.inr rfl)) pgs_nil)))))
      (pss_cons (ps_cut (ps_if (PW.pt (pw_or (pt_cmpR op_ne (pe_callB (id := "len") (lenS (K := K)) (by rfl) T.z_len PySem.boot_len (pa_cons (pv 2) pa_nil)) (pe_call (ok_l_longest (K := K) T) (hr.mono (by decide)) rfl T.g_l_longest T.f_l_longest.kp B1 B1v pass0 (pa_cons (pv 0) pa_nil)) (nomark _)) (pw_or1 (pt_not (pt_val (pe_callB (id := "all") (allK (K := K)) (by rfl) T.z_all (by decide +kernel) (pa_cons (pe_lc (own := [("_law_one", 6)]) (g := gName 6) rfl sc_l_told.nd (pi_tup (pv 2)) (blkOk_by (own := [("_law_one", 6)]) (N := N_l_told) (sc := (defScope s_l_told)) (by decide +kernel)) (fun _ _ _ _ _ => (pg_name (i := 6) sc_l_told.nd rfl (Or.inl rfl))) (fun _ _ _ _ _ => pts_nil) (fun _ _ _ _ _ => (pe_call (ok_l_is_whole (K := K) T) (hr.mono (by decide)) rfl T.g_l_is_whole T.f_l_is_whole.kp B0 B0v pass0 (pa_cons (pv 6) (pa_cons (pe_callB (id := "len") (lenS (K := K)) (by rfl) T.z_len PySem.boot_len (pa_cons (pv 0) pa_nil)) pa_nil))))) pa_nil)))))))
      (pss_one (ps_ret pe_bl))
      pss_nil))
      (pss_cons (ps_cut (ps_if (pt_val (pe_callB (id := "any") (anyK (K := K)) (by rfl) T.z_any (by decide +kernel) (pa_cons (pe_lc (own := [("_law_one", 6), ("_law_other", 7)]) (g := gTup K 2 (gCons (gName 6) (gCons (gName 7) (gNil)))) rfl sc_l_told.nd (RZ.pi_zipA (by rfl) T.z_zip (pa_cons (pv 2) (pa_cons (pe_slice (slU (K := K)) (pv 2) (po_some pe_int) po_none) pa_nil))) (blkOk_by (own := [("_law_one", 6), ("_law_other", 7)]) (N := N_l_told) (sc := (defScope s_l_told)) (by decide +kernel)) (fun _ _ _ _ _ => (pg_tup rfl (pgs_cons (pg_name (i := 6) sc_l_told.nd rfl (Or.inl rfl)) (pgs_cons (pg_name (i := 7) sc_l_told.nd rfl (Or.inl rfl)) pgs_nil)))) (fun _ _ _ _ _ => pts_nil) (fun _ _ _ _ _ => (pe_or (pe_cmpR op_ge (pv 6) (pv 7) (nomark _)) (pe_one (pe_cmpR op_ge (pe_ix (ixt (K := K)) (pv 0) (pv 6) (fun _ _ => rfl)) (pe_ix (ixt (K := K)) (pv 0) (pv 7) (fun _ _ => rfl)) (nomark _)))))) pa_nil)))
      (pss_one (ps_ret pe_bl))
      pss_nil))
      (pss_cons (ps_cut (ps_if (PW.pt (pw_or (pt_not (pt_val (pe_callB (id := "isinstance") (isi (K := K)) (by rfl) T.z_isinstance (by decide +kernel) (pa_cons (pv 3) (pa_cons (pe_bltn (v := .ty "tuple") rfl T.z_tuple (by decide +kernel) rfl) pa_nil))))) (pw_or1 (pt_cmpR op_ne (pe_callB (id := "len") (lenS (K := K)) (by rfl) T.z_len PySem.boot_len (pa_cons (pv 3) pa_nil)) (pe_callB (id := "len") (lenS (K := K)) (by rfl) T.z_len PySem.boot_len (pa_cons (pv 0) pa_nil)) (nomark _)))))
      (pss_one (ps_ret pe_bl))
      pss_nil))
      (pss_cons (ps_cut (ps_if (pt_not (pt_val (pe_callB (id := "all") (allK (K := K)) (by rfl) T.z_all (by decide +kernel) (pa_cons (pe_lc (own := [("_law_number", 5)]) (g := gName 5) rfl sc_l_told.nd (pi_tup (pv 3)) (blkOk_by (own := [("_law_number", 5)]) (N := N_l_told) (sc := (defScope s_l_told)) (by decide +kernel)) (fun _ _ _ _ _ => (pg_name (i := 5) sc_l_told.nd rfl (Or.inl rfl))) (fun _ _ _ _ _ => pts_nil) (fun _ _ _ _ _ => (pe_call (ok_l_is_whole (K := K) T) (hr.mono (by decide)) rfl T.g_l_is_whole T.f_l_is_whole.kp B0 B0v pass0 (pa_cons (pv 5) (pa_cons (pe_callB (id := "len") (lenS (K := K)) (by rfl) T.z_len PySem.boot_len (pa_cons (pv 2) pa_nil)) pa_nil))))) pa_nil))))
      (pss_one (ps_ret pe_bl))
      pss_nil))
      (pss_cons (ps_cut (ps_for PassesOwn.never rfl (pi_enumT (by rfl) T.z_enumerate (pa_cons (pv 3) pa_nil)) (pg_tup rfl (pgs_cons (pg_name (i := 4) sc_l_told.nd rfl (Or.inr rfl)) (pgs_cons (pg_name (i := 5) sc_l_told.nd rfl (Or.inr rfl)) pgs_nil)))
      (pss_one (ps_if (pt_val (pe_callB (id := "any") (anyK (K := K)) (by rfl) T.z_any (by decide +kernel) (pa_cons (pe_lc (own := [("_law_k", 8)]) (g := gName 8) rfl sc_l_told.nd (pi_range1 rfl T.z_range (pa_cons (pv 4) pa_nil)) (blkOk_by (own := [("_law_k", 8)]) (N := N_l_told) (sc := (defScope s_l_told)) (by decide +kernel)) (fun _ _ _ _ _ => (pg_name (i := 8) sc_l_told.nd rfl (Or.inl rfl))) (fun _ _ _ _ _ => pts_nil) (fun _ _ _ _ _ => (pe_and (pe_cmpR op_eq (pe_ix (ixt (K := K)) (pv 3) (pv 8) (fun _ _ => rfl)) (pv 5) (nomark _)) (pe_one (pe_cmpR op_lt (pe_ix (ixt (K := K)) (pv 0) (pv 8) (fun _ _ => rfl)) (pe_ix (ixt (K := K)) (pv 0) (pv 4) (fun _ _ => rfl)) (nomark _)))))) pa_nil)))
      (pss_one (ps_ret pe_bl))
      pss_nil))))
      (pss_one (ps_ret pe_bl))))))))), ?_⟩
    have lm : (ts.map V.int).length = ts.length := List.length_map ..
    have lc := t.le hl
    have lk : (nv c).length = c.length := nv_len _
    have lh : (nv (hgt ts ts.length)).length = ts.length := by rw [nv_len, hgt_len]
    have hgl := hgM_bnd ts l0
    have tlen := t.len
    
    obtain ⟨J, eJ⟩ : ∃ J : L2.St → Hp → Prop, J = (fun σ' H' => σ' = [some (.ref T'), some (.ref X), none, none, none, none, none, none, none] ∧ Same H H') := ⟨_, rfl⟩
    refine ⟨J, ?_, ?_⟩
    · have hX := t.ob
      have hK := SqT.of (K := K) t.hk
      refine ⟨_, rfl, _, _, _, _, _, rfl, .ty _, tyTup (SqT.of hX), kit_ty (r := true) (by decide +kernel), ?_⟩
    
      walk_at "w"
      refine ⟨_, _, _, rfl, .ty _, tyTup hK, kit_ty (r := true) (by decide +kernel), ?_⟩
      walk_at "w"
      subst eJ
      exact ⟨rfl, Same.refl _⟩
    subst eJ
    rintro σ' H1 ⟨rfl, s1⟩
    obtain ⟨J, eJ⟩ : ∃ J : L2.St → Hp → Prop, J = (fun σ' H' => σ' = [some (.ref T'), some (.ref X), some (.ref TK), some (.ref TH), none, none, none, none, none] ∧ Same H H') := ⟨_, rfl⟩
    refine ⟨J, ?_, ?_⟩
    · have hX := s1 _ _ t.ob
      walk_at "w"
      subst eJ
      exact ⟨rfl, s1⟩
    subst eJ
    rintro σ' H2 ⟨rfl, s2⟩
    obtain ⟨J, eJ⟩ : ∃ J : L2.St → Hp → Prop, J = (fun σ' H' => σ' = [some (.ref T'), some (.ref X), some (.ref TK), some (.ref TH), none, none, none, none, none] ∧ Same H H') := ⟨_, rfl⟩
    refine ⟨J, ?_, ?_⟩
    · have hT2 := s2.sqt hT
      have hK2 := s2 _ _ t.hk
      walk_at "w"
      refine ⟨ts, rfl, hT2, l0, hl, fun H3 s3 => ?_⟩
      rw [lk, tlen]
      walk_at "w"
      rw [decide_eq_true rfl]
      walk_at "w"
      have hT3 := s3.sqt hT2
      have hK3 := s3 _ _ hK2
      refine ⟨⟨_, SqT.of hK3⟩, fun D nD => ?_⟩
      refine lcz (n := (nv c).length) walk_tup (fun _ _ g s => s.sqt g) (List.replicate _ (some (V.bl true))) List.length_replicate (szs (by omega)) (SqT.of hK3) nD (fun i x H4 H5 z N M hi hz s4 y hN hM => ?_) (fun H4 s4 hD => ?_)
      · obtain ⟨rfl, hx⟩ := y
        have hc : c[i]? = some c[i] := List.getElem?_eq_getElem (by omega)
        have la := t.lt _ (List.mem_of_getElem? hc)
        rw [nv_get hc] at hx
        cases hx
        rw [List.getElem?_replicate, if_pos hi] at hz
        cases hz
        generalize c[i] = a at *
        have hT4 := s4.sqt hT3
        refine ⟨rfl, yesT ?_⟩
        walk_at "w"
        exact hN _ _ rfl (Same.refl _)
      rw [rep_fm] at hD
      walk_at "w"
      refine ⟨_, rfl, SqL.of hD, ?_⟩
      rw [rep_all]
      walk_at "w"
      subst eJ
      exact ⟨rfl, (s2.trans s3).trans s4⟩
    subst eJ
    rintro σ' H3 ⟨rfl, s3⟩
    obtain ⟨J, eJ⟩ : ∃ J : L2.St → Hp → Prop, J = (fun σ' H' => σ' = [some (.ref T'), some (.ref X), some (.ref TK), some (.ref TH), none, none, none, none, none] ∧ Same H H') := ⟨_, rfl⟩
    refine ⟨J, ?_, ?_⟩
    · have hT3 := s3.sqt hT
      have hK3 := s3 _ _ t.hk
      walk_at "w"
      intro q1 H5 s5 h1
      rw [cutV_tail] at h1
      have hK5 := SqT.of (K := K) (s5 _ _ hK3)
      have hT5 := s5.sqt hT3
      have ld : ((nv c).drop 1).length = c.length - 1 := by rw [List.length_drop, lk]
      refine ⟨TK, q1, _, _, rfl, .inr ⟨hK5, h1, fun D nD => ?_⟩⟩
      refine lcz (n := c.length - 1) (walk_zipT (xs := nv c) (ys := (nv c).drop 1) (by omega)) (fun _ _ g s => ⟨s.sqt g.1, s.sqt g.2⟩) (List.replicate _ (some (V.bl false))) List.length_replicate (szs (by omega)) ⟨hK5, h1⟩ nD (fun i x H6 H7 z N M hi hz s6 y hN hM => ?_) (fun H6 s6 hD => ?_)
      · obtain ⟨t', a, b, rfl, nt, rfl, ha, hb⟩ := y
        have hx : c[i]? = some c[i] := List.getElem?_eq_getElem (by omega)
        have hy : c[i + 1]? = some c[i + 1] := List.getElem?_eq_getElem (by omega)
        replace ha : (nv c)[i]? = some a := ha
        replace hb : ((nv c).drop 1)[i]? = some b := hb
        rw [nv_get hx] at ha
        rw [List.getElem?_drop, Nat.add_comm, nv_get hy] at hb
        cases ha; cases hb
        rw [List.getElem?_replicate, if_pos hi] at hz
        cases hz
        obtain ⟨c1, c2⟩ := t.ch i _ _ hx hy
        have l1 := t.lt _ (List.mem_of_getElem? hx)
        have l2 := t.lt _ (List.mem_of_getElem? hy)
        generalize c[i] = p at *
        generalize c[i + 1] = r at *
        obtain ⟨x, hx2⟩ := geI (zs := ts) (n := p) l1
        obtain ⟨y, hy2⟩ := geI (zs := ts) (n := r) l2
        rw [lti_get hx2 hy2] at c2
        have c2 := of_decide_eq_true c2
        have hT7 := (s6.trans (same1 (u := .tup [.int (p : Int), .int (r : Int)]) nt)).sqt hT5
        have a1 := atI_of (n := p) (z := ((p : Nat) : Int)) rfl (mapI hx2)
        have a2 := atI_of (n := r) (z := ((r : Nat) : Int)) rfl (mapI hy2)
        refine ⟨t', _, rfl, SqT.of upd_same, rfl, ?_⟩
        walk_at "w"
        refine hN _ _ ?_ (same1 nt)
        show some (V.bl false) = some (V.bl (decide (y ≤ x)))
        rw [decide_eq_false (by omega)]
      rw [rep_fmF] at hD
      walk_at "w"
      refine ⟨_, rfl, SqL.of hD, ?_⟩
      rw [rep_any]
      walk_at "w"
      subst eJ
      exact ⟨rfl, (s3.trans s5).trans s6⟩
    subst eJ
    rintro σ' H4 ⟨rfl, s4⟩
    obtain ⟨J, eJ⟩ : ∃ J : L2.St → Hp → Prop, J = (fun σ' H' => σ' = [some (.ref T'), some (.ref X), some (.ref TK), some (.ref TH), none, none, none, none, none] ∧ Same H H') := ⟨_, rfl⟩
    refine ⟨J, ?_, ?_⟩
    · have hT4 := s4.sqt hT
      have hH4 := s4 _ _ t.ht
      refine ⟨_, rfl, _, _, _, _, _, rfl, .ty _, tyTup (SqT.of hH4), kit_ty (r := true) (by decide +kernel), ?_⟩
    
      walk_at "w"
      rw [lh, lm, decide_eq_true rfl]
      walk_at "w"
      subst eJ
      exact ⟨rfl, s4⟩
    subst eJ
    rintro σ' H5 ⟨rfl, s5⟩
    obtain ⟨J, eJ⟩ : ∃ J : L2.St → Hp → Prop, J = (fun σ' H' => σ' = [some (.ref T'), some (.ref X), some (.ref TK), some (.ref TH), none, none, none, none, none] ∧ Same H H') := ⟨_, rfl⟩
    refine ⟨J, ?_, ?_⟩
    · have hK5 := s5 _ _ t.hk
      have hH5 := s5 _ _ t.ht
      walk_at "w"
      intro D nD
      refine lcz (n := (nv (hgt ts ts.length)).length) walk_tup (fun _ _ g s => s.sqt g) (List.replicate _ (some (V.bl true))) List.length_replicate (szs (by omega)) (SqT.of hH5) nD (fun i x H1 H2 z N M hi hz s1 y hN hM => ?_) (fun H6 s6 hD => ?_)
      · obtain ⟨rfl, hx⟩ := y
        rw [nv_hgt (ts := ts) (n := ts.length) (i := i) (by omega)] at hx
        cases hx
        rw [List.getElem?_replicate, if_pos hi] at hz
        cases hz
        have hb := hm_le ts (show i < ts.length by omega)
        have hK6 := s1 _ _ hK5
        refine ⟨rfl, yesT ?_⟩
        walk_at "w"
        exact hN _ _ rfl (Same.refl _)
      rw [rep_fm] at hD
      walk_at "w"
      refine ⟨_, rfl, SqL.of hD, ?_⟩
      rw [rep_all]
      walk_at "w"
      subst eJ
      exact ⟨rfl, s5.trans s6⟩
    subst eJ
    rintro σ' H6 ⟨rfl, s6⟩
    obtain ⟨J, eJ⟩ : ∃ J : L2.St → Hp → Prop, J = (fun σ' H' => (∃ v3 v4 v5 : Option V, σ' = [some (.ref T'), some (.ref X), some (.ref TK), some (.ref TH), v5, v3, none, none, v4]) ∧ Same H H') := ⟨_, rfl⟩
    refine ⟨J, ?_, ?_⟩
    · have hH6 := s6 _ _ t.ht
      walk_at "w"
      refine for_it (walk_enumT (K := K) (a := TH) (xs := nv (hgt ts ts.length))) (fun i σ H' => (∃ v3 v4 v5 : Option V, σ = [some (.ref T'), some (.ref X), some (.ref TK), some (.ref TH), v5, v3, none, none, v4]) ∧ Same H6 H') ⟨⟨_, _, _, rfl⟩, Same.refl _⟩ (fun i σ H' _ q => q.2.sqt (SqT.of hH6)) ?_ ?_
      · rintro i x σ H1 H2 hi ⟨⟨v3, v4, v5, rfl⟩, s1⟩ y
        obtain ⟨q, a, b, rfl, nq, rfl, ha, hb⟩ := y
        walk_at "w"
        refine ⟨SqT.of upd_same, rfl, ?_⟩
        cases ha
        have hi2 : i < ts.length := by omega
        replace hb : (nv (hgt ts ts.length))[i]? = some b := hb
        rw [nv_hgt hi2] at hb
        cases hb
        have sq : Same H1 (upd H1 q (.tup [.int (i : Int), .int (hgN ts i : Int)])) := same1 nq
        generalize upd H1 q (.tup [.int (i : Int), .int (hgN ts i : Int)]) = H2 at *
        have s12 := (s6.trans s1).trans sq
        have hT2 := s12.sqt hT
        have hH2 := (s1.trans sq) _ _ hH6
        walk_at "w"
        intro D nD
        refine lcz walk_range (fun _ _ _ _ => trivial) (List.replicate _ (some (V.bl false))) List.length_replicate (szs (by omega)) trivial nD (fun j x H3 H4 z N M hj hz s3 y hN hM => ?_) (fun H3 s3 hD => ?_)
        · obtain ⟨rfl, rfl⟩ := y
          rw [List.getElem?_replicate, if_pos hj] at hz
          cases hz
          have hj : j < i := by omega
          obtain ⟨x, hx⟩ := geI (zs := ts) (n := j) (by omega)
          obtain ⟨y, hy⟩ := geI (zs := ts) (n := i) hi2
          have hT3 := s3.sqt hT2
          have hH3 := s3 _ _ hH2
          have a1 := atI_of (n := j) (z := (0 : Int) + (j : Int)) (by omega) (mapI hx)
          have a2 := atI_of (n := i) (z := ((i : Nat) : Int)) rfl (mapI hy)
          have b1 := atI_of (n := j) (z := (0 : Int) + (j : Int)) (by omega) (nv_hgt (ts := ts) (n := ts.length) (i := j) (by omega))
          have key := rioF (ts := ts) hj
          rw [lti_get hx hy] at key
          refine ⟨rfl, yesT ?_⟩
          walk_at "w"
          rw [dI]
          cases e : decide ((hgN ts j : Int) = (hgN ts i : Int)) with
          | false =>
            refine iteF ?_
            exact hN _ _ rfl (Same.refl _)
          | true =>
            rw [e, Bool.true_and] at key
            refine iteT ?_
            walk_at "w"
            refine hN _ _ ?_ (Same.refl _)
            show some (V.bl false) = some (V.bl (decide (x < y)))
            rw [key]
        rw [rep_fmF] at hD
        walk_at "w"
        refine ⟨_, rfl, SqL.of hD, ?_⟩
        rw [rep_any]
        walk_at "w"
        exact ⟨⟨_, _, _, rfl⟩, (s1.trans sq).trans s3⟩
      · rintro σ H1 ⟨⟨v3, v4, v5, rfl⟩, s1⟩
        subst eJ
        exact ⟨⟨_, _, _, rfl⟩, s6.trans s1⟩
    subst eJ
    rintro σ' H7 ⟨⟨v3, v4, v5, rfl⟩, s7⟩
    walk_at "w"
    exact kk _ s7
theorem ok_law {P : Program} {w : World} {K : PySem.W.Frag} {mg : Str → Option Value} {base : Heap} {φ : Fds} (T : Txt K mg φ) : FnOk P w K mg base CX0 6 (He.fAd K ("law", none)) φ.law p_law (sp_law K) := by
  obtain ⟨_, B0v, B0⟩ := b_l_rows_1 T
  obtain ⟨_, B1v, B1⟩ := b_l_hand_2 T
  obtain ⟨_, B2v, B2⟩ := b_l_made_1 T
  obtain ⟨_, B3v, B3⟩ := b_rise_of_1 T
  obtain ⟨_, B4v, B4⟩ := b_shows_rise_2 T
  obtain ⟨_, B5v, B5⟩ := b_l_told_2 T
  obtain ⟨_, B6⟩ := b_rise_of_0_rows T
  obtain ⟨_, B7⟩ := b_shows_rise_0_thing_rows T
  obtain ⟨_, B8v, B8⟩ := b_slip_of_1 T
  obtain ⟨_, B9v, B9⟩ := b_singles_of_1 T
  refine T.f_law.ok sc_law (fun vs H Q E h => ?_) (fun cdv A outer s H vs Q E hr h => ?_)
  · obtain ⟨a, ns, rfl, hS, hlen, kk⟩ := h; rfl
  · obtain ⟨a, ns, rfl, hS, hlen, kk⟩ := h
    refine ⟨_, PSs.nox (pss_cons (ps_for PassesOwn.never rfl (pi_range1 rfl T.z_range (pa_cons (pe_callB (id := "max") (call_max2 rfl) (by rfl) T.z_max (by decide +kernel) (pa_cons pe_int (pa_cons (pe_callB (id := "min") (call_min2 rfl) (by rfl) T.z_min (by decide +kernel) (pa_cons pe_int (pa_cons (pe_callB (id := "len") (lenS (K := K)) (by rfl) T.z_len PySem.boot_len (pa_cons (pv 0) pa_nil)) pa_nil))) pa_nil))) pa_nil)) (pg_name (i := 1) sc_law.nd rfl (Or.inl rfl))
      (pss_cons (ps_cut (ps_set (i := 2) sc_law.nd rfl (Or.inl rfl) (pe_call (ok_l_rows (K := K) T) (hr.mono (by decide)) rfl T.g_l_rows T.f_l_rows.kp B0 B0v pass0 (pa_cons (pe_call (ok_l_hand (K := K) T) (hr.mono (by decide)) rfl T.g_l_hand T.f_l_hand.kp B1 B1v pass0 (pa_cons (pv 0) (pa_cons (pv 1) pa_nil))) pa_nil))))
      (pss_cons (ps_cut (ps_asg (pe_tup (pa_cons (pe_call (ok_l_made (K := K) T) (hr.mono (by decide)) rfl T.g_l_made T.f_l_made.kp B2 B2v pass0 (pa_cons (pv 2) pa_nil)) (pa_cons (pe_ix (ixt (K := K)) (pv 2) pe_int (fun _ _ => rfl)) pa_nil))) (pg_tup rfl (pgs_cons (pg_name (i := 3) sc_law.nd rfl (Or.inr rfl)) (pgs_cons (pg_name (i := 4) sc_law.nd rfl (Or.inr rfl)) pgs_nil)))))
      (pss_cons (ps_cut (ps_set (i := 5) sc_law.nd rfl (Or.inl rfl) (pe_call (ok_rise_of (K := K) T) (hr.mono (by decide)) rfl T.g_rise_of T.f_rise_of.kp B3 B3v pass0 (pa_cons (pv 3) pa_nil))))
      (pss_cons (ps_cut (ps_if (PW.pt (pw_or (pt_not (pt_val (pe_call (ok_l_told (K := K) T) (hr.mono (by decide)) rfl T.g_l_told T.f_l_told.kp B5 B5v pass0 (pa_cons (pv 4) (pa_cons (pv 5) pa_nil))))) (pw_or1 (pt_cmpR op_notBl (pe_call (ok_shows_rise (K := K) T) (hr.mono (by decide)) rfl T.g_shows_rise T.f_shows_rise.kp B4 B4v pass0 (pa_cons (pv 3) (pa_cons (pv 5) pa_nil))) pe_bl (nomark _)))))
      (pss_one (ps_ret pe_bl))
      pss_nil))
      (pss_cons (ps_cut (ps_if (PW.pt (pw_or (pt_cmpR op_notBl (pe_callK0 (ok_shows_rise (K := K) T) (hr.mono (by decide)) rfl T.g_shows_rise T.f_shows_rise.kp B7 pass0 (pk_cons (pv 5) (pk_cons (pv 3) pk_nil))) pe_bl (nomark _)) (pw_or1 (pt_not (pt_val (pe_call (ok_l_told (K := K) T) (hr.mono (by decide)) rfl T.g_l_told T.f_l_told.kp B5 B5v pass0 (pa_cons (pv 4) (pa_cons (pe_callK0 (ok_rise_of (K := K) T) (hr.mono (by decide)) rfl T.g_rise_of T.f_rise_of.kp B6 pass0 (pk_cons (pv 3) pk_nil)) pa_nil))))))))
      (pss_one (ps_ret pe_bl))
      pss_nil))
      (pss_cons (ps_cut (ps_set (i := 6) sc_law.nd rfl (Or.inl rfl) (pe_op op_sub (pe_callB (id := "len") (lenS (K := K)) (by rfl) T.z_len PySem.boot_len (pa_cons (pv 4) pa_nil)) (pe_callB (id := "len") (lenS (K := K)) (by rfl) T.z_len PySem.boot_len (pa_cons (pe_ix (ixt (K := K)) (pv 5) pe_int (fun _ _ => rfl)) pa_nil)))))
      (pss_cons (ps_cut (ps_if (pt_cmpR op_ne (pe_cmpR op_eq (pv 6) pe_int (nomark _)) (pe_cmpR op_isN (pe_call (ok_slip_of (K := K) T) (hr.mono (by decide)) rfl T.g_slip_of T.f_slip_of.kp B8 B8v pass0 (pa_cons (pv 3) pa_nil)) pe_non (nomark _)) (nomark _))
      (pss_one (ps_ret pe_bl))
      pss_nil))
      (pss_cons (ps_cut (ps_set (i := 7) sc_law.nd rfl (Or.inl rfl) (pe_call (ok_singles_of (K := K) T) (hr.mono (by decide)) rfl T.g_singles_of T.f_singles_of.kp B9 B9v pass0 (pa_cons (pv 3) pa_nil))))
      (pss_cons (ps_cut (ps_if (pt_cmpR op_ne (pe_cmpR op_le (pv 6) pe_int (nomark _)) (pe_cmpR (neDK (K := K) hr.units) (pv 7) (pe_tup pa_nil) (nomark _)) (nomark _))
      (pss_one (ps_ret pe_bl))
      pss_nil))
      (pss_one (ps_cut (ps_if (pt_not (pt_val (pe_callB (id := "all") (allK (K := K)) (by rfl) T.z_all (by decide +kernel) (pa_cons (pe_lc (own := [("_law_at", 8)]) (g := gName 8) rfl sc_law.nd (pi_tup (pv 7)) (blkOk_by (own := [("_law_at", 8)]) (N := N_law) (sc := (defScope s_law)) (by decide +kernel)) (fun _ _ _ _ _ => (pg_name (i := 8) sc_law.nd rfl (Or.inl rfl))) (fun _ _ _ _ _ => (pts_one (pt_cmpR op_gt (pe_callB (id := "len") (lenS (K := K)) (by rfl) T.z_len PySem.boot_len (pa_cons (pv 4) pa_nil)) pe_int (nomark _)))) (fun _ _ _ _ _ => (pe_cmpR op_isN (pe_call (ok_slip_of (K := K) T) (hr.mono (by decide)) rfl T.g_slip_of T.f_slip_of.kp B8 B8v pass0 (pa_cons (pe_op (catU (K := K)) (pe_slice (slU (K := K)) (pv 3) po_none (po_some (pv 8))) (pe_slice (slU (K := K)) (pv 3) (po_some (pe_op op_add (pv 8) pe_int)) po_none)) pa_nil)) pe_non (nomark _)))) pa_nil))))
      (pss_one (ps_ret pe_bl))
      pss_nil)))))))))))))
      (pss_one (ps_ret pe_bl))), ?_⟩
    walk_at "w"
    refine for_range (fun i σ H' => (∃ v1 v2 v3 v4 v5 v6 v7, σ = [some (.ref a), v1, v2, v3, v4, v5, v6, v7, none]) ∧ Same H H') ⟨⟨_, _, _, _, _, _, _, rfl⟩, Same.refl _⟩ ?_ ?_
    · rintro i σ H1 hi ⟨⟨v1, v2, v3, v4, v5, v6, v7, rfl⟩, s1⟩
      have hi4 : i < 4 := by
        refine Nat.lt_of_lt_of_le hi ?_
        split <;> split <;> omega
      clear hi
      obtain ⟨J, eJ⟩ : ∃ J : L2.St → Hp → Prop, J = (fun σ' H' => ∃ (p : Addr) (part : Int) (ts : List Int), σ' = [some (.ref a), some (.int (0 + (i : Int))), some (.ref p), v3, v4, v5, v6, v7, none] ∧ RowsL H' p part ts ∧ Same H1 H') := ⟨_, rfl⟩
      refine ⟨J, ?_, ?_⟩
      · walk_at "w"
        refine ⟨ns, i, by show [V.ref a, V.int (0 + (i : Int))] = _; rw [Int.zero_add], s1.seq hS, by omega, fun h H3 nh s3 hh => ?_⟩
        refine ⟨h, 0, rfl, hh, by decide, fun p part ts H4 hR hh4 k4 => ?_⟩
        have s4 : Same H1 H4 := s3.ofKp nh k4
        walk_at "w"
        subst eJ
        exact ⟨p, part, ts, rfl, hR, s4⟩
      subst eJ
      rintro σ' H2 ⟨p, part, ts, rfl, hR, s2⟩
      obtain ⟨J, eJ⟩ : ∃ J : L2.St → Hp → Prop, J = (fun σ' H' => ∃ (T2 T' : Addr) (ys : List V), σ' = [some (.ref a), some (.int (0 + (i : Int))), some (.ref p), some (.ref T2), some (.ref T'), v5, v6, v7, none] ∧ G23 (He.ga K "Measure") H' T2 T' ys part ts ∧ Same H1 H') := ⟨_, rfl⟩
      refine ⟨J, ?_, ?_⟩
      · obtain ⟨⟨T', hp, hT⟩, p0, p1, l0, l1, bn⟩ := id hR
        walk_at "w"
        refine ⟨ts, rfl, hR, fun T2 ys H4 s4 hM mk => ?_⟩
        have hp4 := s4 _ _ hp
        have hT4 := s4 _ _ hT
        walk_at "w"
        intro q nq
        have hq := upd_same (H := H4) (a := q) (o := .tup [.ref T2, .ref T'])
        have s5 : Same H4 (upd H4 q (.tup [.ref T2, .ref T'])) := same1 nq
        generalize upd H4 q (.tup [.ref T2, .ref T']) = H5 at *
        walk_at "w"
        subst eJ
        exact ⟨T2, T', ys, rfl, (G23.mk hM mk hT4 p0 l0 l1).same s5, s2.trans (s4.trans s5)⟩
      subst eJ
      rintro σ' H3 ⟨T2, T', ys, rfl, G, s3⟩
      obtain ⟨J, eJ⟩ : ∃ J : L2.St → Hp → Prop, J = (fun σ' H' => ∃ (X : Addr) (c : List Nat) (TK TH : Addr), σ' = [some (.ref a), some (.int (0 + (i : Int))), some (.ref p), some (.ref T2), some (.ref T'), some (.ref X), v6, v7, none] ∧ G23 (He.ga K "Measure") H' T2 T' ys part ts ∧ Told23 H' X ts c TK TH ∧ Same H1 H') := ⟨_, rfl⟩
      refine ⟨J, ?_, ?_⟩
      · have hM := G.hM
        walk_at "w"
        refine ⟨ts, rfl, SqT.of hM, G.mks, by decide, G.p0, G.l0, G.l1, fun X c TK TH H4 s4 t => ?_⟩
        walk_at "w"
        subst eJ
        exact ⟨X, c, TK, TH, rfl, G.same s4, t, s3.trans s4⟩
      subst eJ
      rintro σ' H4 ⟨X, c, TK, TH, rfl, G, t, s4⟩
      obtain ⟨J, eJ⟩ : ∃ J : L2.St → Hp → Prop, J = (fun σ' H' => σ' = [some (.ref a), some (.int (0 + (i : Int))), some (.ref p), some (.ref T2), some (.ref T'), some (.ref X), v6, v7, none] ∧ G23 (He.ga K "Measure") H' T2 T' ys part ts ∧ Told23 H' X ts c TK TH ∧ Same H1 H') := ⟨_, rfl⟩
      refine ⟨J, ?_, ?_⟩
      · walk_at "w"
        refine ⟨ts, c, TK, TH, rfl, SqT.of G.hT, G.l0, G.l1, t, fun H5 s5 => ?_⟩
        have G5 := G.same s5
        have t5 := t.same s5
        walk_at "w"
        refine ⟨ts, c, TK, TH, rfl, SqT.of G5.hM, G5.mks, by decide, G5.p0, G5.l1, t5, fun H6 s6 => ?_⟩
        walk_at "w"
        subst eJ
        exact ⟨rfl, G5.same s6, t5.same s6, s4.trans (s5.trans s6)⟩
      subst eJ
      rintro σ' H5 ⟨rfl, G, t, s5⟩
      obtain ⟨J, eJ⟩ : ∃ J : L2.St → Hp → Prop, J = (fun σ' H' => σ' = [some (.ref a), some (.int (0 + (i : Int))), some (.ref p), some (.ref T2), some (.ref T'), some (.ref X), v6, v7, none] ∧ G23 (He.ga K "Measure") H' T2 T' ys part ts ∧ Told23 H' X ts c TK TH ∧ Same H1 H') := ⟨_, rfl⟩
      refine ⟨J, ?_, ?_⟩
      · walk_at "w"
        refine ⟨ts, c, TK, TH, rfl, SqT.of G.hM, G.mks, by decide, G.p0, G.l1, t, fun H6 s6 => ?_⟩
        have G6 := G.same s6
        walk_at "w"
        refine ⟨ts, rfl, SqT.of G6.hM, G6.mks, by decide, G6.p0, G6.l0, G6.l1, fun X2 c2 TK2 TH2 H7 s7 t2 => ?_⟩
        have G7 := G6.same s7
        walk_at "w"
        refine ⟨ts, c2, TK2, TH2, rfl, SqT.of G7.hT, G7.l0, G7.l1, t2, fun H8 s8 => ?_⟩
        walk_at "w"
        have sA := (s6.trans s7).trans s8
        subst eJ
        exact ⟨rfl, G.same sA, t.same sA, s5.trans sA⟩
      subst eJ
      rintro σ' H6 ⟨rfl, G, t, s6⟩
      obtain ⟨J, eJ⟩ : ∃ J : L2.St → Hp → Prop, J = (fun σ' H' => σ' = [some (.ref a), some (.int (0 + (i : Int))), some (.ref p), some (.ref T2), some (.ref T'), some (.ref X), some (.int ((ts.length : Int) - (c.length : Int))), v7, none] ∧ G23 (He.ga K "Measure") H' T2 T' ys part ts ∧ Told23 H' X ts c TK TH ∧ Same H1 H') := ⟨_, rfl⟩
      refine ⟨J, ?_, ?_⟩
      · have hX := t.ob
        have hK := t.hk
        have hT := G.hT
        have lm : (ts.map V.int).length = ts.length := List.length_map ..
        have lk : (nv c).length = c.length := nv_len _
        walk_at "w"
        rw [lm, lk]
        subst eJ
        exact ⟨rfl, G, t, s6⟩
      subst eJ
      rintro σ' H7 ⟨rfl, G, t, s7⟩
      obtain ⟨J, eJ⟩ : ∃ J : L2.St → Hp → Prop, J = (fun σ' H' => σ' = [some (.ref a), some (.int (0 + (i : Int))), some (.ref p), some (.ref T2), some (.ref T'), some (.ref X), some (.int ((ts.length : Int) - (c.length : Int))), v7, none] ∧ G23 (He.ga K "Measure") H' T2 T' ys part ts ∧ Told23 H' X ts c TK TH ∧ Same H1 H') := ⟨_, rfl⟩
      refine ⟨J, ?_, ?_⟩
      · have l1 := G.l1
        have z0 := less0 t.ch t.lt t.len G.l0
        have zl : (zq part ts).length = ts.length := zq_len _ _
        walk_at "w"
        refine ⟨_, rfl, .inr (SqT.of G.hM), G.mks, by decide, by omega, fun o ho => ?_⟩
        have key : decide (V.int ((ts.length : Int) - (c.length : Int)) = V.int 0) = decide (optI o = V.non) := by
          rw [slip_none ho, dI]
          by_cases r : RiseI ts
          · rw [(riseb_zq G.p0 ts).mpr r]
            exact decide_eq_true (by have := z0.mpr r; omega)
          · rw [riseb_f G.p0 r]
            exact decide_eq_false fun q => r (z0.mp (by omega))
        walk_at "w"
        rw [key, decide_eq_true rfl]
        walk_at "w"
        subst eJ
        exact ⟨rfl, G, t, s7⟩
      subst eJ
      rintro σ' H8 ⟨rfl, G, t, s8⟩
      obtain ⟨J, eJ⟩ : ∃ J : L2.St → Hp → Prop, J = (fun σ' H' => ∃ (S : Addr), σ' = [some (.ref a), some (.int (0 + (i : Int))), some (.ref p), some (.ref T2), some (.ref T'), some (.ref X), some (.int ((ts.length : Int) - (c.length : Int))), some (.ref S), none] ∧ H' S = some (.tup ((idx (zq part ts).length fun n => riseB ((zq part ts).take n ++ (zq part ts).drop (n + 1))).map V.int)) ∧ G23 (He.ga K "Measure") H' T2 T' ys part ts ∧ Told23 H' X ts c TK TH ∧ Same H1 H') := ⟨_, rfl⟩
      refine ⟨J, ?_, ?_⟩
      · have l1 := G.l1
        have zl : (zq part ts).length = ts.length := zq_len _ _
        walk_at "w"
        refine ⟨_, rfl, SqT.of G.hM, G.mks, by decide, by omega, fun S H9 s9 hS => ?_⟩
        walk_at "w"
        subst eJ
        exact ⟨S, rfl, hS, G.same s9, t.same s9, s8.trans s9⟩
      subst eJ
      rintro σ' H9 ⟨S, rfl, hS9, G, t, s9⟩
      obtain ⟨J, eJ⟩ : ∃ J : L2.St → Hp → Prop, J = (fun σ' H' => σ' = [some (.ref a), some (.int (0 + (i : Int))), some (.ref p), some (.ref T2), some (.ref T'), some (.ref X), some (.int ((ts.length : Int) - (c.length : Int))), some (.ref S), none] ∧ H' S = some (.tup ((idx (zq part ts).length fun n => riseB ((zq part ts).take n ++ (zq part ts).drop (n + 1))).map V.int)) ∧ G23 (He.ga K "Measure") H' T2 T' ys part ts ∧ Told23 H' X ts c TK TH ∧ Same H1 H') := ⟨_, rfl⟩
      refine ⟨J, ?_, ?_⟩
      · have z1 := less1 t.ch t.lt t.len G.l0
        have zl : (zq part ts).length = ts.length := zq_len _ _
        walk_at "w"
        intro q nq
        have hq := upd_same (H := H9) (a := q) (o := .tup [])
        have sq : Same H9 (upd H9 q (.tup [])) := same1 nq
        generalize upd H9 q (.tup []) = HQ at *
        have key : decide ((ts.length : Int) - (c.length : Int) ≤ 1) = !decide ((idx (zq part ts).length fun n => riseB ((zq part ts).take n ++ (zq part ts).drop (n + 1))) = []) := by
          by_cases r : ts.length ≤ c.length + 1
          · obtain ⟨m, m1, m2⟩ := z1.mp r
            rw [decide_eq_true (by omega), decide_eq_false]
            · rfl
            · intro e
              have := idx_iff.mp e m (by omega)
              rw [zq_rm, (riseb_zq G.p0 _).mpr m2] at this
              cases this
          · rw [decide_eq_false (by omega), decide_eq_true]
            · rfl
            · refine idx_iff.mpr fun i hi => ?_
              rw [zq_rm]
              exact riseb_f G.p0 fun z => r (z1.mpr ⟨i, by omega, z⟩)
        refine ⟨_, _, dpT (sq _ _ hS9), dpT (zs := []) hq, shInts _, shInts _, ?_⟩
        rw [eqv_intsD]
        walk_at "w"
        have kv : (fun (i j : Int) => V.bl (decide (i ≤ j))) ((ts.length : Int) - (c.length : Int)) 1 = V.bl (!decide ((idx (zq part ts).length fun n => riseB ((zq part ts).take n ++ (zq part ts).drop (n + 1))) = [])) := congrArg V.bl key
        rw [decide_eq_true kv]
        walk_at "w"
        subst eJ
        exact ⟨rfl, sq _ _ hS9, G.same sq, t.same sq, s9.trans sq⟩
      subst eJ
      rintro σ' HA ⟨rfl, hS9, G, t, sA⟩
      obtain ⟨J, eJ⟩ : ∃ J : L2.St → Hp → Prop, J = (fun σ' H' => σ' = [some (.ref a), some (.int (0 + (i : Int))), some (.ref p), some (.ref T2), some (.ref T'), some (.ref X), some (.int ((ts.length : Int) - (c.length : Int))), some (.ref S), none] ∧ Same H1 H') := ⟨_, rfl⟩
      refine ⟨J, ?_, ?_⟩
      · have hT := G.hT
        have lm : (ts.map V.int).length = ts.length := List.length_map ..
        have zl : (zq part ts).length = ts.length := zq_len _ _
        have l1 := G.l1
        have lS := idx_len (n := (zq part ts).length) (c := fun n => riseB ((zq part ts).take n ++ (zq part ts).drop (n + 1)))
        have lS2 : ((idx (zq part ts).length fun n => riseB ((zq part ts).take n ++ (zq part ts).drop (n + 1))).map V.int).length ≤ ts.length := by rw [List.length_map]; omega
        walk_at "w"
        intro D nD
        refine lcpT (fun H v => v = V.bl true) (fun _ _ _ e _ => e) (xs := (idx (zq part ts).length fun n => riseB ((zq part ts).take n ++ (zq part ts).drop (n + 1))).map V.int) (szs (by omega)) (SqT.of hS9) nD (fun j x H3 N M hx s3 hN hM => ?_) (fun H3 zs3 s3 hD ly py => ?_)
        · have hn : ∃ n : Nat, x = .int (n : Int) ∧ n < ts.length ∧ riseB ((zq part ts).take n ++ (zq part ts).drop (n + 1)) = true := by
            obtain ⟨z, hz, rfl⟩ := List.mem_map.mp (List.mem_of_getElem? hx)
            unfold idx at hz
            obtain ⟨n, hn, rfl⟩ := List.mem_map.mp hz
            obtain ⟨n1, n2⟩ := List.mem_filter.mp hn
            exact ⟨n, rfl, by have := List.mem_range.mp n1; omega, n2⟩
          obtain ⟨n, rfl, n1, n2⟩ := hn
          have G3 := G.same s3
          have hT3 := G3.hT
          have hM3 := G3.hM
          have el : ys.length = (zq part ts).length := G3.mks.len
          walk_at "w"
          refine ite2 (fun e => ?_) (fun e => ?_)
          · walk_at "w"
            intro p1 H5 s5 h1
            rw [cutV_take _ (n := n) rfl] at h1
            have hM5 := s5 _ _ hM3
            walk_at "w"
            intro p2 H6 s6 h2
            rw [cutV_drop _ (n := n + 1) (by omega)] at h2
            have h1' := s6.sqt h1
            refine ⟨p1, p2, _, _, rfl, rfl, h1', h2, szl (by rw [List.length_take, List.length_drop]; omega), fun p3 H7 s7' h3 => ?_⟩
            have sC := (s5.trans s6).trans s7'
            refine ⟨p3, 40, _, _, rfl, .inr h3, (G3.mks.same sC).cut n, by decide, by rw [List.length_append, List.length_take, List.length_drop]; omega, fun o ho => ?_⟩
            walk_at "w"
            rw [slip_none ho, n2]
            exact hN _ _ sC rfl
          · exact hM
        rw [all_true py] at hD
        walk_at "w"
        refine ⟨_, rfl, SqL.of hD, ?_⟩
        rw [rep_all]
        walk_at "w"
        subst eJ
        exact ⟨rfl, sA.trans s3⟩
      subst eJ
      rintro σ' HB ⟨rfl, sB⟩
      walk_at "w"
      exact ⟨⟨_, _, _, _, _, _, _, rfl⟩, s1.trans sB⟩
    · rintro σ H1 ⟨⟨v1, v2, v3, v4, v5, v6, v7, rfl⟩, s1⟩
      walk_at "w"
      exact kk _
end K23

open PySem PySem.W PySem.Calls PyProof.Rows
set_option maxRecDepth 100000 in
set_option maxHeartbeats 0 in
theorem PySem.Challenge.cw_sizeladders_k23_whole_as_many_as_can_ris_holds : PySem.Challenge.rw_sizeladders_k23_whole_as_many_as_can_ris.Holds := by
  exact K23.pre fun T => K23.ok_law T
