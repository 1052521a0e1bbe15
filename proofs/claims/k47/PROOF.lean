import PyProof.Rows.All
import Wide.All
import OpenK.AllK
import Wide.FinOn
import KE.KStateDown
import HandS.ForMost
import HandS.More
import HandS.WordsExc
import HandS.Defaults
import HandS.MakeKw
import HandS.MakeKwOnly
import HandS.Wide
import HandS.IsInst
import HandS.Flow
import HandS.Style
import HandS.OwnEq
import HandS.Head0
import HandS.Head1
import HandS.Head2
import HandS.HeadEnd
import HandS.HeadHook1
import HandS.HeadHook2
import HandS.ExcIs
import HandS.ExcOwn
import HandS.TryOnly
import HandS.ExcBuiltin
import HandS.FStr
import HandS.Text
import HandS.Codes
import HandS.StrMore
import HandS.Walk
import HandS.Zip
import HandS.Conv
import HandS.Iter
import KE.GoesEnum
import KE.DataMinMax
import HandS.SortKw
import HandS.TupAny
import HandS.FStrTup
import HandS.Deep
import HandS.SetFor
import HandS.Strs
import PyProof.ReprHeadsTuple
import PyProof.ReprNest
import KE.KFmtOwn
import HandS.RevRange
import HandS.ExcInit
import HandS.Nested
import KE.KExcSuper
import HandS.ExcField
import HandS.ExcValue
import PyProof.RowDictHeap
import PySem.Challenge.RW_sizeladders_k47_grids_made_or_refused
set_option Elab.async false
set_option linter.all false
set_option maxRecDepth 100000
set_option maxHeartbeats 4000000
namespace My
open PySem PySem.Spec PyProof.Rows L2
/-! ### operators of great numbers -/
section
variable {X : Cx}
theorem op_fd : OpR X (binaryOp .FloorDiv) (rI (fun _ j => j ≠ 0 ∧ j.natAbs.log2 < 9000) fun i j => .int (i.fdiv j)) :=
  opI fun _ _ _ _ _ _ _ hc q => floordiv_int hc.1 q (.inl (PyProof.noPylong_of_log2 hc.2))
theorem op_mulA : OpR X (binaryOp .Mult) (rI (fun i j => CMul i j ∨ CMulW i j) fun i j => .int (i * j)) :=
  opI fun _ _ _ _ _ _ _ hc q => mul_int q (hc.elim (fun h => h.ok) (fun h => h.ok))
/-! ### cuts: what is wanted behind a piece, said by a word of one's own -/
def tCutS (t : TS) : TS := fun D σ H => ∃ J : L2.St → Hp → Prop, t { D with nx := J } σ H ∧ ∀ σ' H', J σ' H' → D.nx σ' H'
theorem ps_cut {st : Stmt} {t : TS} (h : PS X st t) : PS X st (tCutS t) := by
  refine ⟨fun pins s σ H D I hw => ?_⟩
  obtain ⟨J, h1, h2⟩ := hw
  refine thn (h.run pins s σ H _ I h1) fun f s' q => ?_
  cases f with
  | next => obtain ⟨σ', H', I', q'⟩ := q; exact ⟨σ', H', I', h2 _ _ q'⟩
  | brk => exact q
  | cont => exact q
  | ret u => exact q
/-! ### calls by keywords -/
variable {CX : CXT} {k n : Nat} {f C : Addr} {fd : FuncData} {ps ks : List Str} {sp : Sp} {E : XK} {x m : Str} {p pos apos : Pos} {o e : Expr} {es : List Expr} {kws : List Keyword} {ta : TE} {t tk : TA} {g : List Value → List Value → List Value} {gV : List V → List V → List V}
/-- o.m(e, .., k = v, ..) -/
def tMethN (C : Addr) (m : Str) (n l : Nat) (sp : Sp) (gV : List V → List V → List V) (E : XK) (ta : TE) (t tk : TA) : TE := fun σ H Q => ta σ H fun x H1 => ∃ a dx fs, x = .ref a ∧ H1 a = some (.ins C dx fs) ∧ fs.lookup m = none ∧
  t σ H1 fun vs H2 => tk σ H2 fun zs H3 => vs.length = n ∧ zs.length = l ∧ sp (gV (.ref a :: vs) zs) H3 Q E
theorem pe_methK0 {pl : Sem Bool} (he : PE X o ta) (c : Cls X.K C) (hm : Meth X.K C m f) (F : FnOk X.prog X.w X.K X.mg X.base CX k f fd ps sp) (hr : Room k X.A) (hb : KBn X.K fd ps 1 ks g gV) (hx : Passes CX X E) (hkw : PK X kws tk)
    (hall : (backToKw pos (keywordEach kws X.env)).all (·.1.isSome) = true := by rfl) (hks : (backToKw pos (keywordEach kws X.env)).filterMap (·.1) = ks := by rfl)
    (hpl : ((backTo pos (starEach [] X.env)).any (·.1) || (backToKw pos (keywordEach kws X.env)).any (·.1.isNone)) = false := by rfl)
    (ht : eval (.Call (.Attribute o m apos) [] kws pos) X.env = (do
      let ov ← eval o X.env
      standAt apos.atName
      let (f, first) ← holding [ov] (getMethod ov m pl)
      callWith pos f first (backTo pos (starEach [] X.env)) (backToKw pos (keywordEach kws X.env))) := by rfl) :
    PE X (.Call (.Attribute o m apos) [] kws pos) (tMethN C m 0 ks.length sp gV E ta tNil tk) := by
  refine ⟨fun pins s σ H Q I h => ?_⟩
  refine PySem.W.methodCall_KW (pl := pl) (thn (he.run pins s σ H _ I h) fun u s1 ⟨x, H1, I1, rx, a, dx, fs, ex, ea, l, q⟩ => ?_) ht
  subst ex
  obtain rfl : u = Value.ref a := rx
  refine getmeth_ok I1 ea c hm l ?_
  refine PySem.W.callWith_KW0 (first := [.ref a]) (h₀ := X.base) I.ok.mod.kin hm.kp hall ?_ hpl
  refine thn (hkw.run pos pins s1 σ H1 _ I1 q) fun ws s3 ⟨zs, H3, I3, rz, l1, l2, q3⟩ => ⟨I3.kIn, ?_⟩
  rw [hks]
  exact run_fnN (us := [.ref a]) (vs := [.ref a]) F hr hb hx I3 (.cons rfl .nil) rz rfl l2 q3
end
theorem kb_none {K : PySem.W.Frag} {x qual : Str} {params : Arguments} {body : List Stmt} {scope : Scope} {kws : List (Str × V)} {f : Addr} {fd : FuncData} {ps : List Str} {n : Nat} {ks : List Str}
    (F : FunD K x qual params body scope [] kws f fd) (g : {α : Type} → List α → List α → List α)
    (hrel : ∀ {vs zs : List V} {us ws : List Value}, Vals vs us → Vals zs ws → Vals (g vs zs) (g us ws))
    (h : ∀ (kV doc pm : Value) (an : Option Addr) (cdv ct : Value) (us ws : List Value), us.length = n → ws.length = ks.length → bindArgs (PySem.W.fnOf x qual params body scope .none kV doc pm an cdv ct) ⟨us, ks.zip ws⟩ = pure (ps.zip (g us ws))) :
    KBn K fd ps n ks (fun us ws => g us ws) (fun vs zs => g vs zs) := by
  obtain ⟨oc, od, dV, kV, doc, pm, an, cdv, ct, osl, rfl, lk, hcd, hD, hK⟩ := F.ex
  rcases hD with ⟨_, rfl⟩ | ⟨e, _⟩
  · exact ⟨fun s us ws X l1 l2 => .of_eq (h kV doc pm an cdv ct us ws l1 l2), fun r1 r2 => hrel r1 r2⟩
  · exact absurd rfl e
/-! ### heaps -/
theorem up1 {H : Hp} {p x : Addr} {o u : HO} (hp : H p = none) (hx : H x = some o) : upd H p u x = some o := by
  rw [upd_ne (ne_of_none hx hp)]; exact hx
theorem same1 {H : Hp} {p : Addr} {u : HO} (hp : H p = none) : Same H (upd H p u) := fun _ _ e => up1 hp e
theorem _root_.L2.Same.sqt {K : PySem.W.Frag} {H H' : Hp} {a : Addr} {xs : List V} (e : Same H H') (h : SqT K H a xs) : SqT K H' a xs := by
  rcases h with (h | ⟨o, h⟩) | h
  · exact .inl (.inl (e _ _ h))
  · exact .inl (.inr ⟨o, e _ _ h⟩)
  · exact .inr h
/-- all stays but what stands at h -/
def Kp (h : Addr) (H H' : Hp) : Prop := ∀ b o, H b = some o → b ≠ h → H' b = some o
theorem Kp.refl (h : Addr) (H : Hp) : Kp h H H := fun _ _ e _ => e
theorem Kp.trans {h : Addr} {H H1 H2 : Hp} (a : Kp h H H1) (b : Kp h H1 H2) : Kp h H H2 := fun c o e n => b c o (a c o e n) n
theorem Kp.same {h : Addr} {H H1 : Hp} (a : Same H H1) : Kp h H H1 := fun c o e _ => a c o e
theorem Kp.up {h p : Addr} {H H1 : Hp} {u : HO} (a : Kp h H H1) (hp : H1 p = none) : Kp h H (upd H1 p u) := fun c o e n => up1 hp (a c o e n)
theorem Kp.set {h : Addr} {H H1 : Hp} {u : HO} (a : Kp h H H1) : Kp h H (upd H1 h u) := fun c o e n => by
  rw [upd_ne n]; exact a c o e n
/-- a list other than that at h, the script among them -/
theorem Kp.seq {K : PySem.W.Frag} {h a : Addr} {H H1 : Hp} {xs : List V} (k : Kp h H H1) (n : a ≠ h) (s : SqL K H a xs) : SqL K H1 a xs := by
  rcases s with (s | ⟨o, s⟩) | s
  · exact .inl (.inl (k _ _ s n))
  · exact .inl (.inr ⟨o, k _ _ s n⟩)
  · exact .inr s
/-! ### the hand: a list of three ints, drawn from -/
def HandAt (H : Hp) (h : Addr) (n : Nat) : Prop := ∃ a b c : Int, H h = some (.lst [.int a, .int b, .int c]) ∧ 0 ≤ a ∧ 0 ≤ b ∧ b < 4611686018427387904 ∧ 0 ≤ c ∧ c ≤ n
theorem HandAt.mono {H : Hp} {h : Addr} {n m : Nat} (a : HandAt H h n) (l : n ≤ m) : HandAt H h m := by
  obtain ⟨x, y, z, h1, h2, h3, h4, h5, h6⟩ := a
  exact ⟨x, y, z, h1, h2, h3, h4, h5, by omega⟩
theorem HandAt.same {H H' : Hp} {h : Addr} {n : Nat} (a : HandAt H h n) (s : Same H H') : HandAt H' h n := by
  obtain ⟨x, y, z, h1, h2⟩ := a
  exact ⟨x, y, z, s _ _ h1, h2⟩
theorem HandAt.up {H : Hp} {h p : Addr} {u : HO} {n : Nat} (a : HandAt H h n) (hp : H p = none) : HandAt (upd H p u) h n := a.same (same1 hp)
theorem HandAt.ne {H : Hp} {h p : Addr} {n : Nat} (a : HandAt H h n) (hp : H p = none) : p ≠ h := by
  obtain ⟨x, y, z, h1, _⟩ := a
  exact (ne_of_none h1 hp).symm
def notHand : HO → Bool
  | .lst _ => false
  | _ => true
theorem HandAt.apart {H : Hp} {h p : Addr} {o : HO} {n : Nat} (a : HandAt H h n) (hp : H p = some o) (ho : notHand o = true) : p ≠ h := by
  obtain ⟨x, y, z, h1, _⟩ := a
  exact ne_of hp h1 (by intro e; rw [e] at ho; cases ho)
def sp_take : Sp := fun vs H Q _ => ∃ (h : Addr) (n : Nat) (m : Int), vs = [.ref h, .int m] ∧ HandAt H h n ∧ n < 1000000 ∧ 0 < m ∧ m.natAbs.log2 < 9000 ∧
  ∀ (d : Int) (H' : Hp), 0 ≤ d → d < m → HandAt H' h (n + 1) → Kp h H H' → Q (.int d) H'
def sp_hand (K : PySem.W.Frag) : Sp := fun vs H Q _ => ∃ (a : Addr) (ns : List Int) (k : Nat), vs = [.ref a, .int k] ∧ SqL K H a (ns.map V.int) ∧ k ≤ 1000 ∧
  ∀ (p : Addr) (H' : Hp), H p = none → Same H H' → HandAt H' p 0 → Q (.ref p) H'
/-! ### numbers -/
abbrev Sz (k : Nat) (z : Int) : Prop := z.natAbs < 2 ^ k
theorem Sz.mono {a b : Nat} {z : Int} (h : Sz a z) (l : a ≤ b) : Sz b z := Nat.lt_of_lt_of_le h (Nat.pow_le_pow_right (by decide) l)
theorem Sz.mul {a b : Nat} {x y : Int} (h : Sz a x) (g : Sz b y) : Sz (a + b) (x * y) := wide_lt h g
theorem Sz.neg {a : Nat} {x : Int} (h : Sz a x) : Sz a (-x) := by
  show (-x).natAbs < 2 ^ a
  rw [Int.natAbs_neg]; exact h
theorem Sz.add {a : Nat} {x y : Int} (h : Sz a x) (g : Sz a y) : Sz (a + 1) (x + y) := by
  show (x + y).natAbs < 2 ^ (a + 1)
  have h1 : x.natAbs < 2 ^ a := h
  have h2 : y.natAbs < 2 ^ a := g
  rw [Nat.pow_succ]; omega
theorem Sz.sub {a : Nat} {x y : Int} (h : Sz a x) (g : Sz a y) : Sz (a + 1) (x - y) := by
  show (x - y).natAbs < 2 ^ (a + 1)
  have h1 : x.natAbs < 2 ^ a := h
  have h2 : y.natAbs < 2 ^ a := g
  rw [Nat.pow_succ]; omega
theorem Sz.le {a : Nat} {x y : Int} (h : Sz a x) (l : y.natAbs ≤ x.natAbs) : Sz a y := Nat.lt_of_le_of_lt l h
theorem Sz.cmul {a b : Nat} {x y : Int} (h : Sz a x) (g : Sz b y) (h0 : 0 < a) (h1 : 0 < b) (l : a + b ≤ 1000000) : CMul x y ∨ CMulW x y := .inr (wide_mul h g h0 h1 l)
theorem Sz.log {a : Nat} {x : Int} (h : Sz a x) (h0 : 0 < a) (l : a ≤ 9000) : x.natAbs.log2 < 9000 := Nat.lt_of_lt_of_le (PySem.Flt.log2_lt_of h0 h) l
theorem dI {i j : Int} : decide (V.int i = V.int j) = decide (i = j) := by
  rw [dec_int, Bool.beq_eq_decide_eq]
/-- t / u is a / b in lowest terms -/
structure Fr (t u a b : Int) : Prop where
  pos : 0 < u
  eq : t * b = a * u
  co : Int.gcd t u = 1
  lt : t.natAbs ≤ a.natAbs
  lu : u.natAbs ≤ b.natAbs
def sgn (b : Int) : Int := if 0 < b then 1 else -1
theorem gcd_step {g s : Int} (hs : 0 < s) (hg : 0 ≤ g) : Int.gcd s (g % s) = Int.gcd g s := by
  obtain ⟨m, rfl⟩ := Int.eq_ofNat_of_zero_le hg
  obtain ⟨n, rfl⟩ := Int.eq_ofNat_of_zero_le (Int.le_of_lt hs)
  show Nat.gcd n (m % n) = Nat.gcd m n
  rw [Nat.gcd_comm m n, Nat.gcd_comm n (m % n), ← Nat.gcd_rec]
theorem fr_mk {a b c : Int} (hb : b ≠ 0) (hc : c = sgn b * (Int.gcd a b : Int)) : c ≠ 0 ∧ c.natAbs ≤ b.natAbs ∧ Fr (a.fdiv c) (b.fdiv c) a b := by
  have g0 : 0 < Int.gcd a b := Int.gcd_pos_of_ne_zero_right a hb
  have gd : (Int.gcd a b : Int) ∣ a := Int.gcd_dvd_left ..
  have gb : (Int.gcd a b : Int) ∣ b := Int.gcd_dvd_right ..
  have hs : sgn b = 1 ∨ sgn b = -1 := by unfold sgn; split <;> simp
  have cd : c ∣ a := by
    rcases hs with e | e <;> rw [hc, e]
    · rw [Int.one_mul]; exact gd
    · rw [Int.neg_one_mul]; exact (Int.neg_dvd).mpr gd
  have cb : c ∣ b := by
    rcases hs with e | e <;> rw [hc, e]
    · rw [Int.one_mul]; exact gb
    · rw [Int.neg_one_mul]; exact (Int.neg_dvd).mpr gb
  have cn : c.natAbs = Int.gcd a b := by
    rcases hs with e | e <;> rw [hc, e]
    · rw [Int.one_mul, Int.natAbs_natCast]
    · rw [Int.neg_one_mul, Int.natAbs_neg, Int.natAbs_natCast]
  have c0 : c ≠ 0 := by
    intro e; rw [e] at cn; simp at cn; omega
  have ta : a.fdiv c * c = a := Int.fdiv_mul_cancel cd
  have tb : b.fdiv c * c = b := Int.fdiv_mul_cancel cb
  have c1 : 1 ≤ c.natAbs := by omega
  have na : a.natAbs = (a.fdiv c).natAbs * c.natAbs := by rw [← Int.natAbs_mul, ta]
  have nb : b.natAbs = (b.fdiv c).natAbs * c.natAbs := by rw [← Int.natAbs_mul, tb]
  refine ⟨c0, ?_, ?_, ?_, ?_, ?_, ?_⟩
  · rw [cn]
    exact Nat.le_of_dvd (by omega) (Int.gcd_dvd_natAbs_right a b)
  · rcases Int.lt_trichotomy b 0 with h | h | h
    · have e : sgn b = -1 := by unfold sgn; rw [if_neg (by omega)]
      have cneg : c < 0 := by rw [hc, e]; omega
      rcases Int.lt_or_le 0 (b.fdiv c) with z | z
      · exact z
      · have : 0 ≤ b.fdiv c * c := Int.mul_nonneg_of_nonpos_of_nonpos z (by omega)
        omega
    · exact absurd h hb
    · have e : sgn b = 1 := by unfold sgn; rw [if_pos h]
      have cpos : 0 < c := by rw [hc, e]; omega
      rcases Int.lt_or_le 0 (b.fdiv c) with z | z
      · exact z
      · have : b.fdiv c * c ≤ 0 := Int.mul_nonpos_of_nonpos_of_nonneg z (by omega)
        omega
  · have : a.fdiv c * (b.fdiv c * c) = a.fdiv c * c * b.fdiv c := by
      rw [Int.mul_assoc, Int.mul_comm c]
    rw [tb, ta] at this
    exact this
  · have e : Int.gcd a b = Int.gcd (a.fdiv c) (b.fdiv c) * c.natAbs := by
      have := Int.gcd_mul_right (a.fdiv c) c (b.fdiv c)
      rw [ta, tb] at this
      exact this
    rw [← cn] at e
    have e2 : 1 * c.natAbs = Int.gcd (a.fdiv c) (b.fdiv c) * c.natAbs := by rw [Nat.one_mul]; exact e
    exact (Nat.eq_of_mul_eq_mul_right (by omega) e2).symm
  · rw [na]; exact Nat.le_mul_of_pos_right _ (by omega)
  · rw [nb]; exact Nat.le_mul_of_pos_right _ (by omega)
/-! ### a Measure -/
def mf (t u : Int) : List (Str × V) := [("top", .int t), ("bottom", .int u)]
theorem ne_tb : ¬ (("top" : Str) = "bottom") := by decide +kernel
theorem mf_put (t u : Int) : putF "bottom" (.int u) (putF "top" (.int t) []) = mf t u := by
  show (if ("top" : Str) = "bottom" then [(("top" : Str), V.int u)] else (("top" : Str), V.int t) :: putF "bottom" (V.int u) []) = mf t u
  rw [if_neg ne_tb] <;> rfl
theorem mf_top (t u : Int) : (mf t u).lookup ("top" : Str) = some (.int t) := by
  rw [← mf_put, lookup_putF, if_neg ne_tb, lookup_putF, if_pos rfl]
theorem mf_bottom (t u : Int) : (mf t u).lookup ("bottom" : Str) = some (.int u) := by
  rw [← mf_put, lookup_putF, if_pos rfl]
theorem mf_no (t u : Int) {m : Str} (h1 : ¬ m = "top") (h2 : ¬ m = "bottom") : (mf t u).lookup m = none := by
  rw [← mf_put, lookup_putF, if_neg h2, lookup_putF, if_neg h1] <;> rfl
def MAt (C : Addr) (H : Hp) (p : Addr) (t u : Int) : Prop := ∃ dx, H p = some (.ins C dx (mf t u))
theorem MAt.same {C p : Addr} {H H' : Hp} {t u : Int} (m : MAt C H p t u) (s : Same H H') : MAt C H' p t u := by
  obtain ⟨dx, h⟩ := m; exact ⟨dx, s _ _ h⟩
theorem MAt.kp {C p h : Addr} {H H' : Hp} {t u : Int} {n : Nat} (m : MAt C H p t u) (hh : HandAt H h n) (s : Kp h H H') : MAt C H' p t u := by
  obtain ⟨dx, e⟩ := m; exact ⟨dx, s _ _ e (hh.apart e rfl)⟩
def sp_minit (C : Addr) : Sp := fun vs H Q _ => ∃ (p dx : Addr) (a b : Int), vs = [.ref p, .int a, .int b] ∧ H p = some (.ins C dx []) ∧ b ≠ 0 ∧ b.natAbs.log2 < 9000 ∧
  ∀ (t u : Int) (H' : Hp), Fr t u a b → H' p = some (.ins C dx (mf t u)) → (∀ c o, H c = some o → c ≠ p → H' c = some o) → Q .non H'
theorem made {C : Addr} {H : Hp} {Q : VK} {E : XK} {a b : Int} (hb : b ≠ 0) (hl : b.natAbs.log2 < 9000) (k : ∀ (p : Addr) (t u : Int) (H' : Hp), H p = none → Same H H' → MAt C H' p t u → Fr t u a b → Q (.ref p) H') :
    ∀ x dx, H x = none → H dx = none → dx ≠ x → sp_minit C [.ref x, .int a, .int b] (upd (upd H dx (.own x)) x (.ins C dx [])) (fun v H2 => v = .non ∧ Q (.ref x) H2) E := by
  intro x dx nx nd ne
  refine ⟨x, dx, a, b, rfl, upd_same, hb, hl, fun t u H' fr hx kp => ⟨rfl, ?_⟩⟩
  refine k x t u H' nx (fun c o e => ?_) ⟨dx, hx⟩ fr
  have n1 : c ≠ x := ne_of_none e nx
  refine kp c o ?_ n1
  rw [upd_ne n1]
  exact up1 nd e
def sp_whole : Sp := fun vs H Q _ => ∃ n : Int, vs = [.int n] ∧ Q (.bl true) H
def sp_common : Sp := fun vs H Q _ => ∃ a b : Int, vs = [.int a, .int b] ∧ Q (.int (Int.gcd a b : Int)) H
def lessA (t u t' u' : Int) (al : Bool) : Bool := decide (t * u' < t' * u) || (al && decide (t * u' = t' * u))
def sp_below (C : Addr) : Sp := fun vs H Q _ => ∃ (p q : Addr) (t u t' u' : Int) (al : Bool), vs = [.ref p, .ref q, .bl al] ∧ MAt C H p t u ∧ MAt C H q t' u' ∧ Sz 9000 t ∧ Sz 9000 u ∧ Sz 9000 t' ∧ Sz 9000 u' ∧ Q (.bl (lessA t u t' u' al)) H
theorem Kp.get {h q : Addr} {H H' : Hp} {o : HO} {n : Nat} (k : Kp h H H') (hh : HandAt H h n) (e : H q = some o) (no : notHand o = true) : H' q = some o := k _ _ e (hh.apart e no)
theorem _root_.L2.Same.get {q : Addr} {H H' : Hp} {o : HO} (k : Same H H') (e : H q = some o) : H' q = some o := k _ _ e
theorem _root_.L2.Same.ofKp {h : Addr} {H H1 H2 : Hp} (s : Same H H1) (nh : H h = none) (k : Kp h H1 H2) : Same H H2 := fun c o e => k c o (s c o e) (ne_of_none e nh)
theorem _root_.L2.Same.up {p : Addr} {H H1 : Hp} {u : HO} (s : Same H H1) (hp : H1 p = none) : Same H (upd H1 p u) := s.trans (same1 hp)
theorem isTrueN {b : Bool} (h : ¬ b = true) : b = false := by cases b <;> simp_all
theorem sgn_cases (b : Int) : sgn b = 1 ∨ sgn b = -1 := by unfold sgn; split <;> simp
/-! ### rules with the written part by its name (for the blocks of comprehensions) -/
section
variable {X : Cx} {K : PySem.W.Frag}
theorem ixl (hK : X.K = K := by rfl) : IxR X (rIxL K) := by subst hK; exact ix_list
theorem ixt (hK : X.K = K := by rfl) : IxR X (rIxT K) := by subst hK; exact ix_tup
theorem isi (hK : X.K = K := by rfl) : CallR X (.builtin "isinstance") (rIsi K) := by subst hK; exact call_isi
theorem isiT (hK : X.K = K := by rfl) : CallR X (.builtin "isinstance") (rIsiT K) := by subst hK; exact call_isiT
def rLenS (K : PySem.W.Frag) : List V → Hp → VK → Prop := fun xs H Q => ∃ p ys, xs = [.ref p] ∧ (SqL K H p ys ∨ SqT K H p ys) ∧ Q (.int (ys.length : Int)) H
theorem lenS (hK : X.K = K := by rfl) : CallR X (.builtin "len") (rLenS K) := by subst hK; exact call_len_seq
theorem allK (hK : X.K = K := by rfl) (hc : X.calm = true := by rfl) : CallR X (.builtin "all") (rAll K) := by subst hK; exact cr_all hc
theorem inK (hK : X.K = K := by rfl) : OpR X (compareOp .In) (rIn K false) := by subst hK; exact op_in_seq
theorem fldK {e : Expr} {f : Str} {pos : Pos} {ta : TE} (he : PE X e ta) (hb : attributeBase e f X.env (eval e X.env) = eval e X.env) (hK : X.K = K := by rfl) : PE X (.Attribute e f pos) (tFld K ta f) := by subst hK; exact pe_fld he hb
end
theorem yesT {te : TE} {σ : L2.St} {H : Hp} {N : VK} {M : Hp → Prop} (h : te σ H N) : tYes σ H (fun b H3 => if b = true then te σ H3 N else M H3) := by
  show (if true = true then te σ H N else M H)
  rw [if_pos rfl]; exact h
theorem made_same {H H' : Hp} {x dx C : Addr} (nx : H x = none) (nd : H dx = none) (kp : ∀ c o, (upd (upd H dx (.own x)) x (.ins C dx [])) c = some o → c ≠ x → H' c = some o) : Same H H' := fun c o e => by
  have n1 : c ≠ x := ne_of_none e nx
  refine kp c o ?_ n1
  rw [upd_ne n1]
  exact up1 nd e
/-! ### the head's facts, and more of them -/
def obsM (n : Nat) (fa : List He.Fa) (fn : List He.DefD) (ex : List (PySem.W.Frag → Bool)) (g : Addr → Option Obj) : He.AlD × Bool := (He.obsDG n fa fn g, ex.all fun f => f (He.frG g (He.asD g n)))
def hookM (n : Nat) (fa : List He.Fa) (fn : List He.DefD) (ex : List (PySem.W.Frag → Bool)) : PySem.W.Hook where
  α := He.AlD × Bool
  obs := fun s => obsM n fa fn ex s.heap.get?
  val := fun _ => (He.valD fn, true)
  says := fun _ h => ∃ K : PySem.W.Frag, K.In h ∧ He.SaysD fa fn K ∧ (ex.all fun f => f K) = true
  of := fun _ _ e => ⟨_, He.frG_in, congrArg (fun z : He.AlD × Bool => z.1) e, congrArg (fun z : He.AlD × Bool => z.2) e⟩
  keeps := fun _ _ _ ⟨K, hK, c⟩ k => ⟨K, PySem.W.Frag.In.keeps hK k, c⟩
theorem obsM_eq {n : Nat} {fa : List He.Fa} {fn : List He.DefD} {ex : List (PySem.W.Frag → Bool)} {g : Addr → Option Obj} {s : Shared} (h : ∀ a, g a = s.heap.get? a) : obsM n fa fn ex g = (hookM n fa fn ex).obs s := by
  have e : g = s.heap.get? := funext h
  rw [e] <;> rfl
theorem ex_at {ex : List (PySem.W.Frag → Bool)} {K : PySem.W.Frag} (c : (ex.all fun f => f K) = true) (i : Nat) {f : PySem.W.Frag → Bool} (h : ex[i]? = some f) : f K = true := List.all_eq_true.mp c f (List.mem_of_getElem? h)
/-- what isinstance asks of an own class -/
structure IsC (K : PySem.W.Frag) (C : Addr) : Prop where
  ha : PySem.W.findIn K (.ref C) "__class__" = some (some (.builtin "object.__class__"))
  hn : PySem.W.specialIn K (.builtin "object.__class__") "__get__" = some (some (.builtin "getset_descriptor.__get__"))
  htk : PySem.W.takesIn K (.builtin "object.__class__") = some true
  hm : PySem.W.mroIn K C (.type "object") = some true
def isCB (x : Str) : PySem.W.Frag → Bool := fun K => He.eqO (PySem.W.findIn K (.ref (He.ga K x)) "__class__") (some (some (.builtin "object.__class__"))) && (He.eqO (PySem.W.specialIn K (.builtin "object.__class__") "__get__") (some (some (.builtin "getset_descriptor.__get__"))) &&
  (decide (PySem.W.takesIn K (.builtin "object.__class__") = some true) && decide (PySem.W.mroIn K (He.ga K x) (.type "object") = some true)))
theorem isC_ok {x : Str} {K : PySem.W.Frag} (c : isCB x K = true) : IsC K (He.ga K x) := by
  obtain ⟨c1, c⟩ := He.ba c
  obtain ⟨c2, c⟩ := He.ba c
  obtain ⟨c3, c4⟩ := He.ba c
  exact ⟨He.eqO_ok c1, He.eqO_ok c2, of_decide_eq_true c3, of_decide_eq_true c4⟩
/-- a class by name: an own one, a built-in one -/
def cv (K : PySem.W.Frag) : Str ⊕ String → Value
  | .inl x => .ref (He.ga K x)
  | .inr n => .type n
def kitF (a b : Str ⊕ String) (r : Bool) : PySem.W.Frag → Bool := fun K => decide (PySem.W.kitOne K (cv K a) (cv K b) = some r)
theorem kitF_ok {a b : Str ⊕ String} {r : Bool} {K : PySem.W.Frag} (c : kitF a b r K = true) : PySem.W.kitOne K (cv K a) (cv K b) = some r := of_decide_eq_true c
theorem tyM {K : PySem.W.Frag} {H : Hp} {a C dx : Addr} {fs : List (Str × V)} (e : H a = some (.ins C dx fs)) (cl : Cls K C) (i : IsC K C) : TyX K H (.ref a) (.ref C) := .base (.ins e cl i.ha i.hn i.htk i.hm)
/-! ### sums and parts of Measures -/
/-- the same fraction once more -/
theorem Fr.of {t u a b c d : Int} (f : Fr t u a b) (hb : b ≠ 0) (e : a * d = c * b) : t * d = c * u := by
  have h1 := f.eq
  have h2 : (t * d) * b = (c * u) * b := by
    calc (t * d) * b = (t * b) * d := by simp only [Int.mul_assoc, Int.mul_comm, Int.mul_left_comm]
      _ = (a * u) * d := by rw [h1]
      _ = (a * d) * u := by simp only [Int.mul_assoc, Int.mul_comm, Int.mul_left_comm]
      _ = (c * b) * u := by rw [e]
      _ = (c * u) * b := by simp only [Int.mul_assoc, Int.mul_comm, Int.mul_left_comm]
  exact Int.eq_of_mul_eq_mul_right hb h2
/-- what stood at the start stands (by another name than the steps') -/
structure Old (H H' : Hp) : Prop where
  s : Same H H'
theorem Old.refl (H : Hp) : Old H H := ⟨Same.refl _⟩
theorem Old.up {p : Addr} {H H1 : Hp} {u : HO} (a : Old H H1) (hp : H1 p = none) : Old H (upd H1 p u) := ⟨a.s.up hp⟩
theorem Old.then {H H1 H2 : Hp} (a : Old H H1) (b : Same H1 H2) : Old H H2 := ⟨a.s.trans b⟩
theorem Old.kp {h : Addr} {H H1 H2 : Hp} (a : Old H H1) (nh : H h = none) (k : Kp h H1 H2) : Old H H2 := ⟨a.s.ofKp nh k⟩
theorem Old.put {h : Addr} {H H1 : Hp} {u : HO} (a : Old H H1) (nh : H h = none) : Old H (upd H1 h u) := ⟨fun c o e => by rw [upd_ne (ne_of_none e nh)]; exact a.s _ _ e⟩
/-- a list is changed, what is no list stays -/
theorem up2 {H : Hp} {l x : Addr} {xs : List V} {o u : HO} (hl : H l = some (.lst xs)) (hx : H x = some o) (no : notHand o = true) : upd H l u x = some o := by
  rw [upd_ne (ne_of hx hl (by intro e; rw [e] at no; cases no))]; exact hx
end My
namespace My
open PySem PySem.Spec PyProof.Rows L2
/-! ### fractions as pairs, stretches as ends -/
abbrev Q2 := Int × Int
def ltq (a b : Q2) : Bool := decide (a.1 * b.2 < b.1 * a.2)
def eqq (a b : Q2) : Bool := decide (a.1 * b.2 = b.1 * a.2)
def someB : Option Q2 → Option Q2 → Bool → Bool → Bool
  | some a, some b, ia, ib => ltq a b || (eqq a b && ia && ib)
  | _, _, _, _ => true
def Re (a b : Q2) : Prop := 0 < a.2 ∧ 0 < b.2 ∧ a.1 * b.2 = b.1 * a.2
def ReO : Option Q2 → Option Q2 → Prop
  | none, none => True
  | some a, some b => Re a b
  | _, _ => False
theorem Re.symm {a b : Q2} (h : Re a b) : Re b a := ⟨h.2.1, h.1, h.2.2.symm⟩
theorem Re.refl {a : Q2} (h : 0 < a.2) : Re a a := ⟨h, h, rfl⟩
theorem ReO.symm : ∀ {a b : Option Q2}, ReO a b → ReO b a
  | none, none, _ => trivial
  | some _, some _, h => Re.symm h
  | none, some _, h => h.elim
  | some _, none, h => h.elim
theorem pos_key {a b c d : Q2} (h : Re a c) (g : Re b d) : (a.1 * b.2) * (c.2 * d.2) = (c.1 * d.2) * (a.2 * b.2) := by
  have := h.2.2
  grind
theorem pos_key' {a b c d : Q2} (h : Re a c) (g : Re b d) : (b.1 * a.2) * (c.2 * d.2) = (d.1 * c.2) * (a.2 * b.2) := by
  have := g.2.2
  grind
theorem ltq_congr {a b c d : Q2} (h : Re a c) (g : Re b d) : ltq a b = ltq c d := by
  unfold ltq
  have k1 := pos_key h g
  have k2 := pos_key' h g
  have p1 : 0 < c.2 * d.2 := Int.mul_pos h.2.1 g.2.1
  have p2 : 0 < a.2 * b.2 := Int.mul_pos h.1 g.1
  refine decide_eq_decide.mpr ⟨fun x => ?_, fun x => ?_⟩
  · have := Int.mul_lt_mul_of_pos_right x p1
    rw [k1, k2] at this
    exact Int.lt_of_mul_lt_mul_right this (Int.le_of_lt p2)
  · have := Int.mul_lt_mul_of_pos_right x p2
    rw [← k1, ← k2] at this
    exact Int.lt_of_mul_lt_mul_right this (Int.le_of_lt p1)
theorem eqq_congr {a b c d : Q2} (h : Re a c) (g : Re b d) : eqq a b = eqq c d := by
  unfold eqq
  have k1 := pos_key h g
  have k2 := pos_key' h g
  have p1 : 0 < c.2 * d.2 := Int.mul_pos h.2.1 g.2.1
  have p2 : 0 < a.2 * b.2 := Int.mul_pos h.1 g.1
  refine decide_eq_decide.mpr ⟨fun x => ?_, fun x => ?_⟩
  · rw [x] at k1
    rw [k1] at k2
    exact Int.eq_of_mul_eq_mul_right (by omega) k2
  · rw [x] at k1
    rw [← k2] at k1
    exact Int.eq_of_mul_eq_mul_right (by omega) k1
theorem someB_congr : ∀ {a b c d : Option Q2} {i j : Bool}, ReO a c → ReO b d → someB a b i j = someB c d i j
  | some a, some b, some c, some d, i, j, h, g => by
    show (ltq a b || (eqq a b && i && j)) = (ltq c d || (eqq c d && i && j))
    rw [ltq_congr h g, eqq_congr h g]
  | none, some _, none, some _, _, _, _, _ => rfl
  | none, none, none, none, _, _, _, _ => rfl
  | some _, none, some _, none, _, _, _, _ => rfl
  | some _, _, none, _, _, _, h, _ => h.elim
  | none, _, some _, _, _, _, h, _ => h.elim
  | some _, some _, some _, none, _, _, _, g => g.elim
  | some _, none, some _, some _, _, _, _, g => g.elim
  | none, some _, none, none, _, _, _, g => g.elim
  | none, none, none, some _, _, _, _, g => g.elim
/-- in lowest terms, its numbers of less than four thousand bits -/
structure Low (a : Q2) : Prop where
  pos : 0 < a.2
  co : Int.gcd a.1 a.2 = 1
  s1 : Sz 4000 a.1
  s2 : Sz 4000 a.2
def LowO : Option Q2 → Prop
  | none => True
  | some a => Low a
theorem dvd_co {a b c : Int} (h : a ∣ b * c) (g : Int.gcd a b = 1) : a ∣ c := by
  have h1 : a.natAbs ∣ b.natAbs * c.natAbs := by rw [← Int.natAbs_mul]; exact Int.natAbs_dvd_natAbs.mpr h
  exact Int.natAbs_dvd_natAbs.mp (Nat.Coprime.dvd_of_dvd_mul_left g h1)
theorem low_eq {a b : Q2} (h : Low a) (g : Low b) (e : a.1 * b.2 = b.1 * a.2) : a = b := by
  have h1 := h.pos
  have g1 := g.pos
  have d1 : a.2 ∣ b.2 := by
    have : a.2 ∣ a.1 * b.2 := ⟨b.1, by rw [e, Int.mul_comm]⟩
    exact dvd_co this (by rw [Int.gcd_comm]; exact h.co)
  have d2 : b.2 ∣ a.2 := by
    have : b.2 ∣ b.1 * a.2 := ⟨a.1, by rw [← e, Int.mul_comm]⟩
    exact dvd_co this (by rw [Int.gcd_comm]; exact g.co)
  have e2 : a.2 = b.2 := Int.le_antisymm (Int.le_of_dvd g1 d1) (Int.le_of_dvd h1 d2)
  rw [e2] at e
  exact Prod.ext (Int.eq_of_mul_eq_mul_right (by omega) e) e2
theorem low_eqq {a b : Q2} (h : Low a) (g : Low b) : (decide (a.1 = b.1) && decide (a.2 = b.2)) = eqq a b := by
  unfold eqq
  by_cases e : a.1 * b.2 = b.1 * a.2
  · rw [decide_eq_true e, low_eq h g e]; simp
  · rw [decide_eq_false e]
    cases z1 : decide (a.1 = b.1) with
    | false => rfl
    | true =>
      cases z2 : decide (a.2 = b.2) with
      | false => rfl
      | true =>
        exact absurd (by rw [of_decide_eq_true z1, of_decide_eq_true z2]) e
/-! ### their values -/
/-- None, or the tuple of an end's two numbers -/
def EndV (k : Nat) (H : Hp) (v : V) : Option Q2 → Prop
  | none => v = .non
  | some a => ∃ p, v = .ref p ∧ H p = some (.tup [.int a.1, .int a.2]) ∧ 0 < a.2 ∧ Sz k a.1 ∧ Sz k a.2
theorem EndV.mono {k j : Nat} (l : k ≤ j) {H : Hp} {v : V} : ∀ {e : Option Q2}, EndV k H v e → EndV j H v e
  | none, h => h
  | some _, ⟨p, h1, h2, h3, h4, h5⟩ => ⟨p, h1, h2, h3, h4.mono l, h5.mono l⟩
def MsV (C : Addr) (H : Hp) (v : V) : Option Q2 → Prop
  | none => v = .non
  | some a => ∃ p, v = .ref p ∧ MAt C H p a.1 a.2
theorem EndV.same {k : Nat} {H H' : Hp} {v : V} : ∀ {e : Option Q2}, EndV k H v e → Same H H' → EndV k H' v e
  | none, h, _ => h
  | some _, ⟨p, h1, h2, h3⟩, s => ⟨p, h1, s _ _ h2, h3⟩
theorem EndV.kp {j : Nat} {H H' : Hp} {h : Addr} {n : Nat} {v : V} : ∀ {e : Option Q2}, EndV j H v e → HandAt H h n → Kp h H H' → EndV j H' v e
  | none, h, _, _ => h
  | some _, ⟨p, h1, h2, h3⟩, hh, k => ⟨p, h1, k.get hh h2 rfl, h3⟩
theorem MsV.same {C : Addr} {H H' : Hp} {v : V} : ∀ {e : Option Q2}, MsV C H v e → Same H H' → MsV C H' v e
  | none, h, _ => h
  | some _, ⟨p, h1, h2⟩, s => ⟨p, h1, h2.same s⟩
theorem MsV.kp {C : Addr} {H H' : Hp} {h : Addr} {n : Nat} {v : V} : ∀ {e : Option Q2}, MsV C H v e → HandAt H h n → Kp h H H' → MsV C H' v e
  | none, h, _, _ => h
  | some _, ⟨p, h1, h2⟩, hh, k => ⟨p, h1, h2.kp hh k⟩
/-! ### a Stretch -/
def sf (l h : V) (li hi : Bool) : List (Str × V) := [("low", l), ("high", h), ("low_in", .bl li), ("high_in", .bl hi)]
theorem sf_put (l h : V) (li hi : Bool) : putF "high_in" (.bl hi) (putF "low_in" (.bl li) (putF "high" h (putF "low" l []))) = sf l h li hi := by
  have e1 : putF ("high" : Str) h (putF ("low" : Str) l []) = ([("low", l), ("high", h)] : List (Str × V)) := by
    show (if ("low" : Str) = "high" then [(("low" : Str), h)] else (("low" : Str), l) :: putF "high" h []) = _
    rw [if_neg (by decide +kernel)] <;> rfl
  have e2 : putF ("low_in" : Str) (.bl li) [("low", l), ("high", h)] = ([("low", l), ("high", h), ("low_in", .bl li)] : List (Str × V)) := by
    show (if ("low" : Str) = "low_in" then _ else (("low" : Str), l) :: (if ("high" : Str) = "low_in" then _ else (("high" : Str), h) :: putF "low_in" (V.bl li) [])) = _
    rw [if_neg (by decide +kernel), if_neg (by decide +kernel)] <;> rfl
  have e3 : putF ("high_in" : Str) (.bl hi) [("low", l), ("high", h), ("low_in", .bl li)] = sf l h li hi := by
    show (if ("low" : Str) = "high_in" then _ else (("low" : Str), l) :: (if ("high" : Str) = "high_in" then _ else (("high" : Str), h) :: (if ("low_in" : Str) = "high_in" then _ else (("low_in" : Str), V.bl li) :: putF "high_in" (V.bl hi) []))) = _
    rw [if_neg (by decide +kernel), if_neg (by decide +kernel), if_neg (by decide +kernel)] <;> rfl
  rw [e1, e2, e3]
theorem sf_low (l h : V) (li hi : Bool) : (sf l h li hi).lookup ("low" : Str) = some l := by
  rw [← sf_put, lookup_putF, if_neg (by decide +kernel), lookup_putF, if_neg (by decide +kernel), lookup_putF, if_neg (by decide +kernel), lookup_putF, if_pos rfl]
theorem sf_high (l h : V) (li hi : Bool) : (sf l h li hi).lookup ("high" : Str) = some h := by
  rw [← sf_put, lookup_putF, if_neg (by decide +kernel), lookup_putF, if_neg (by decide +kernel), lookup_putF, if_pos rfl]
theorem sf_low_in (l h : V) (li hi : Bool) : (sf l h li hi).lookup ("low_in" : Str) = some (.bl li) := by
  rw [← sf_put, lookup_putF, if_neg (by decide +kernel), lookup_putF, if_pos rfl]
theorem sf_high_in (l h : V) (li hi : Bool) : (sf l h li hi).lookup ("high_in" : Str) = some (.bl hi) := by
  rw [← sf_put, lookup_putF, if_pos rfl]
theorem sf_no (l h : V) (li hi : Bool) {m : Str} (h1 : ¬ m = "low") (h2 : ¬ m = "high") (h3 : ¬ m = "low_in") (h4 : ¬ m = "high_in") : (sf l h li hi).lookup m = none := by
  rw [← sf_put, lookup_putF, if_neg h4, lookup_putF, if_neg h3, lookup_putF, if_neg h2, lookup_putF, if_neg h1] <;> rfl
/-- a Stretch at p: its ends, whether they are in -/
structure StAt (CM CS : Addr) (H : Hp) (p : Addr) (lo hi : Option Q2) (li hj : Bool) : Prop where
  ob : ∃ dx l h, H p = some (.ins CS dx (sf l h li hj)) ∧ MsV CM H l lo ∧ MsV CM H h hi
  l1 : LowO lo
  l2 : LowO hi
  n1 : lo = none → li = false
  n2 : hi = none → hj = false
theorem StAt.same {CM CS p : Addr} {H H' : Hp} {lo hi : Option Q2} {li hj : Bool} (a : StAt CM CS H p lo hi li hj) (s : Same H H') : StAt CM CS H' p lo hi li hj := by
  obtain ⟨⟨dx, l, h, h1, h2, h3⟩, a1, a2, a3, a4⟩ := a
  exact ⟨⟨dx, l, h, s _ _ h1, h2.same s, h3.same s⟩, a1, a2, a3, a4⟩
theorem StAt.kp {CM CS p h : Addr} {H H' : Hp} {n : Nat} {lo hi : Option Q2} {li hj : Bool} (a : StAt CM CS H p lo hi li hj) (hh : HandAt H h n) (s : Kp h H H') : StAt CM CS H' p lo hi li hj := by
  obtain ⟨⟨dx, l, h, h1, h2, h3⟩, a1, a2, a3, a4⟩ := a
  exact ⟨⟨dx, l, h, s.get hh h1 rfl, h2.kp hh s, h3.kp hh s⟩, a1, a2, a3, a4⟩
/-! ### promises -/
/-- the tuple of two ends and two truths, between which something is -/
structure EndsAt (H : Hp) (p : Addr) (ea eb : Option Q2) (ia ib : Bool) : Prop where
  ob : ∃ va vb, H p = some (.tup [va, vb, .bl ia, .bl ib]) ∧ EndV 140 H va ea ∧ EndV 140 H vb eb
  so : someB ea eb ia ib = true
theorem EndsAt.same {H H' : Hp} {p : Addr} {ea eb : Option Q2} {ia ib : Bool} (a : EndsAt H p ea eb ia ib) (s : Same H H') : EndsAt H' p ea eb ia ib := by
  obtain ⟨⟨va, vb, h1, h2, h3⟩, h4⟩ := a
  exact ⟨⟨va, vb, s _ _ h1, h2.same s, h3.same s⟩, h4⟩
theorem EndsAt.kp {H H' : Hp} {p h : Addr} {n : Nat} {ea eb : Option Q2} {ia ib : Bool} (a : EndsAt H p ea eb ia ib) (hh : HandAt H h n) (s : Kp h H H') : EndsAt H' p ea eb ia ib := by
  obtain ⟨⟨va, vb, h1, h2, h3⟩, h4⟩ := a
  exact ⟨⟨va, vb, s.get hh h1 rfl, h2.kp hh s, h3.kp hh s⟩, h4⟩
theorem MsV.put {CM p C dx : Addr} {H : Hp} {v : V} {o : HO} (hp : H p = some (.ins C dx [])) : ∀ {m : Option Q2}, MsV CM H v m → MsV CM (upd H p o) v m
  | none, h => h
  | some _, ⟨q, h1, ⟨dy, h2⟩⟩ => ⟨q, h1, ⟨dy, by
      rw [upd_ne (ne_of h2 hp (by intro e; injection e with _ _ e; cases e))]; exact h2⟩⟩
theorem ReO.isS : ∀ {a b : Option Q2}, ReO a b → a.isSome = b.isSome
  | none, none, _ => rfl
  | some _, some _, _ => rfl
  | none, some _, h => h.elim
  | some _, none, h => h.elim
/-! ### what two stretches have in common -/
def cutLo : Option Q2 → Bool → Option Q2 → Bool → Option Q2 × Bool
  | none, _, n, j => (n, j)
  | some a, i, none, _ => (some a, i)
  | some a, i, some b, j => if ltq a b then (some b, j) else if eqq a b then (some a, i && j) else (some a, i)
def cutHi : Option Q2 → Bool → Option Q2 → Bool → Option Q2 × Bool
  | none, _, n, j => (n, j)
  | some a, i, none, _ => (some a, i)
  | some a, i, some b, j => if ltq b a then (some b, j) else if eqq a b then (some a, i && j) else (some a, i)
/-- the same end, and in or not alike where there is one -/
def Alike (x y : Option Q2 × Bool) : Prop := ReO x.1 y.1 ∧ (x.1.isSome = true → x.2 = y.2)
theorem Alike.someB {x y z w : Option Q2 × Bool} (h : Alike x y) (g : Alike z w) : My.someB x.1 z.1 x.2 z.2 = My.someB y.1 w.1 y.2 w.2 := by
  obtain ⟨x, i⟩ := x
  obtain ⟨y, j⟩ := y
  obtain ⟨z, k⟩ := z
  obtain ⟨w, l⟩ := w
  obtain ⟨h1, h2⟩ := h
  obtain ⟨g1, g2⟩ := g
  rw [someB_congr h1 g1]
  cases x with
  | none => cases y with
    | none => rfl
    | some _ => exact h1.elim
  | some a => cases z with
    | none => cases w with
      | none => cases y <;> rfl
      | some _ => exact g1.elim
    | some b =>
      have e1 : i = j := h2 rfl
      have e2 : k = l := g2 rfl
      rw [e1, e2]
/-- a Stretch, or None where nothing is between -/
def CutV (CM CS : Addr) (H : Hp) (v : V) (lo hi : Option Q2 × Bool) : Prop :=
  (someB lo.1 hi.1 lo.2 hi.2 = true ∧ ∃ r, v = .ref r ∧ StAt CM CS H r lo.1 hi.1 (lo.2 && lo.1.isSome) (hi.2 && hi.1.isSome)) ∨ (someB lo.1 hi.1 lo.2 hi.2 = false ∧ v = .non)
/-- the law's own: a tuple of four, or None -/
def DueV (H : Hp) (v : V) (lo hi : Option Q2 × Bool) : Prop :=
  (someB lo.1 hi.1 lo.2 hi.2 = true ∧ ∃ r, v = .ref r ∧ EndsAt H r lo.1 hi.1 lo.2 hi.2) ∨ (someB lo.1 hi.1 lo.2 hi.2 = false ∧ v = .non)
theorem DueV.same {H H' : Hp} {v : V} {lo hi : Option Q2 × Bool} (h : DueV H v lo hi) (s : Same H H') : DueV H' v lo hi := by
  rcases h with ⟨h1, r, h2, h3⟩ | h
  · exact .inl ⟨h1, r, h2, h3.same s⟩
  · exact .inr h
theorem CutV.same {CM CS : Addr} {H H' : Hp} {v : V} {lo hi : Option Q2 × Bool} (h : CutV CM CS H v lo hi) (s : Same H H') : CutV CM CS H' v lo hi := by
  rcases h with ⟨h1, r, h2, h3⟩ | h
  · exact .inl ⟨h1, r, h2, h3.same s⟩
  · exact .inr h
/-- what is told is what is due -/
def Match (CM CS : Addr) (H : Hp) (found due : V) : Prop :=
  (found = .non ∧ due = .non) ∨ ∃ (r d : Addr) (lo hi ea eb : Option Q2) (ia ib : Bool), found = .ref r ∧ due = .ref d ∧ EndsAt H d ea eb ia ib ∧ StAt CM CS H r lo hi (ia && ea.isSome) (ib && eb.isSome) ∧ ReO lo ea ∧ ReO hi eb
theorem Match.same {CM CS : Addr} {H H' : Hp} {f d : V} (h : Match CM CS H f d) (s : Same H H') : Match CM CS H' f d := by
  rcases h with h | ⟨r, d, lo, hi, ea, eb, ia, ib, h1, h2, h3, h4, h5, h6⟩
  · exact .inl h
  · exact .inr ⟨r, d, lo, hi, ea, eb, ia, ib, h1, h2, h3.same s, h4.same s, h5, h6⟩
theorem Re.trans {a b c : Q2} (h : Re a b) (g : Re b c) : Re a c := by
  obtain ⟨h1, h2, h3⟩ := h
  obtain ⟨g1, g2, g3⟩ := g
  refine ⟨h1, g2, Int.eq_of_mul_eq_mul_right (show b.2 ≠ 0 by omega) ?_⟩
  grind
theorem ReO.trans : ∀ {a b c : Option Q2}, ReO a b → ReO b c → ReO a c
  | none, none, none, _, _ => trivial
  | some _, some _, some _, h, g => Re.trans h g
  | none, some _, _, h, _ => h.elim
  | some _, none, _, h, _ => h.elim
  | none, none, some _, _, g => g.elim
  | some _, some _, none, _, g => g.elim
def PosO : Option Q2 → Prop
  | none => True
  | some a => 0 < a.2
theorem ReO.refl : ∀ {a : Option Q2}, PosO a → ReO a a
  | none, _ => trivial
  | some _, h => Re.refl h
theorem Alike.trans {x y z : Option Q2 × Bool} (h : Alike x y) (g : Alike y z) : Alike x z := ⟨h.1.trans g.1, fun e => (h.2 e).trans (g.2 (by rw [← h.1.isS]; exact e))⟩
theorem StAt.raw {CM CS p : Addr} {H : Hp} {lo hi : Option Q2} {li hj : Bool} (a : StAt CM CS H p lo hi li hj) {m : Str} (h1 : ¬ m = "low") (h2 : ¬ m = "high") (h3 : ¬ m = "low_in") (h4 : ¬ m = "high_in") : ∃ dx fs, H p = some (.ins CS dx fs) ∧ fs.lookup m = none := by
  obtain ⟨⟨dx, l, h, e, _⟩, _⟩ := a
  exact ⟨dx, _, e, sf_no _ _ _ _ h1 h2 h3 h4⟩
theorem EndsAt.due {H : Hp} {p : Addr} {ea eb : Option Q2} {ia ib : Bool} (a : EndsAt H p ea eb ia ib) : DueV H (.ref p) (ea, ia) (eb, ib) := .inl ⟨a.so, p, rfl, a⟩
/-! ### what a stretch holds -/
def loIn : Option Q2 → Bool → Q2 → Bool
  | none, _, _ => true
  | some a, i, x => ltq a x || (i && eqq a x)
def hiIn : Option Q2 → Bool → Q2 → Bool
  | none, _, _ => true
  | some b, j, x => ltq x b || (j && eqq x b)
theorem ltq_trans {a b c : Q2} (hb : 0 < b.2) (ha : 0 < a.2) (hc : 0 < c.2) (h : ltq a b = true) (g : ltq b c = true) : ltq a c = true := by
  unfold ltq at *
  have h := of_decide_eq_true h
  have g := of_decide_eq_true g
  refine decide_eq_true ?_
  have h2 := Int.mul_lt_mul_of_pos_right h hc
  have g2 := Int.mul_lt_mul_of_pos_right g ha
  have e1 : b.1 * a.2 * c.2 = b.1 * c.2 * a.2 := by simp only [Int.mul_assoc, Int.mul_comm, Int.mul_left_comm]
  rw [e1] at h2
  have k := Int.lt_trans h2 g2
  have e2 : a.1 * b.2 * c.2 = a.1 * c.2 * b.2 := by simp only [Int.mul_assoc, Int.mul_comm, Int.mul_left_comm]
  have e3 : c.1 * b.2 * a.2 = c.1 * a.2 * b.2 := by simp only [Int.mul_assoc, Int.mul_comm, Int.mul_left_comm]
  rw [e2, e3] at k
  exact Int.lt_of_mul_lt_mul_right k (Int.le_of_lt hb)
/-! ### sums, once more, by the size of the new bottom -/
def sp_bin2 (C : Addr) (f g : Int → Int → Int → Int → Int) : Sp := fun vs H Q _ => ∃ (p q : Addr) (t u t' u' : Int), vs = [.ref p, .ref q] ∧ MAt C H p t u ∧ MAt C H q t' u' ∧ 0 < u ∧ 0 < u' ∧ Sz 100000 t ∧ Sz 100000 u ∧ Sz 100000 t' ∧ Sz 100000 u' ∧ Sz 9000 (u * u') ∧
  ∀ (r : Addr) (t2 u2 : Int) (H' : Hp), H r = none → Same H H' → MAt C H' r t2 u2 → Fr t2 u2 (f t u t' u') (g t u t' u') → Q (.ref r) H'
/-- a Measure that the stretch holds -/
structure Held (CM : Addr) (H : Hp) (r : Addr) (x : Q2) (lo hi : Option Q2) (li hj : Bool) : Prop where
  at_ : MAt CM H r x.1 x.2
  pos : 0 < x.2
  s1 : Sz 15000 x.1
  s2 : Sz 15000 x.2
  low : loIn lo li x = true
  high : hiIn hi hj x = true
/-- a Measure in both, or None -/
def ShV (CM : Addr) (H : Hp) (v : V) (m1 m2 n1 n2 : Option Q2) (i1 i2 j1 j2 : Bool) : Prop :=
  (someB (cutLo m1 i1 n1 j1).1 (cutHi m2 i2 n2 j2).1 (cutLo m1 i1 n1 j1).2 (cutHi m2 i2 n2 j2).2 = true ∧ ∃ r x, v = .ref r ∧ Held CM H r x m1 m2 i1 i2 ∧ Held CM H r x n1 n2 j1 j2) ∨
  (someB (cutLo m1 i1 n1 j1).1 (cutHi m2 i2 n2 j2).1 (cutLo m1 i1 n1 j1).2 (cutHi m2 i2 n2 j2).2 = false ∧ v = .non)
theorem Held.same {CM r : Addr} {H H' : Hp} {x : Q2} {lo hi : Option Q2} {li hj : Bool} (a : Held CM H r x lo hi li hj) (s : Same H H') : Held CM H' r x lo hi li hj := ⟨a.at_.same s, a.pos, a.s1, a.s2, a.low, a.high⟩
theorem ShV.same {CM : Addr} {H H' : Hp} {v : V} {m1 m2 n1 n2 : Option Q2} {i1 i2 j1 j2 : Bool} (a : ShV CM H v m1 m2 n1 n2 i1 i2 j1 j2) (s : Same H H') : ShV CM H' v m1 m2 n1 n2 i1 i2 j1 j2 := by
  rcases a with ⟨e, r, x, h1, h2, h3⟩ | h
  · exact .inl ⟨e, r, x, h1, h2.same s, h3.same s⟩
  · exact .inr h
theorem eqq_self (a : Q2) : eqq a a = true := decide_eq_true rfl
/-! ### lists of points, made in comprehensions -/
/-- all but lists stays -/
def Nl (H H' : Hp) : Prop := ∀ c o, H c = some o → notHand o = true → H' c = some o
theorem Nl.of {H H' : Hp} (s : Same H H') : Nl H H' := fun c o e _ => s c o e
theorem Nl.put {H : Hp} {l : Addr} {xs : List V} {u : HO} (h : H l = some (.lst xs)) : Nl H (upd H l u) := fun c o e no => up2 h e no
theorem EndV.nl {k : Nat} {H H' : Hp} {v : V} : ∀ {e : Option Q2}, EndV k H v e → Nl H H' → EndV k H' v e
  | none, h, _ => h
  | some _, ⟨p, h1, h2, h3⟩, s => ⟨p, h1, s _ _ h2 rfl, h3⟩
def PtV (k : Nat) (H : Hp) (v : V) : Prop := ∃ a : Q2, EndV k H v (some a)
theorem PtV.nl {k : Nat} {H H' : Hp} {v : V} (h : PtV k H v) (s : Nl H H') : PtV k H' v := by
  obtain ⟨a, h⟩ := h
  exact ⟨a, h.nl s⟩
end My
namespace My
open PySem PySem.Spec PyProof.Rows L2
/-! ### errors -/
section
variable {P : Program} {w : World} {K : PySem.W.Frag} {mg : Str → Option Value} {base : Heap} {k : Nat} {f : Addr} {fd : FuncData} {ps : List Str}
/-- a def that lets nothing out keeps its promise where more may be let out -/
theorem lift {CX : CXT} {sp : Sp} (F : FnOk P w K mg base CX0 k f fd ps sp) : FnOk P w K mg base CX k f fd ps sp :=
  ⟨F.len, fun A outer s H args us vs Q E hr he hb hv hs => codeAny_mono (F.run A outer s H args us vs Q E hr he hb hv hs) fun r s' hq => by
    cases r with
    | error e => exact False.elim hq
    | ok fl => cases fl <;> exact hq⟩
end
section
variable {X : Cx} {CX : CXT} {k : Nat} {f C : Addr} {fd : FuncData} {ps : List Str} {sp : Sp} {dvs : List V} {ds : List Value} {x : Str} {p pos : Pos} {e : Expr} {es : List Expr} {t : TA} {E : L2.St → XK}
/-- C(e, ..) in a body from which an error may come -/
def tMakeS (C : Addr) (sp : Sp) (dvs : List V) (E : L2.St → XK) (t : TA) : TE := fun σ H Q => t σ H fun vs H1 => ∀ x dx, H1 x = none → H1 dx = none → dx ≠ x →
  sp (.ref x :: (vs ++ dvs)) (upd (upd H1 dx (.own x)) x (.ins C dx [])) (fun v H2 => v = .non ∧ Q (.ref x) H2) (E σ)
theorem pe_makeS (M : Mk X.K C f) (F : FnOk X.prog X.w X.K X.mg X.base CX k f fd ps sp) (hr : Room (k + 1) X.A) (hg : Gl X x) (hm : X.mg x = some (.ref C)) (hb : Binds X.K fd ps ds) (hd : Vals dvs ds) (hx : ∀ σ, PassesAt CX X σ (E σ))
    (ha : PA X (e :: es) t) (hdb : (x == ("__debug__" : Str)) = false := by decide) (he : starEach (e :: es) X.env = (false, eval e X.env) :: starEach es X.env := by rfl) (hpl : (backTo pos (starEach es X.env)).any (·.1) = false := by rfl) :
    PE X (.Call (.Name x p) (e :: es) [] pos) (tMakeS C sp dvs E t) := by
  refine ⟨fun pins s0 σ H0 Q I0 h => ?_⟩
  refine wpAny_Call_Name_kw (ld_glob I0 hg hm ?_ hdb)
  refine PySem.W.callWith_K (h₀ := X.base) I0.ok.mod.kin M.kp (thn (ha.run pos pins s0 σ H0 _ I0 h) fun us s ⟨vs, H, I, r, q⟩ => ⟨I.kIn, ?_⟩) he hpl
  have hq := q (s.heap.objs.size + 1) s.heap.objs.size (I.hok.fresh (Nat.le_succ _)) (I.hok.fresh (Nat.le_refl _)) (Nat.ne_of_lt (Nat.lt_succ_self _))
  have I2 := Inv.made (C := C) I
  have r2 : Vals (V.ref (s.heap.objs.size + 1) :: (vs ++ dvs)) (Value.ref (s.heap.objs.size + 1) :: (us ++ ds)) := .cons rfl (r.append hd)
  have hl : (Value.ref (s.heap.objs.size + 1) :: us ++ ds).length = ps.length := by
    have z := r2.length
    rw [F.len _ _ _ _ hq] at z
    exact z.symm
  refine wpAny_call (make_map (f := f) I.kIn M.makes M.init (beq_iff_eq.mp M.fn) (codeAny_mono (F.run _ X.stack _ _ ⟨Value.ref (s.heap.objs.size + 1) :: us, []⟩ (Value.ref (s.heap.objs.size + 1) :: (us ++ ds)) _ _ (E σ) (hr.make C us [])
    (I2.env0.make C us []) (hb _ (Value.ref (s.heap.objs.size + 1) :: us) I2.kIn hl) r2 hq) fun r s' hq' => ?_))
  cases r with
  | error e => exact hx σ pins _ _ e s' I2 hq'
  | ok fl =>
    cases fl with
    | ret u =>
      obtain ⟨v, H', I3, rv, ev, q3⟩ := I2.after hq'
      subst ev
      exact ⟨rv, ⟨V.ref (s.heap.objs.size + 1), H', I3, rfl, q3⟩⟩
    | next => exact False.elim hq'
    | brk => exact False.elim hq'
    | cont => exact False.elim hq'
end
/-! ### several clauses, each with the error by the same name; nothing leaves -/
/-! ### facts of error classes -/
def excCB (x : Str) : PySem.W.Frag → Bool := fun K => He.eqO (PySem.W.findIn K (.ref (He.ga K x)) "__getattribute__") (some (some (.builtin "BaseException.__getattribute__"))) && (He.eqO (PySem.W.findIn K (.ref (He.ga K x)) "__getattr__") (some none) &&
  (decide (PySem.W.subIn K (.ref (He.ga K x)) (.type "BaseException") = some true) && (PySem.W.hasDictIn K (He.ga K x) && isCB x K)))
theorem excC_ok {x : Str} {K : PySem.W.Frag} (c : excCB x K = true) : ExcC K (He.ga K x) := by
  obtain ⟨c1, c⟩ := He.ba c
  obtain ⟨c2, c⟩ := He.ba c
  obtain ⟨c3, c⟩ := He.ba c
  obtain ⟨c4, c5⟩ := He.ba c
  have z := isC_ok c5
  exact ⟨He.eqO_ok c1, He.eqO_ok c2, of_decide_eq_true c3, c4, z.ha, z.hn, z.htk, z.hm⟩
/-- an error class without an __init__ of its own, made and raised -/
structure ExcF (K : PySem.W.Frag) (C : Addr) (bm : List Value) (nw : String) : Prop where
  e : PySem.W.excIn K C bm nw = true
  k : PySem.W.keepIn K (.ref C) = true
  b : PySem.W.subIn K (.ref C) (.type "BaseException") = some true
  t : PySem.W.typeIn K (.ref C) = some (.type "type")
def excFB (x : Str) (bm : List Value) (nw : String) : PySem.W.Frag → Bool := fun K => PySem.W.excIn K (He.ga K x) bm nw && (PySem.W.keepIn K (.ref (He.ga K x)) && (decide (PySem.W.subIn K (.ref (He.ga K x)) (.type "BaseException") = some true) && decide (PySem.W.typeIn K (.ref (He.ga K x)) = some (.type "type"))))
theorem excF_ok {x : Str} {bm : List Value} {nw : String} {K : PySem.W.Frag} (c : excFB x bm nw K = true) : ExcF K (He.ga K x) bm nw := by
  obtain ⟨c1, c⟩ := He.ba c
  obtain ⟨c2, c⟩ := He.ba c
  obtain ⟨c3, c4⟩ := He.ba c
  exact ⟨c1, c2, of_decide_eq_true c3, of_decide_eq_true c4⟩
def exmB (x y : Str) (r : Bool) : PySem.W.Frag → Bool := fun K => decide (PySem.W.exmOne K (.ref (He.ga K x)) (.ref (He.ga K y)) = some r)
theorem exm_ok {x y : Str} {r : Bool} {K : PySem.W.Frag} (c : exmB x y r K = true) : PySem.W.exmOne K (.ref (He.ga K x)) (.ref (He.ga K y)) = some r := of_decide_eq_true c
/-! ### things of any kind -/
/-- a thing that is no Measure and no Stretch; h: not the hand -/
def Thing (h : Addr) (H : Hp) (v : V) : Prop := v = .non ∨ (∃ b, v = .bl b) ∨ (∃ i, v = .int i) ∨ (∃ z, v = .str z) ∨ (∃ a xs, v = .ref a ∧ a ≠ h ∧ H a = some (.lst xs)) ∨ (∃ a xs, v = .ref a ∧ H a = some (.tup xs)) ∨ (∃ a kvs, v = .ref a ∧ H a = some (.dK kvs))
theorem Thing.same {h : Addr} {H H' : Hp} {v : V} (t : Thing h H v) (s : Same H H') : Thing h H' v := by
  rcases t with t | t | t | t | ⟨a, xs, e, n, t⟩ | ⟨a, xs, e, t⟩ | ⟨a, xs, e, t⟩
  · exact .inl t
  · exact .inr (.inl t)
  · exact .inr (.inr (.inl t))
  · exact .inr (.inr (.inr (.inl t)))
  · exact .inr (.inr (.inr (.inr (.inl ⟨a, xs, e, n, s _ _ t⟩))))
  · exact .inr (.inr (.inr (.inr (.inr (.inl ⟨a, xs, e, s _ _ t⟩)))))
  · exact .inr (.inr (.inr (.inr (.inr (.inr ⟨a, xs, e, s _ _ t⟩)))))
theorem Thing.kp {h : Addr} {n : Nat} {H H' : Hp} {v : V} (t : Thing h H v) (hh : HandAt H h n) (s : Kp h H H') : Thing h H' v := by
  rcases t with t | t | t | t | ⟨a, xs, e, n, t⟩ | ⟨a, xs, e, t⟩ | ⟨a, xs, e, t⟩
  · exact .inl t
  · exact .inr (.inl t)
  · exact .inr (.inr (.inl t))
  · exact .inr (.inr (.inr (.inl t)))
  · exact .inr (.inr (.inr (.inr (.inl ⟨a, xs, e, n, s _ _ t n⟩))))
  · exact .inr (.inr (.inr (.inr (.inr (.inl ⟨a, xs, e, s.get hh t rfl⟩)))))
  · exact .inr (.inr (.inr (.inr (.inr (.inr ⟨a, xs, e, s.get hh t rfl⟩)))))
/-- its class, as isinstance asks it -/
theorem Thing.ty {K : PySem.W.Frag} {h : Addr} {H : Hp} {v : V} (t : Thing h H v) : ∃ n : String, TyX K H v (.type n) ∧ (n = "NoneType" ∨ n = "bool" ∨ n = "int" ∨ n = "str" ∨ n = "list" ∨ n = "tuple" ∨ n = "dict") := by
  rcases t with rfl | ⟨b, rfl⟩ | ⟨i, rfl⟩ | ⟨z, rfl⟩ | ⟨a, xs, rfl, n, t⟩ | ⟨a, xs, rfl, t⟩ | ⟨a, xs, rfl, t⟩
  · exact ⟨_, .base .non, .inl rfl⟩
  · exact ⟨_, .base (.bl b), .inr (.inl rfl)⟩
  · exact ⟨_, .base (.int i), .inr (.inr (.inl rfl))⟩
  · exact ⟨_, .base (.str z), .inr (.inr (.inr (.inl rfl)))⟩
  · exact ⟨_, .base (.lst t), .inr (.inr (.inr (.inr (.inl rfl))))⟩
  · exact ⟨_, .base (.tup t), .inr (.inr (.inr (.inr (.inr (.inl rfl)))))⟩
  · exact ⟨_, .base (.dK t), .inr (.inr (.inr (.inr (.inr (.inr rfl)))))⟩
end My
namespace My
open PySem PySem.Spec PyProof.Rows L2
/-! ### == and != by an own __eq__, beside things of any kind -/
section
open AutoSeq1 (wpAny_loadPart')
theorem noEq_int (b : Int) (u : Tok) (l C dx : Addr) : Meets (Builtin.«int.__eq__» ⟨[.int b u, .ref l], []⟩) (fun _ R s => s.heap.get? l = some (PySem.W.instObj C dx) ∧ R (.ok (.ret .notImplemented)) s) :=
  .of_wp fun prog w A R s h => by
    obtain ⟨hp, g, d, tk, os⟩ := s
    obtain ⟨hl, h⟩ := h
    unfold PySem.W.instObj at hl
    wp_walk using wpAny_loadPart' hl, wpAny_load hl
    exact ⟨_, rfl, h⟩
theorem noEq_bool (b : Bool) (l C dx : Addr) : Meets (Builtin.«int.__eq__» ⟨[.bool b, .ref l], []⟩) (fun _ R s => s.heap.get? l = some (PySem.W.instObj C dx) ∧ R (.ok (.ret .notImplemented)) s) :=
  .of_wp fun prog w A R s h => by
    obtain ⟨hp, g, d, tk, os⟩ := s
    obtain ⟨hl, h⟩ := h
    unfold PySem.W.instObj at hl
    wp_walk using wpAny_loadPart' hl, wpAny_load hl
    exact ⟨_, rfl, h⟩
theorem noEq_str (b : Str) (u : Tok) (l C dx : Addr) : Meets (Builtin.«str.__eq__» ⟨[.str b u, .ref l], []⟩) (fun _ R s => s.heap.get? l = some (PySem.W.instObj C dx) ∧ R (.ok (.ret .notImplemented)) s) :=
  .of_wp fun prog w A R s h => by
    obtain ⟨hp, g, d, tk, os⟩ := s
    obtain ⟨hl, h⟩ := h
    unfold PySem.W.instObj at hl
    wp_walk using wpAny_loadPart' hl, wpAny_load hl
    exact ⟨_, rfl, h⟩
variable {prog : Program} {w : World} {A : Around} {E : Value → Shared → Prop} {s : Shared}
theorem noEq_list {l y : Addr} {R : Result → Shared → Prop} (L : PySem.W.Looks (model prog w) s.heap (isInstance (.ref y) (.type "list")) false) (h : R (.ok (.ret .notImplemented)) s) :
    wpAny (model prog w) A.in1 (Builtin.«list.__eq__» ⟨[.ref l, .ref y], []⟩) (GQ.FinOf prog w A R) (fun e s' => R (.error e) s') s := by
  obtain ⟨hp, g, d, tk, os⟩ := s
  wp_walk using L.at
  exact h
theorem noEq_tuple {l y : Addr} {R : Result → Shared → Prop} (L : PySem.W.Looks (model prog w) s.heap (isInstance (.ref y) (.type "tuple")) false) (h : R (.ok (.ret .notImplemented)) s) :
    wpAny (model prog w) A.in1 (Builtin.«tuple.__eq__» ⟨[.ref l, .ref y], []⟩) (GQ.FinOf prog w A R) (fun e s' => R (.error e) s') s := by
  obtain ⟨hp, g, d, tk, os⟩ := s
  wp_walk using L.at
  exact h
end
/-- a value of a built-in kind -/
inductive Bk (H : Hp) : V → String → Prop where
  | non : Bk H .non "NoneType"
  | bl (b : Bool) : Bk H (.bl b) "bool"
  | int (i : Int) : Bk H (.int i) "int"
  | str (z : Str) : Bk H (.str z) "str"
  | lst {a : Addr} {xs : List V} (e : H a = some (.lst xs)) : Bk H (.ref a) "list"
  | tup {a : Addr} {xs : List V} (e : H a = some (.tup xs)) : Bk H (.ref a) "tuple"
theorem Bk.ty {K : PySem.W.Frag} {H : Hp} {x : V} {T : String} (b : Bk H x T) : TyX K H x (.type T) := by
  cases b with
  | non => exact .base .non
  | bl b => exact .base (.bl b)
  | int i => exact .base (.int i)
  | str z => exact .base (.str z)
  | lst e => exact .base (.lst e)
  | tup e => exact .base (.tup e)
theorem Bk.same {H H' : Hp} {x : V} {T : String} (b : Bk H x T) (s : Same H H') : Bk H' x T := by
  cases b with
  | non => exact .non
  | bl b => exact .bl b
  | int i => exact .int i
  | str z => exact .str z
  | lst e => exact .lst (s _ _ e)
  | tup e => exact .tup (s _ _ e)
/-- the kinds that no own class stands under -/
def kinds : List String := ["NoneType", "bool", "int", "str", "list", "tuple"]
theorem Bk.mem {H : Hp} {x : V} {T : String} (b : Bk H x T) : T ∈ kinds := by
  cases b <;> simp [kinds]
/-- what == and != ask of a class with an own __eq__ and no own __ne__ -/
structure EqC (K : PySem.W.Frag) (C : Addr) : Prop where
  ne : PySem.W.findIn K (.ref C) "__ne__" = some (some (.builtin "object.__ne__"))
  ob : PySem.W.mroIn K C (.type "object") = some true
  sub : ∀ T, T ∈ kinds → PySem.W.subIn K (.ref C) (.type T) = some false
  nf : ∀ T, T ∈ kinds → PySem.W.notFirst K C (.type T) = true
  kit : ∀ T, T ∈ kinds → PySem.W.kitOne K (.type T) (.ref C) = some false
def eqCB (x : Str) : PySem.W.Frag → Bool := fun K => He.eqO (PySem.W.findIn K (.ref (He.ga K x)) "__ne__") (some (some (.builtin "object.__ne__"))) && (decide (PySem.W.mroIn K (He.ga K x) (.type "object") = some true) &&
  ((kinds.all fun T => decide (PySem.W.subIn K (.ref (He.ga K x)) (.type T) = some false)) && ((kinds.all fun T => PySem.W.notFirst K (He.ga K x) (.type T)) && (kinds.all fun T => decide (PySem.W.kitOne K (.type T) (.ref (He.ga K x)) = some false)))))
theorem eqC_ok {x : Str} {K : PySem.W.Frag} (c : eqCB x K = true) : EqC K (He.ga K x) := by
  obtain ⟨c1, c⟩ := He.ba c
  obtain ⟨c2, c⟩ := He.ba c
  obtain ⟨c3, c⟩ := He.ba c
  obtain ⟨c4, c5⟩ := He.ba c
  exact ⟨He.eqO_ok c1, of_decide_eq_true c2, fun T h => of_decide_eq_true (List.all_eq_true.mp c3 T h), fun T h => List.all_eq_true.mp c4 T h, fun T h => of_decide_eq_true (List.all_eq_true.mp c5 T h)⟩
section
variable {X : Cx} {pins : List (Addr × Obj)} {σ : L2.St} {H : Hp} {s : Shared} {A : Around} {E : Value → Shared → Prop}
theorem Bk.declines {x : V} {u : Value} {T : String} {y C dx : Addr} {fs : List (Str × V)} (b : Bk H x T) (I : Inv X pins σ H s) (rx : RelV x u) (hy : H y = some (.ins C dx fs)) (c : EqC X.K C) :
    s.TypeIs u T ∧ ∃ id, Slot T "__eq__" id ∧ ∀ Q' : Value → Shared → Prop, Q' .notImplemented s → wpAny (model X.prog X.w) A (call (.builtin id) [u, .ref y]) Q' E s := by
  obtain ⟨_, _, _, hg, _⟩ := (show ObjOk X.prog X.w H s.heap y (.ins C dx fs) from I.hok y _ hy)
  obtain ⟨mA, J, _⟩ := ins_get I.hok hy
  obtain ⟨od, J, _⟩ := J.look
  have sub : ∀ T, T ∈ kinds → PySem.W.Looks (model X.prog X.w) s.heap (isInstance (.ref y) (.type T)) false := fun T h => (J.type).andThen (PySem.W.looks_subIn I.kIn (c.sub T h))
  cases b with
  | non =>
    cases (show u = Value.none from rx)
    have t : s.TypeIs Value.none "NoneType" := by exact rfl
    exact ⟨t, _, F.slot_NoneType_eq, fun Q' q => call_gives F.slot_NoneType_eq t F.entry_NoneType_eq (F.args_NoneType_eq_2 _ _) (SeqAt.NoneType___eq___none_ref_0 y) q⟩
  | bl b =>
    cases (show u = Value.bool b from rx)
    have t : s.TypeIs (Value.bool b) "bool" := by exact rfl
    exact ⟨t, _, F.slot_bool_eq, fun Q' q => call_meets F.slot_bool_eq t F.entry_int_eq (F.args_int_eq_2 _ _) (noEq_bool b y C dx) ⟨hg, q⟩⟩
  | int i =>
    obtain ⟨t, e⟩ := (show ∃ t, u = Value.int i t from rx)
    subst e
    exact ⟨typeIs_int s i t, _, F.slot_int_eq, fun Q' q => call_meets F.slot_int_eq (typeIs_int s i t) F.entry_int_eq (F.args_int_eq_2 _ _) (noEq_int i t y C dx) ⟨hg, q⟩⟩
  | str z =>
    obtain ⟨t, e⟩ := (show ∃ t, u = Value.str z t from rx)
    subst e
    exact ⟨typeIs_str s z t, _, F.slot_str_eq, fun Q' q => call_meets F.slot_str_eq (typeIs_str s z t) F.entry_str_eq (F.args_str_eq_2 _ _) (noEq_str z t y C dx) ⟨hg, q⟩⟩
  | @lst a xs e =>
    cases (show u = Value.ref a from rx)
    obtain ⟨_, its, n, _, h1⟩ := (show ObjOk X.prog X.w H s.heap a (.lst xs) from I.hok a _ e)
    exact ⟨⟨_, h1, rfl⟩, _, F.slot_list_eq, fun Q' q => GQ.call_here F.slot_list_eq ⟨_, h1, rfl⟩ F.entry_list_eq (F.args_list_eq_2 _ _) (noEq_list (sub _ (by simp [kinds])) q)⟩
  | @tup a xs e =>
    cases (show u = Value.ref a from rx)
    obtain ⟨_, its, _, o, h1, h2, _⟩ := (show ObjOk X.prog X.w H s.heap a (.tup xs) from I.hok a _ e)
    exact ⟨⟨o, h1, h2⟩, _, F.slot_tuple_eq, fun Q' q => GQ.call_here F.slot_tuple_eq ⟨o, h1, h2⟩ F.entry_tuple_eq (F.args_tuple_eq_2 _ _) (noEq_tuple (sub _ (by simp [kinds])) q)⟩
end
/-- how == answers: x == y tells b, and nothing changes -/
abbrev Eqb := V → V → Hp → Bool → Prop
def RcB (X : Cx) (n : Nat) (D : Eqb) : Prop := ∀ (A : Around) (pins : List (Addr × Obj)) (s : Shared) (σ : L2.St) (H : Hp) (x y : V) (u v : Value) (b : Bool), Sub X n A → Inv X pins σ H s → RelV x u → RelV y v → D x y H b →
  wpAny (model X.prog X.w) A (richCompare .Eq u v) (fun r s' => r = .bool b ∧ Inv X pins σ H s') X.xe s
def EqB (X : Cx) (n : Nat) (D : Eqb) : Prop := ∀ (A : Around) (pins : List (Addr × Obj)) (s : Shared) (σ : L2.St) (H : Hp) (x y : V) (u v : Value) (b : Bool), Sub X n A → Inv X pins σ H s → RelV x u → RelV y v → D x y H b →
  wpAny (model X.prog X.w) A (eqBool u v) (fun r s' => r = b ∧ Inv X pins σ H s') X.xe s
def spEqB (R : Eqb) : Sp := fun vs H Q _ => ∃ x y b, vs = [x, y] ∧ R x y H b ∧ Q (.bl b) H
/-- the own object first -/
def DOwn (K : PySem.W.Frag) (C : Addr) (R : Eqb) : Eqb := fun x y H b => ∃ a dx fs tb, x = .ref a ∧ H a = some (.ins C dx fs) ∧ TyX K H y tb ∧ PySem.W.notFirst K C tb = true ∧ (x = y → b = true) ∧ R x y H b
/-- the own object behind a thing of a built-in kind -/
def DRef (C : Addr) (R : Eqb) : Eqb := fun x y H b => ∃ a dx fs T, y = .ref a ∧ H a = some (.ins C dx fs) ∧ Bk H x T ∧ (x = y → b = true) ∧ R y x H b
def DOr (D D' : Eqb) : Eqb := fun x y H b => D x y H b ∨ D' x y H b
theorem rel_ref {y : V} {a : Addr} (r : RelV y (.ref a)) : y = .ref a := by
  cases y with
  | ref b => exact congrArg V.ref (Value.ref.inj (show Value.ref a = Value.ref b from r)).symm
  | non => exact nomatch (show Value.ref a = Value.none from r)
  | bl b => exact nomatch (show Value.ref a = Value.bool b from r)
  | int i => obtain ⟨t, e⟩ := (show ∃ t, Value.ref a = Value.int i t from r); exact nomatch e
  | str z => obtain ⟨t, e⟩ := (show ∃ t, Value.ref a = Value.str z t from r); exact nomatch e
  | flt z => obtain ⟨t, e⟩ := (show ∃ t, Value.ref a = Value.float z t from r); exact nomatch e
  | byt z => obtain ⟨t, e⟩ := (show ∃ t, Value.ref a = Value.bytes z t from r); exact nomatch e
  | ty z => exact nomatch (show Value.ref a = Value.type z from r)
section
variable {X : Cx} {n : Nat} {CX : CXT} {C f : Addr} {fd : FuncData} {ps : List Str} {R D D' : Eqb} {E : XK}
theorem RcB.mono {m : Nat} (h : RcB X n D) (l : n ≤ m) : RcB X m D := fun A pins s σ H x y u v b sb I rx ry d => h A pins s σ H x y u v b (sb.mono l) I rx ry d
theorem EqB.mono {m : Nat} (h : EqB X n D) (l : n ≤ m) : EqB X m D := fun A pins s σ H x y u v b sb I rx ry d => h A pins s σ H x y u v b (sb.mono l) I rx ry d
theorem RcB.or (h : RcB X n D) (h' : RcB X n D') : RcB X n (DOr D D') := fun A pins s σ H x y u v b sb I rx ry d => d.elim (h A pins s σ H x y u v b sb I rx ry) (h' A pins s σ H x y u v b sb I rx ry)
theorem EqB.or (h : EqB X n D) (h' : EqB X n D') : EqB X n (DOr D D') := fun A pins s σ H x y u v b sb I rx ry d => d.elim (h A pins s σ H x y u v b sb I rx ry) (h' A pins s σ H x y u v b sb I rx ry)
theorem eqFn_at (F : FnOk X.prog X.w X.K X.mg X.base CX n f fd ps (spEqB R)) (hb : Binds X.K fd ps []) (hx : Passes CX X E) {A : Around} {pins : List (Addr × Obj)} {s : Shared} {σ : L2.St} {H : Hp} {x y : V} {u v : Value} {b : Bool}
    (sb : Sub X n A) (I : Inv X pins σ H s) (rx : RelV x u) (ry : RelV y v) (d : R x y H b) : wpAny (model X.prog X.w) A (call (.ref f) [u, v]) (fun r s' => r = .bool b ∧ Inv X pins σ H s') X.xe s := by
  have hsp : spEqB R [x, y] H (fun z H' => z = .bl b ∧ H' = H) E := ⟨x, y, b, rfl, d, rfl, rfl⟩
  have e := I.env0
  have e0 : Env0 X.prog X.w X.K X.mg X.base A X.stack s H := ⟨by rw [sb.fr]; exact e.frames, e.mod, e.bs, e.bsz, e.funs, e.frf, e.hok, e.bare⟩
  have hl := F.len _ _ _ _ hsp
  have r2 : Vals [x, y] [u, v] := .cons rx (.cons ry .nil)
  have hbs := hb s [u, v] I.kIn (by simpa using hl)
  rw [List.append_nil] at hbs
  refine wpAny_call (codeAny_mono (F.run A X.stack s H ⟨[u, v], []⟩ [u, v] [x, y] _ E sb.room e0 hbs r2 hsp) fun r s' hq => ?_)
  cases r with
  | error e => exact hx pins σ H s e s' I hq
  | ok fl =>
    cases fl with
    | ret w =>
      obtain ⟨z, H', I', rz, ez, eh⟩ := I.after hq
      subst ez eh
      exact ⟨rz, I'⟩
    | next => exact False.elim hq
    | brk => exact False.elim hq
    | cont => exact False.elim hq
theorem rcB_own (F : FnOk X.prog X.w X.K X.mg X.base CX n f fd ps (spEqB R)) (hm : Meth X.K C "__eq__" f) (hb : Binds X.K fd ps []) (hx : Passes CX X E) : RcB X n (DOwn X.K C R) := by
  intro A pins s σ H x y u v b sb I rx ry d
  obtain ⟨a, dx, fs, tb, rfl, ha, ty, nf, _, d⟩ := d
  cases rx
  obtain ⟨mA, J, _⟩ := ins_get I.hok ha
  obtain ⟨od, J, _⟩ := J.look
  obtain ⟨m, hF⟩ := I.fr
  obtain ⟨P, Z, p, _⟩ := kit_of I ry ty
  refine PySem.W.cmp_K (op := .Eq) (tb := tb) sb.room.units0 hF I.ok.mod.kin J (Z.ty _ _ I.kIn p) nf hm.at_ hm.fn ?_
  refine thn (eqFn_at F hb hx sb I (x := V.ref a) rfl ry d) fun r s' q => ?_
  obtain ⟨rfl, I'⟩ := q
  exact ⟨rfl, I'⟩
theorem rcB_ref (F : FnOk X.prog X.w X.K X.mg X.base CX n f fd ps (spEqB R)) (hm : Meth X.K C "__eq__" f) (c : EqC X.K C) (hb : Binds X.K fd ps []) (hx : Passes CX X E) : RcB X n (DRef C R) := by
  intro A pins s σ H x y u v b sb I rx ry d
  obtain ⟨a, dx, fs, T, rfl, ha, bk, _, d⟩ := d
  cases ry
  obtain ⟨mA, J, _⟩ := ins_get I.hok ha
  obtain ⟨od, J, _⟩ := J.look
  obtain ⟨ht, id, sl, dec⟩ := bk.declines (A := A) (E := X.xe) I rx ha c
  unfold richCompare
  simp only [ht.oneThing_none]
  refine wpAny_holding (wpAny_bind (wpAny_cRoomFor sb.room.units0 ?_))
  refine wpAny_bind (wpAny_typeOf ht (wpAny_bind (J.type.here ?_)))
  have e1 : (Value.type T != Value.ref C) = true := by rfl
  simp only [e1, if_true]
  refine wpAny_bind ((PySem.W.looks_subIn I.kIn (c.sub T bk.mem)).here ?_)
  simp only [Bool.false_eq_true, if_false, Bool.not_false, if_true]
  refine wpAny_bind (m := tryCompare u _ (.ref a)) (wpAny_tryCompare_declines ht sl (dec _ ⟨rfl, ?_⟩))
  refine wpAny_bind (m := tryCompare (.ref a) _ u) ?_
  unfold tryCompare
  refine wpAny_bind (PySem.W.ifBound_K I.kIn J hm.at_ hm.fn (thn (eqFn_at F hb hx sb I (x := V.ref a) rfl rx d) fun r s' q => ?_))
  obtain ⟨rfl, I'⟩ := q
  exact wpAny_pure (wpAny_pure ⟨rfl, I'⟩)
theorem eqB_own (h : RcB X n (DOwn X.K C R)) : EqB X n (DOwn X.K C R) := by
  intro A pins s σ H x y u v b sb I rx ry d
  have d0 := d
  obtain ⟨a, dx, fs, tb, rfl, ha, ty, nf, xy, _⟩ := d
  cases rx
  unfold eqBool
  refine wpAny_holding ?_
  refine wpAny_ite_split (fun e => ?_) (fun e => ?_)
  · have e : Value.ref a = v := eq_of_beq e
    subst e
    have e2 := rel_ref ry
    exact wpAny_bind (wpAny_rule (wpAny_pure ⟨(xy e2.symm).symm, I⟩))
  · refine wpAny_bind (thn (h A pins s σ H (.ref a) y _ v b sb I rfl ry d0) fun r s' q => ?_)
    obtain ⟨rfl, I'⟩ := q
    exact wpAny_truthy_bool ⟨rfl, I'⟩
def rEqB (D : Eqb) : R2 := fun x y H Q => ∃ b, D x y H b ∧ Q (.bl b) H
theorem op_eqB (h : RcB X n D) (hr : Room n X.A) : OpR X (compareOp .Eq) (rEqB D) := by
  intro pins s σ H x y u v Q I rx ry hq
  obtain ⟨b, d, q⟩ := hq
  show wpAny (model X.prog X.w) X.A (richCompare .Eq u v) (EP X pins σ Q) X.xe s
  refine thn (h X.A pins s σ H x y u v b ⟨hr, rfl⟩ I rx ry d) fun r s' z => ?_
  obtain ⟨rfl, I'⟩ := z
  exact ⟨.bl b, H, I', rfl, q⟩
/-- x != y, by the own == of x turned about -/
theorem op_neB (F : FnOk X.prog X.w X.K X.mg X.base CX n f fd ps (spEqB R)) (hm : Meth X.K C "__eq__" f) (c : EqC X.K C) (hb : Binds X.K fd ps []) (hx : Passes CX X E) (hr : Room (n + 1) X.A) :
    OpR X (compareOp .NotEq) (fun x y H Q => ∃ b, DOwn X.K C R x y H b ∧ Q (.bl (!b)) H) := by
  intro pins s σ H x y u v Q I rx ry hq
  obtain ⟨b, ⟨a, dx, fs, tb, rfl, ha, ty, nf, _, d⟩, q⟩ := hq
  cases rx
  show wpAny (model X.prog X.w) X.A (richCompare .NotEq (.ref a) v) (EP X pins σ Q) X.xe s
  obtain ⟨mA, J, _⟩ := ins_get I.hok ha
  obtain ⟨od, J, _⟩ := J.look
  obtain ⟨P, Z, p, _⟩ := kit_of I ry ty
  have sb : Sub X (n + 1) X.A := ⟨hr, rfl⟩
  have call1 : wpAny (model X.prog X.w) X.A (call (.builtin "object.__ne__") [.ref a, v]) (fun r s' => r = .bool (!b) ∧ Inv X pins σ H s') X.xe s := by
    refine wpAny_call (codeAny_call_builtin PySem.F.slot_object_ne.plain PySem.F.cmpEntry_ne (PySem.W.check_slot PySem.F.cmpKind_ne PySem.F.cmpSplit_ne (J.type.andThen (PySem.W.looks_mroIn I.kIn c.ob)) (PySem.F.cmpArgs_ne _ _) ?_))
    unfold Builtin.«object.__ne__»
    refine wpAny_bind (wpAny_pure ?_)
    refine wpAny_bind (wpAny_cRoomFor sb.in1.room.units0 ?_)
    refine wpAny_bind (PySem.W.ifBound_K I.kIn J hm.at_ hm.fn (thn (eqFn_at F hb hx sb.in1 I (x := V.ref a) rfl ry d) fun r s' q => ?_))
    obtain ⟨rfl, I'⟩ := q
    exact wpAny_bind (wpAny_truthy_bool (wpAny_pure ⟨rfl, I'⟩))
  have one : wpAny (model X.prog X.w) X.A (tryCompare (.ref a) (cmpInfo .NotEq).2.1 v) (fun r s' => r = some (.bool (!b)) ∧ Inv X pins σ H s') X.xe s := by
    unfold tryCompare
    refine wpAny_bind (m := callSpecialIfBound? (.ref a) _ [v]) ?_
    simp only [callSpecialIfBound?, bindSpecialIfBound?]
    refine wpAny_holding (wpAny_bind (wpAny_bind (wpAny_bind (J.type.here ((PySem.W.looks_findIn I.kIn c.ne).here ?_)))))
    refine wpAny_bind (wpAny_askSetting (wpAny_ite ?_))
    have fin : wpAny (model X.prog X.w) X.A (call (.builtin "object.__ne__") ([.ref a] ++ [v]) >>= fun z => pure (some z)) (fun o s1 => wpAny (model X.prog X.w) X.A (match o with | some .notImplemented | none => pure none | some z => pure (some z)) (fun r s' => r = some (.bool (!b)) ∧ Inv X pins σ H s') X.xe s1) X.xe s := by
      refine wpAny_bind (thn call1 fun r s' z => ?_)
      obtain ⟨rfl, I'⟩ := z
      exact wpAny_pure (wpAny_pure ⟨rfl, I'⟩)
    split
    · exact wpAny_bind ((PySem.W.Looks.of_pure (PySem.F.slot_object_ne.bind (.ref a))).here (wpAny_pure (by exact fin)))
    · exact wpAny_tryCatch (wpAny_bind ((PySem.W.Looks.of_pure (PySem.F.slot_object_ne.bind (.ref a))).here (wpAny_pure (by exact fin))))
  unfold richCompare
  simp only [oneThing_ref]
  refine wpAny_holding (wpAny_bind (wpAny_cRoomFor hr.units0 ?_))
  refine wpAny_bind (J.type.here (wpAny_bind ((Z.ty _ _ I.kIn p).here ?_)))
  have ends : ∀ s', Inv X pins σ H s' → EP X pins σ Q (.bool (!b)) s' := fun s' I' => ⟨.bl (!b), H, I', rfl, q⟩
  split
  · rename_i z
    have e : PySem.W.subIn X.K tb (.ref C) = some false := by
      rcases Bool.or_eq_true_iff.mp nf with e | e
      · rw [beq_iff_eq.mp e] at z; simp at z
      · exact beq_iff_eq.mp e
    refine wpAny_bind ((PySem.W.looks_subIn I.kIn e).here ?_)
    simp only [Bool.false_eq_true, if_false]
    refine wpAny_bind (thn one fun r s' z => ?_)
    obtain ⟨rfl, I'⟩ := z
    exact wpAny_pure (ends s' I')
  · refine wpAny_bind (wpAny_pure ?_)
    simp only [Bool.false_eq_true, if_false]
    refine wpAny_bind (thn one fun r s' z => ?_)
    obtain ⟨rfl, I'⟩ := z
    exact wpAny_pure (ends s' I')
/-! ### in, by an own == -/
def InB (D : Eqb) (x : V) (H : Hp) : List V → Bool → Prop
  | [], b => b = false
  | y :: r, b => (D y x H true ∧ b = true) ∨ (D y x H false ∧ InB D x H r b)
open AutoSeq1 (wpAny_loadPart') in
open AutoSeq1 (wpAny_loadPart') in
/-- a text beside a thing of a built-in kind -/
def DTxt : Eqb := fun x y H b => ∃ (z : Str) (T : String), x = .str z ∧ Bk H y T ∧ b = decide (y = .str z)
end
/-! ### Measures alike, beside Measures and things of built-in kinds -/
def REq (K : PySem.W.Frag) (C : Addr) : Eqb := fun x y H b => ∃ p t u, x = .ref p ∧ MAt C H p t u ∧ ((∃ q t' u', y = .ref q ∧ MAt C H q t' u' ∧ b = (decide (t = t') && decide (u = u'))) ∨ ∃ tv, TyX K H y tv ∧ PySem.W.kitOne K tv (.ref C) = some false ∧ b = false)
inductive Like (C : Addr) (H : Hp) (p : Addr) : V → Bool → Prop where
  | ms {q : Addr} {t u t' u' : Int} (a : MAt C H p t u) (b : MAt C H q t' u') : Like C H p (.ref q) (decide (t = t') && decide (u = u'))
  | kd {y : V} {T : String} {t u : Int} (a : MAt C H p t u) (b : Bk H y T) : Like C H p y false
theorem Like.same {C p : Addr} {H H' : Hp} {y : V} {b : Bool} (h : Like C H p y b) (s : Same H H') : Like C H' p y b := by
  cases h with
  | ms a b => exact .ms (a.same s) (b.same s)
  | kd a k => exact .kd (a.same s) (k.same s)
theorem mf_inj {t u t' u' : Int} (h : mf t u = mf t' u') : t = t' ∧ u = u' := by
  unfold mf at h
  injection h with h1 h2
  injection h2 with h3 _
  exact ⟨V.int.inj (congrArg Prod.snd h1), V.int.inj (congrArg Prod.snd h3)⟩
theorem MAt.uniq {C p : Addr} {H : Hp} {t u t' u' : Int} (a : MAt C H p t u) (b : MAt C H p t' u') : t = t' ∧ u = u' := by
  obtain ⟨d, a⟩ := a
  obtain ⟨d', b⟩ := b
  rw [a] at b
  have e := HO.ins.inj (Option.some.inj b)
  exact mf_inj e.2.2
theorem Bk.notIns {C p dx : Addr} {H : Hp} {T : String} {fs : List (Str × V)} (b : Bk H (.ref p) T) (e : H p = some (.ins C dx fs)) : False := by
  cases b with
  | lst z => rw [z] at e; cases e
  | tup z => rw [z] at e; cases e
section
variable {K : PySem.W.Frag} {C p : Addr} {H : Hp} {y : V} {b : Bool}
theorem nf_self : PySem.W.notFirst K C (.ref C) = true := by simp [PySem.W.notFirst]
theorem Like.fwd (cl : Cls K C) (ii : IsC K C) (ec : EqC K C) (h : Like C H p y b) : DOwn K C (REq K C) (.ref p) y H b := by
  cases h with
  | @ms q t u t' u' a b =>
    obtain ⟨da, ha⟩ := _root_.id a
    obtain ⟨db, hb⟩ := _root_.id b
    refine ⟨p, da, _, _, rfl, ha, tyM hb cl ii, nf_self, fun e => ?_, p, t, u, rfl, a, .inl ⟨q, t', u', rfl, b, rfl⟩⟩
    cases e
    obtain ⟨rfl, rfl⟩ := a.uniq b
    simp
  | @kd _ T t u a k =>
    obtain ⟨da, ha⟩ := _root_.id a
    refine ⟨p, da, _, _, rfl, ha, k.ty, ec.nf T k.mem, fun e => ?_, p, t, u, rfl, a, .inr ⟨_, k.ty, ec.kit T k.mem, rfl⟩⟩
    subst e
    exact (k.notIns ha).elim
theorem Like.bwd (cl : Cls K C) (ii : IsC K C) (ec : EqC K C) (h : Like C H p y b) : DOr (DOwn K C (REq K C)) (DRef C (REq K C)) y (.ref p) H b := by
  cases h with
  | @ms q t u t' u' a b =>
    obtain ⟨da, ha⟩ := _root_.id a
    obtain ⟨db, hb⟩ := _root_.id b
    have e2 : (decide (t = t') && decide (u = u')) = (decide (t' = t) && decide (u' = u)) := by
      rw [decide_eq_decide.mpr (eq_comm (a := t)), decide_eq_decide.mpr (eq_comm (a := u))]
    rw [e2]
    refine .inl ⟨q, db, _, _, rfl, hb, tyM ha cl ii, nf_self, fun e => ?_, q, t', u', rfl, b, .inl ⟨p, t, u, rfl, a, rfl⟩⟩
    cases e
    obtain ⟨rfl, rfl⟩ := a.uniq b
    simp
  | @kd _ T t u a k =>
    obtain ⟨da, ha⟩ := _root_.id a
    refine .inr ⟨p, da, _, T, rfl, ha, k, fun e => ?_, p, t, u, rfl, a, .inr ⟨_, k.ty, ec.kit T k.mem, rfl⟩⟩
    subst e
    exact (k.notIns ha).elim
theorem Like.non (ec : EqC K C) (h : Like C H p y b) : DOr (DOwn K C (REq K C)) (DRef C (REq K C)) .non (.ref p) H false := by
  have go : ∀ {t u : Int}, MAt C H p t u → DOr (DOwn K C (REq K C)) (DRef C (REq K C)) .non (.ref p) H false := fun {t u} a => by
    obtain ⟨da, ha⟩ := _root_.id a
    exact .inr ⟨p, da, _, _, rfl, ha, .non, (fun e => nomatch e), p, t, u, rfl, a, .inr ⟨_, (Bk.non (H := H)).ty, ec.kit _ (Bk.non (H := H)).mem, rfl⟩⟩
  cases h with
  | ms a _ => exact go a
  | kd a _ => exact go a
/-- one in [None, y] -/
theorem Like.inl (cl : Cls K C) (ii : IsC K C) (ec : EqC K C) (h : Like C H p y b) : InB (DOr (DOwn K C (REq K C)) (DRef C (REq K C))) (.ref p) H [.non, y] b := by
  refine .inr ⟨h.non ec, ?_⟩
  cases b with
  | true => exact .inl ⟨h.bwd cl ii ec, rfl⟩
  | false => exact .inr ⟨h.bwd cl ii ec, rfl⟩
/-- y in (one, z) -/
theorem Like.inr {z : Str} (cl : Cls K C) (ii : IsC K C) (ec : EqC K C) (h : Like C H p y b) (hz : y ≠ .str z) : InB (DOr (DOr (DOwn K C (REq K C)) (DRef C (REq K C))) DTxt) y H [.ref p, .str z] b := by
  have key : ∀ {c : Bool}, Like C H p y c → DOr (DOr (DOwn K C (REq K C)) (DRef C (REq K C))) DTxt (.str z) y H false := fun {c} h => by
    cases h with
    | @ms q t u t' u' a b =>
      obtain ⟨dq, hq⟩ := _root_.id b
      exact .inl (.inr ⟨q, dq, _, _, rfl, hq, .str z, (fun e => nomatch e), q, t', u', rfl, b, .inr ⟨_, (Bk.str (H := H) z).ty, ec.kit _ (Bk.str (H := H) z).mem, rfl⟩⟩)
    | @kd _ T t u a k => exact .inr ⟨z, T, rfl, k, (decide_eq_false hz).symm⟩
  cases b with
  | true => exact .inl ⟨.inl (.inl (h.fwd cl ii ec)), rfl⟩
  | false => exact .inr ⟨.inl (.inl (h.fwd cl ii ec)), .inr ⟨key h, rfl⟩⟩
end
end My
namespace My
open PySem PySem.Spec PyProof.Rows L2
/-! ### texts: str and repr of own objects, pieces of f-strings, divmod -/
section
variable {X : Cx} {n : Nat} {CX : CXT} {C f : Addr} {fd : FuncData} {ps : List Str} {sp : Sp} {E : XK}
/-- an own def is called from within a built-in one -/
theorem fn_at (F : FnOk X.prog X.w X.K X.mg X.base CX n f fd ps sp) (hb : Binds X.K fd ps []) (hx : Passes CX X E) {A : Around} {pins : List (Addr × Obj)} {s : Shared} {σ : L2.St} {H : Hp} {vs : List V} {us : List Value} {Q : VK}
    (sb : Sub X n A) (I : Inv X pins σ H s) (r : Vals vs us) (h : sp vs H Q E) : wpAny (model X.prog X.w) A (call (.ref f) us) (fun u s' => ∃ v H', Inv X pins σ H' s' ∧ RelV v u ∧ Q v H') X.xe s := by
  have e := I.env0
  have e0 : Env0 X.prog X.w X.K X.mg X.base A X.stack s H := ⟨by rw [sb.fr]; exact e.frames, e.mod, e.bs, e.bsz, e.funs, e.frf, e.hok, e.bare⟩
  have hl := F.len _ _ _ _ h
  have hbs := hb s us I.kIn (by rw [List.append_nil, ← r.length]; exact hl)
  rw [List.append_nil] at hbs
  refine wpAny_call (codeAny_mono (F.run A X.stack s H ⟨us, []⟩ us vs _ E sb.room e0 hbs r h) fun r s' hq => ?_)
  cases r with
  | error e => exact hx pins σ H s e s' I hq
  | ok fl =>
    cases fl with
    | ret w =>
      obtain ⟨z, H', I', rz, q⟩ := I.after hq
      exact ⟨z, H', I', rz, q⟩
    | next => exact False.elim hq
    | brk => exact False.elim hq
    | cont => exact False.elim hq
/-- what a text of an own object asks: the def tells a text -/
def tOwn (C : Addr) (sp : Sp) (E : XK) : V → Hp → VK → Prop := fun x H Q => ∃ a dx fs, x = .ref a ∧ H a = some (.ins C dx fs) ∧ sp [.ref a] H (fun v H' => ∃ z : Str, v = .str z ∧ Q (.str z) H') E
theorem call_strO (F : FnOk X.prog X.w X.K X.mg X.base CX n f fd ps sp) (hm : Meth X.K C "__str__" f) (hb : Binds X.K fd ps []) (hx : Passes CX X E) (hr : Room (n + 2) X.A) : CallR X (.type "str") (fun xs H Q => ∃ x, xs = [x] ∧ tOwn C sp E x H Q) := by
  intro pins s σ H xs us Q I r h
  obtain ⟨x, rfl, a, dx, fs, rfl, ha, h⟩ := h
  obtain ⟨u, rfl, r1⟩ := vals1 r
  cases (show u = Value.ref a from r1)
  obtain ⟨mA, J, _⟩ := ins_get I.hok ha
  obtain ⟨od, J, _⟩ := J.look
  have sb : Sub X (n + 2) X.A := ⟨hr, rfl⟩
  refine PySem.W.kso_call sb.in1.in1.room.units0 I.kIn J hm.at_ hm.fn ?_
  refine thn (fn_at F hb hx sb.in1.in1 I (vs := [.ref a]) (.cons rfl .nil) h) fun u s' q => ?_
  obtain ⟨v, H', I', rv, z, rfl, q⟩ := q
  obtain ⟨t, rfl⟩ := rv
  exact ⟨.str z, H', I', ⟨t, rfl⟩, q⟩
theorem call_dm : CallR X (.builtin "divmod") (fun xs H Q => ∃ i j, xs = [.int i, .int j] ∧ 0 < j ∧ j.natAbs.log2 < 9000 ∧ ∀ p, H p = none → Q (.ref p) (upd H p (.tup [.int (i / j), .int (i % j)]))) := by
  intro pins s σ H xs us Q I r h
  obtain ⟨i, j, rfl, h1, h2, q⟩ := h
  obtain ⟨u, w', rfl, ⟨t, rfl⟩, ⟨t', rfl⟩⟩ := vals2 r
  refine divmod_int (by omega) ?_ (.inl (PyProof.noPylong_of_log2 h2))
  rw [Int.fdiv_eq_ediv_of_nonneg i (by omega), Int.fmod_eq_emod_of_nonneg i (by omega)]
  have hn : H s.heap.objs.size = none := I.hok.fresh (Nat.le_refl _)
  refine ⟨.ref s.heap.objs.size, _, ?_, rfl, q _ hn⟩
  refine I.laid (fun b o e => Heap.get?_push_of_some _ e) (Nat.le_refl _) ⟨by show 2 ≤ sizeLine; rw [sizeLine_eq]; decide, [.int (i / j) s.toks, .int (i % j) (s.toks + 1)], .cons ⟨_, rfl⟩ (.cons ⟨_, rfl⟩ .nil), ?_⟩
  exact ⟨_, Heap.get?_push_size s.heap rfl, rfl, 0, rfl⟩
theorem bnil {K : PySem.W.Frag} {fd : FuncData} {ps : List Str} {ds : List Value} (v : Vals [] ds) (b : Binds K fd ps ds) : Binds K fd ps [] := by
  cases v
  exact b
end
/-! ### the text of a number, of a Measure -/
def iT (i : Int) : Str := Str.ofString (toString i)
theorem Sz.log' {a : Nat} {x : Int} (h : Sz a x) (h0 : 0 < a) (l : a ≤ 1920) : x.natAbs.log2 < 1920 := Nat.lt_of_lt_of_le (PySem.Flt.log2_lt_of h0 h) l
theorem iT_len {i : Int} (h : Sz 1900 i) : (iT i).length ≤ 1921 := by
  have e := int_text_length_le (k := 1920) (by decide) (h.log' (by decide) (by decide))
  unfold iT
  rw [PySem.ofString_length]
  omega
def wTxt (a u : Int) : Str := if a % u = 0 then iT (a / u) else if a / u = 0 then Str.empty ++ iT (a % u) ++ "/" ++ iT u else Str.empty ++ iT (a / u) ++ " " ++ iT (a % u) ++ "/" ++ iT u
def mTxt (t u : Int) : Str := if t < 0 then Str.empty ++ "-" ++ wTxt (-t) u else wTxt t u
def mRep (t u : Int) : Str := Str.empty ++ "Measure(" ++ iT t ++ ", " ++ iT u ++ ")"
theorem Sz.ediv {k : Nat} {a u : Int} (h : Sz k a) (h0 : 0 ≤ a) (hu : 0 < u) : Sz k (a / u) := h.le (by
  have h1 := Int.ediv_nonneg h0 (Int.le_of_lt hu)
  have h2 := Int.ediv_le_self u h0
  omega)
theorem Sz.emod {k : Nat} {a u : Int} (h : Sz k u) (hu : 0 < u) : Sz k (a % u) := h.le (by
  have h1 := Int.emod_nonneg a (show u ≠ 0 by omega)
  have h2 := Int.emod_lt_of_pos a hu
  omega)
theorem wTxt_len {a u : Int} (ha : Sz 1900 a) (hu : Sz 1900 u) (h0 : 0 ≤ a) (h1 : 0 < u) : (wTxt a u).length ≤ 6000 := by
  have l1 := iT_len (ha.ediv h0 h1)
  have l2 := iT_len (hu.emod (a := a) h1)
  have l3 := iT_len hu
  have e0 : Str.empty.length = 0 := rfl
  have e1 : (Str.ofString "/").length = 1 := rfl
  have e2 : (Str.ofString " ").length = 1 := rfl
  unfold wTxt
  split
  · omega
  · split
    · simp only [Str.length_append]; omega
    · simp only [Str.length_append]; omega
theorem mTxt_len {t u : Int} (ha : Sz 1900 t) (hu : Sz 1900 u) (h1 : 0 < u) : (mTxt t u).length ≤ 6001 := by
  have e0 : Str.empty.length = 0 := rfl
  have e1 : (Str.ofString "-").length = 1 := rfl
  unfold mTxt
  split
  · have := wTxt_len ha.neg hu (by omega) h1
    simp only [Str.length_append]; omega
  · have := wTxt_len ha hu (by omega) h1
    omega
theorem fr_uniq {t u t' u' a b : Int} (f : Fr t u a b) (g : Fr t' u' a b) (hb : b ≠ 0) (sa : Sz 4000 a) (sb : Sz 4000 b) : t = t' ∧ u = u' := by
  have e : t * u' = t' * u := f.of hb g.eq.symm
  have := low_eq (a := (t, u)) (b := (t', u')) ⟨f.pos, f.co, sa.le f.lt, sb.le f.lu⟩ ⟨g.pos, g.co, sa.le g.lt, sb.le g.lu⟩ e
  exact ⟨congrArg Prod.fst this, congrArg Prod.snd this⟩
end My
namespace My
open PySem PySem.Spec PyProof.Rows L2
/-! ### Stretches alike -/
def optEq : Option Q2 → Option Q2 → Bool
  | none, none => true
  | some a, some b => eqq a b
  | _, _ => false
theorem optEq_self (a : Option Q2) : optEq a a = true := by
  cases a with
  | none => rfl
  | some a => exact eqq_self a
theorem eqq_comm' (a b : Q2) : eqq a b = eqq b a := by
  unfold eqq
  exact decide_eq_decide.mpr eq_comm
theorem optEq_comm (a b : Option Q2) : optEq a b = optEq b a := by
  cases a with
  | none => cases b <;> rfl
  | some a =>
    cases b with
    | none => rfl
    | some b => exact eqq_comm' a b
def eqS (lo hi : Option Q2) (li hj : Bool) (lo' hi' : Option Q2) (li' hj' : Bool) : Bool := optEq lo lo' && (optEq hi hi' && (decide (V.bl li = V.bl li') && decide (V.bl hj = V.bl hj')))
theorem eqS_self (lo hi : Option Q2) (li hj : Bool) : eqS lo hi li hj lo hi li hj = true := by
  unfold eqS
  rw [optEq_self, optEq_self, decide_eq_true rfl, decide_eq_true rfl]
  rfl
theorem eqS_comm (lo hi : Option Q2) (li hj : Bool) (lo' hi' : Option Q2) (li' hj' : Bool) : eqS lo hi li hj lo' hi' li' hj' = eqS lo' hi' li' hj' lo hi li hj := by
  unfold eqS
  rw [optEq_comm lo, optEq_comm hi, decide_eq_decide.mpr (eq_comm (a := V.bl li)), decide_eq_decide.mpr (eq_comm (a := V.bl hj))]
/-- None beside None -/
def DNn : Eqb := fun x y _ b => x = .non ∧ y = .non ∧ b = true
theorem rcB_nn {X : Cx} {n : Nat} : RcB X n DNn := by
  intro A pins s σ H x y u v b sb I rx ry d
  obtain ⟨rfl, rfl, rfl⟩ := d
  cases (show u = Value.none from rx)
  cases (show v = Value.none from ry)
  exact SeqAt.RcAt.none_none X.prog X.w X.xe _ ⟨rfl, I⟩
section
variable {K : PySem.W.Frag} {CM CS p : Addr} {H : Hp}
/-- two ends of Stretches -/
def DMs (K : PySem.W.Frag) (CM : Addr) : Eqb := DOr (DOr (DOwn K CM (REq K CM)) (DRef CM (REq K CM))) DNn
theorem ms_eq {v w : V} {e f : Option Q2} (cl : Cls K CM) (ii : IsC K CM) (ec : EqC K CM) (a : MsV CM H v e) (b : MsV CM H w f) (l1 : LowO e) (l2 : LowO f) : DMs K CM v w H (optEq e f) := by
  cases e with
  | none =>
    cases f with
    | none => exact .inr ⟨a, b, rfl⟩
    | some y =>
      cases a
      obtain ⟨q, rfl, hq⟩ := b
      exact .inl (Like.bwd cl ii ec (.kd hq .non))
  | some x =>
    obtain ⟨p, rfl, hp⟩ := a
    cases f with
    | none =>
      cases b
      exact .inl (.inl (Like.fwd cl ii ec (.kd hp .non)))
    | some y =>
      obtain ⟨q, rfl, hq⟩ := b
      have := Like.fwd (K := K) cl ii ec (.ms hp hq)
      rw [low_eqq l1 l2] at this
      exact .inl (.inl this)
def REqS (K : PySem.W.Frag) (CM CS : Addr) : Eqb := fun x y H b => ∃ p lo hi li hj, x = .ref p ∧ StAt CM CS H p lo hi li hj ∧ ((∃ q lo' hi' li' hj', y = .ref q ∧ StAt CM CS H q lo' hi' li' hj' ∧ b = eqS lo hi li hj lo' hi' li' hj') ∨
  ∃ tv, TyX K H y tv ∧ PySem.W.kitOne K tv (.ref CS) = some false ∧ b = false)
inductive LikeS (CM CS : Addr) (H : Hp) (p : Addr) : V → Bool → Prop where
  | st {q : Addr} {lo hi lo' hi' : Option Q2} {li hj li' hj' : Bool} (a : StAt CM CS H p lo hi li hj) (b : StAt CM CS H q lo' hi' li' hj') : LikeS CM CS H p (.ref q) (eqS lo hi li hj lo' hi' li' hj')
  | kd {y : V} {T : String} {lo hi : Option Q2} {li hj : Bool} (a : StAt CM CS H p lo hi li hj) (b : Bk H y T) : LikeS CM CS H p y false
  | ms {q : Addr} {t u : Int} {lo hi : Option Q2} {li hj : Bool} (a : StAt CM CS H p lo hi li hj) (b : MAt CM H q t u) : LikeS CM CS H p (.ref q) false
theorem LikeS.same {H' : Hp} {y : V} {b : Bool} (h : LikeS CM CS H p y b) (s : Same H H') : LikeS CM CS H' p y b := by
  cases h with
  | st a b => exact .st (a.same s) (b.same s)
  | kd a k => exact .kd (a.same s) (k.same s)
  | ms a m => exact .ms (a.same s) (m.same s)
theorem MsV.uniq {v : V} {e f : Option Q2} (a : MsV CM H v e) (b : MsV CM H v f) : e = f := by
  cases e with
  | none =>
    cases a
    cases f with
    | none => rfl
    | some y => obtain ⟨q, z, _⟩ := b; exact nomatch z
  | some x =>
    obtain ⟨p, rfl, hp⟩ := a
    cases f with
    | none => exact nomatch (show V.ref p = V.non from b)
    | some y =>
      obtain ⟨q, z, hq⟩ := b
      cases z
      obtain ⟨h1, h2⟩ := hp.uniq hq
      rw [show x = (x.1, x.2) from rfl, show y = (y.1, y.2) from rfl, h1, h2]
theorem sf_inj {l h l' h' : V} {i j i' j' : Bool} (e : sf l h i j = sf l' h' i' j') : l = l' ∧ h = h' ∧ i = i' ∧ j = j' := by
  have g : ∀ m : Str, (sf l h i j).lookup m = (sf l' h' i' j').lookup m := fun m => by rw [e]
  have g1 := g "low"
  have g2 := g "high"
  have g3 := g "low_in"
  have g4 := g "high_in"
  rw [sf_low, sf_low] at g1
  rw [sf_high, sf_high] at g2
  rw [sf_low_in, sf_low_in] at g3
  rw [sf_high_in, sf_high_in] at g4
  exact ⟨Option.some.inj g1, Option.some.inj g2, V.bl.inj (Option.some.inj g3), V.bl.inj (Option.some.inj g4)⟩
theorem StAt.uniq {lo hi lo' hi' : Option Q2} {li hj li' hj' : Bool} (a : StAt CM CS H p lo hi li hj) (b : StAt CM CS H p lo' hi' li' hj') : lo = lo' ∧ hi = hi' ∧ li = li' ∧ hj = hj' := by
  obtain ⟨⟨d, l, h, h1, h2, h3⟩, _⟩ := a
  obtain ⟨⟨d', l', h', k1, k2, k3⟩, _⟩ := b
  rw [h1] at k1
  have e := HO.ins.inj (Option.some.inj k1)
  obtain ⟨rfl, rfl, rfl, rfl⟩ := sf_inj e.2.2
  exact ⟨h2.uniq k2, h3.uniq k3, rfl, rfl⟩
theorem st_notM {q : Addr} {lo hi : Option Q2} {li hj : Bool} {t u : Int} (a : StAt CM CS H p lo hi li hj) (m : MAt CM H p t u) : False := by
  obtain ⟨⟨d, l, hh, h1, _⟩, _⟩ := a
  obtain ⟨dm, hm⟩ := m
  rw [h1] at hm
  have e := (HO.ins.inj (Option.some.inj hm)).2.2
  have e2 := congrArg (fun fs : List (Str × V) => fs.lookup ("top" : Str)) e
  have e3 : (sf l hh li hj).lookup ("top" : Str) = none := sf_no _ _ _ _ (by decide +kernel) (by decide +kernel) (by decide +kernel) (by decide +kernel)
  have e4 := mf_top t u
  rw [show (sf l hh li hj).lookup ("top" : Str) = (mf t u).lookup ("top" : Str) from e2, e4] at e3
  cases e3
/-- what is asked of the two classes -/
structure Two (K : PySem.W.Frag) (CM CS : Addr) : Prop where
  clM : Cls K CM
  iiM : IsC K CM
  ecM : EqC K CM
  clS : Cls K CS
  iiS : IsC K CS
  ecS : EqC K CS
  nMS : PySem.W.notFirst K CM (.ref CS) = true
  nSM : PySem.W.notFirst K CS (.ref CM) = true
  kMS : PySem.W.kitOne K (.ref CM) (.ref CS) = some false
  kSM : PySem.W.kitOne K (.ref CS) (.ref CM) = some false
def DAllS (K : PySem.W.Frag) (CM CS : Addr) : Eqb := DOr (DOr (DOwn K CS (REqS K CM CS)) (DRef CS (REqS K CM CS))) (DOwn K CM (REq K CM))
theorem LikeS.fwd {y : V} {b : Bool} (T : Two K CM CS) (h : LikeS CM CS H p y b) : DOwn K CS (REqS K CM CS) (.ref p) y H b := by
  cases h with
  | @st q lo hi lo' hi' li hj li' hj' a b =>
    obtain ⟨⟨d, l, hh, h1, _⟩, _⟩ := _root_.id a
    obtain ⟨⟨d', l', hh', k1, _⟩, _⟩ := _root_.id b
    refine ⟨p, d, _, _, rfl, h1, tyM k1 T.clS T.iiS, nf_self, fun e => ?_, p, lo, hi, li, hj, rfl, a, .inl ⟨q, lo', hi', li', hj', rfl, b, rfl⟩⟩
    cases e
    obtain ⟨rfl, rfl, rfl, rfl⟩ := a.uniq b
    exact eqS_self _ _ _ _
  | @kd _ Ty lo hi li hj a k =>
    obtain ⟨⟨d, l, hh, h1, _⟩, _⟩ := _root_.id a
    refine ⟨p, d, _, _, rfl, h1, k.ty, T.ecS.nf Ty k.mem, fun e => ?_, p, lo, hi, li, hj, rfl, a, .inr ⟨_, k.ty, T.ecS.kit Ty k.mem, rfl⟩⟩
    subst e
    exact (k.notIns h1).elim
  | @ms q t u lo hi li hj a m =>
    obtain ⟨⟨d, l, hh, h1, _⟩, _⟩ := _root_.id a
    obtain ⟨dm, hm⟩ := _root_.id m
    have ty := tyM hm T.clM T.iiM
    refine ⟨p, d, _, _, rfl, h1, ty, T.nSM, fun e => ?_, p, lo, hi, li, hj, rfl, a, .inr ⟨_, ty, T.kMS, rfl⟩⟩
    cases e
    exact (st_notM (q := p) a m).elim
theorem LikeS.bwd {y : V} {b : Bool} (T : Two K CM CS) (h : LikeS CM CS H p y b) : DAllS K CM CS y (.ref p) H b := by
  cases h with
  | @st q lo hi lo' hi' li hj li' hj' a b =>
    rw [eqS_comm]
    exact .inl (.inl (LikeS.fwd T (.st b a)))
  | @kd _ Ty lo hi li hj a k =>
    obtain ⟨⟨d, l, hh, h1, _⟩, _⟩ := _root_.id a
    refine .inl (.inr ⟨p, d, _, Ty, rfl, h1, k, fun e => ?_, p, lo, hi, li, hj, rfl, a, .inr ⟨_, k.ty, T.ecS.kit Ty k.mem, rfl⟩⟩)
    subst e
    exact (k.notIns h1).elim
  | @ms q t u lo hi li hj a m =>
    obtain ⟨⟨d, l, hh, h1, _⟩, _⟩ := _root_.id a
    obtain ⟨dm, hm⟩ := _root_.id m
    have ty := tyM h1 T.clS T.iiS
    refine .inr ⟨q, dm, _, _, rfl, hm, ty, T.nMS, fun e => ?_, q, t, u, rfl, m, .inr ⟨_, ty, T.kSM, rfl⟩⟩
    cases e
    exact (st_notM (q := p) a m).elim
theorem LikeS.inl {y : V} {b : Bool} (T : Two K CM CS) (h : LikeS CM CS H p y b) : InB (DAllS K CM CS) (.ref p) H [.non, y] b := by
  have go : ∀ {lo hi li hj}, StAt CM CS H p lo hi li hj → DAllS K CM CS .non (.ref p) H false := fun {lo hi li hj} a => LikeS.bwd T (.kd a .non)
  have nn : DAllS K CM CS .non (.ref p) H false := by
    cases h with
    | st a _ => exact go a
    | kd a _ => exact go a
    | ms a _ => exact go a
  refine .inr ⟨nn, ?_⟩
  cases b with
  | true => exact .inl ⟨h.bwd T, rfl⟩
  | false => exact .inr ⟨h.bwd T, rfl⟩
end
/-! ### texts of Stretches -/
/-- the tuple of two ends and two truths -/
def EndsK (k : Nat) (H : Hp) (v : V) (ea eb : Option Q2) (ia ib : Bool) : Prop := ∃ p va vb, v = .ref p ∧ H p = some (.tup [va, vb, .bl ia, .bl ib]) ∧ EndV k H va ea ∧ EndV k H vb eb
theorem EndsK.nl {k : Nat} {H H' : Hp} {v : V} {ea eb : Option Q2} {ia ib : Bool} (a : EndsK k H v ea eb ia ib) (s : Nl H H') : EndsK k H' v ea eb ia ib := by
  obtain ⟨p, va, vb, h0, h1, h2, h3⟩ := a
  exact ⟨p, va, vb, h0, s _ _ h1 rfl, h2.nl s, h3.nl s⟩
theorem EndsK.same {k : Nat} {H H' : Hp} {v : V} {ea eb : Option Q2} {ia ib : Bool} (a : EndsK k H v ea eb ia ib) (s : Same H H') : EndsK k H' v ea eb ia ib := a.nl (Nl.of s)
theorem EndsAt.k {H : Hp} {p : Addr} {ea eb : Option Q2} {ia ib : Bool} (a : EndsAt H p ea eb ia ib) : EndsK 150 H (.ref p) ea eb ia ib := by
  obtain ⟨⟨va, vb, h1, h2, h3⟩, _⟩ := a
  exact ⟨p, va, vb, rfl, h1, h2.mono (by decide), h3.mono (by decide)⟩
end My
namespace My
open PySem PySem.Spec PyProof.Rows L2
/-! ### texts by their signs: partings at the last and the first sign -/
/-! ### x.rpartition(sep) -/
/-! ### a leading sign -/
/-! ### the words of a measure's text -/
/-! ### the text of a Measure by its signs -/
end My
namespace My
open PySem PySem.Spec PyProof.Rows L2
/-! ### list.count(True) of truths -/
/-! ### Measures as fractions -/
theorem co_eq {a b : Q2} (h1 : 0 < a.2) (c1 : Int.gcd a.1 a.2 = 1) (g1 : 0 < b.2) (c2 : Int.gcd b.1 b.2 = 1) (e : a.1 * b.2 = b.1 * a.2) : a = b := by
  have d1 : a.2 ∣ b.2 := by
    have : a.2 ∣ a.1 * b.2 := ⟨b.1, by rw [e, Int.mul_comm]⟩
    exact dvd_co this (by rw [Int.gcd_comm]; exact c1)
  have d2 : b.2 ∣ a.2 := by
    have : b.2 ∣ b.1 * a.2 := ⟨a.1, by rw [← e, Int.mul_comm]⟩
    exact dvd_co this (by rw [Int.gcd_comm]; exact c2)
  have e2 : a.2 = b.2 := Int.le_antisymm (Int.le_of_dvd g1 d1) (Int.le_of_dvd h1 d2)
  rw [e2] at e
  exact Prod.ext (Int.eq_of_mul_eq_mul_right (by omega) e) e2
theorem fr_of {t u A B : Int} (hu : 0 < u) (co : Int.gcd t u = 1) (hB : 0 < B) (e : t * B = A * u) : Fr t u A B := by
  have co' : Int.gcd u t = 1 := by rw [Int.gcd_comm]; exact co
  have d2 : u ∣ B := dvd_co (b := t) ⟨A, by rw [e, Int.mul_comm]⟩ co'
  obtain ⟨k, hk⟩ := d2
  have k0 : 0 < k := by
    rcases Int.lt_or_le 0 k with z | z
    · exact z
    · have := Int.mul_nonneg_of_nonpos_of_nonpos (show -u ≤ 0 by omega) z
      have e2 : -u * k = -(u * k) := Int.neg_mul ..
      omega
  have e1 : A = t * k := by
    have : A * u = (t * k) * u := by
      rw [← e, hk]
      simp only [Int.mul_assoc, Int.mul_comm, Int.mul_left_comm]
    exact Int.eq_of_mul_eq_mul_right (by omega) this
  refine ⟨hu, e, co, ?_, ?_⟩
  · rw [e1, Int.natAbs_mul]
    exact Nat.le_mul_of_pos_right _ (by omega)
  · rw [hk, Int.natAbs_mul]
    exact Nat.le_mul_of_pos_right _ (by omega)
def qadd (x y : Q2) : Q2 := (x.1 * y.2 + y.1 * x.2, x.2 * y.2)
def qsub (x y : Q2) : Q2 := (x.1 * y.2 - y.1 * x.2, x.2 * y.2)
def qmul (x y : Q2) : Q2 := (x.1 * y.1, x.2 * y.2)
def qprt (x : Q2) (m : Int) : Q2 := (x.1 * sgn m, x.2 * (m * sgn m))
def qmk (a b : Int) : Q2 := (a * sgn b, b * sgn b)
theorem sgn_pos {m : Int} (h : m ≠ 0) : 0 < m * sgn m := by
  unfold sgn; split
  · omega
  · rw [Int.mul_neg_one]; omega
structure QAt (C : Addr) (H : Hp) (p : Addr) (k : Nat) (x : Q2) : Prop where
  ob : ∃ t u, MAt C H p t u ∧ Fr t u x.1 x.2
  pos : 0 < x.2
  s1 : Sz k x.1
  s2 : Sz k x.2
theorem QAt.same {C p : Addr} {H H' : Hp} {k : Nat} {x : Q2} (h : QAt C H p k x) (s : Same H H') : QAt C H' p k x := by
  obtain ⟨⟨t, u, m, f⟩, h1, h2, h3⟩ := h
  exact ⟨⟨t, u, m.same s, f⟩, h1, h2, h3⟩
theorem QAt.mono {C p : Addr} {H : Hp} {k j : Nat} {x : Q2} (h : QAt C H p k x) (l : k ≤ j) : QAt C H p j x := ⟨h.ob, h.pos, h.s1.mono l, h.s2.mono l⟩
theorem QAt.kp {C p hd : Addr} {H H' : Hp} {n k : Nat} {x : Q2} (h : QAt C H p k x) (hh : HandAt H hd n) (s : Kp hd H H') : QAt C H' p k x := by
  obtain ⟨⟨t, u, m, f⟩, h1, h2, h3⟩ := h
  exact ⟨⟨t, u, m.kp hh s, f⟩, h1, h2, h3⟩
theorem QAt.nl {C p : Addr} {H H' : Hp} {k : Nat} {x : Q2} (h : QAt C H p k x) (s : Nl H H') : QAt C H' p k x := by
  obtain ⟨⟨t, u, ⟨d, m⟩, f⟩, h1, h2, h3⟩ := h
  exact ⟨⟨t, u, ⟨d, s _ _ m rfl⟩, f⟩, h1, h2, h3⟩
section
variable {C p q : Addr} {H : Hp} {Q : VK} {E : XK} {k j : Nat} {x y : Q2}
theorem QAt.raw (h : QAt C H p k x) {m : Str} (h1 : ¬ m = "top") (h2 : ¬ m = "bottom") : ∃ dx fs, H p = some (.ins C dx fs) ∧ fs.lookup m = none := by
  obtain ⟨⟨t, u, ⟨d, m⟩, f⟩, _⟩ := h
  exact ⟨d, _, m, mf_no _ _ h1 h2⟩
theorem q_add (hx : QAt C H p k x) (hy : QAt C H q j y) (l : k + j ≤ 8900) (l0 : 0 < k) (l1 : 0 < j) (f : ∀ (r : Addr) (H' : Hp), Same H H' → QAt C H' r (k + j + 1) (qadd x y) → Q (.ref r) H') :
    sp_bin2 C (fun t u t' u' => t * u' + t' * u) (fun t u t' u' => u * u') [.ref p, .ref q] H Q E := by
  obtain ⟨⟨t, u, m1, f1⟩, px, a1, a2⟩ := hx
  obtain ⟨⟨t', u', m2, f2⟩, py, b1, b2⟩ := hy
  refine ⟨p, q, t, u, t', u', rfl, m1, m2, f1.pos, f2.pos, (a1.le f1.lt).mono (by omega), (a2.le f1.lu).mono (by omega), (b1.le f2.lt).mono (by omega), (b2.le f2.lu).mono (by omega), ((a2.le f1.lu).mul (b2.le f2.lu)).mono (by omega), fun r t2 u2 H' _ s m f3 => ?_⟩
  refine f r H' s ⟨⟨t2, u2, m, fr_of f3.pos f3.co (Int.mul_pos px py) ?_⟩, Int.mul_pos px py, (a1.mul b2).add ((b1.mul a2).mono (by omega)), (a2.mul b2).mono (by omega)⟩
  have e1 := f1.eq
  have e2 := f2.eq
  have e3 := f3.eq
  have z : (t2 * (x.2 * y.2)) * (u * u') = ((x.1 * y.2 + y.1 * x.2) * u2) * (u * u') := by
    have : (t2 * (x.2 * y.2)) * (u * u') = (t2 * (u * u')) * (x.2 * y.2) := by grind
    rw [this, e3]
    have w1 : (t * u' + t' * u) * u2 * (x.2 * y.2) = ((t * x.2) * u' * y.2 + (t' * y.2) * u * x.2) * u2 := by grind
    rw [w1, e1, e2]
    grind
  have pu := Int.mul_pos f1.pos f2.pos
  exact Int.eq_of_mul_eq_mul_right (by omega) z
theorem q_sub (hx : QAt C H p k x) (hy : QAt C H q j y) (l : k + j ≤ 8900) (l0 : 0 < k) (l1 : 0 < j) (f : ∀ (r : Addr) (H' : Hp), Same H H' → QAt C H' r (k + j + 1) (qsub x y) → Q (.ref r) H') :
    sp_bin2 C (fun t u t' u' => t * u' - t' * u) (fun t u t' u' => u * u') [.ref p, .ref q] H Q E := by
  obtain ⟨⟨t, u, m1, f1⟩, px, a1, a2⟩ := hx
  obtain ⟨⟨t', u', m2, f2⟩, py, b1, b2⟩ := hy
  refine ⟨p, q, t, u, t', u', rfl, m1, m2, f1.pos, f2.pos, (a1.le f1.lt).mono (by omega), (a2.le f1.lu).mono (by omega), (b1.le f2.lt).mono (by omega), (b2.le f2.lu).mono (by omega), ((a2.le f1.lu).mul (b2.le f2.lu)).mono (by omega), fun r t2 u2 H' _ s m f3 => ?_⟩
  refine f r H' s ⟨⟨t2, u2, m, fr_of f3.pos f3.co (Int.mul_pos px py) ?_⟩, Int.mul_pos px py, (a1.mul b2).sub ((b1.mul a2).mono (by omega)), (a2.mul b2).mono (by omega)⟩
  have e1 := f1.eq
  have e2 := f2.eq
  have e3 := f3.eq
  have z : (t2 * (x.2 * y.2)) * (u * u') = ((x.1 * y.2 - y.1 * x.2) * u2) * (u * u') := by
    have : (t2 * (x.2 * y.2)) * (u * u') = (t2 * (u * u')) * (x.2 * y.2) := by grind
    rw [this, e3]
    have w1 : (t * u' - t' * u) * u2 * (x.2 * y.2) = ((t * x.2) * u' * y.2 - (t' * y.2) * u * x.2) * u2 := by grind
    rw [w1, e1, e2]
    grind
  have pu := Int.mul_pos f1.pos f2.pos
  exact Int.eq_of_mul_eq_mul_right (by omega) z
theorem q_mul (hx : QAt C H p k x) (hy : QAt C H q j y) (l : k + j ≤ 8900) (l0 : 0 < k) (l1 : 0 < j) (f : ∀ (r : Addr) (H' : Hp), Same H H' → QAt C H' r (k + j + 1) (qmul x y) → Q (.ref r) H') :
    sp_bin2 C (fun t u t' u' => t * t') (fun t u t' u' => u * u') [.ref p, .ref q] H Q E := by
  obtain ⟨⟨t, u, m1, f1⟩, px, a1, a2⟩ := hx
  obtain ⟨⟨t', u', m2, f2⟩, py, b1, b2⟩ := hy
  refine ⟨p, q, t, u, t', u', rfl, m1, m2, f1.pos, f2.pos, (a1.le f1.lt).mono (by omega), (a2.le f1.lu).mono (by omega), (b1.le f2.lt).mono (by omega), (b2.le f2.lu).mono (by omega), ((a2.le f1.lu).mul (b2.le f2.lu)).mono (by omega), fun r t2 u2 H' _ s m f3 => ?_⟩
  refine f r H' s ⟨⟨t2, u2, m, fr_of f3.pos f3.co (Int.mul_pos px py) ?_⟩, Int.mul_pos px py, (a1.mul b1).mono (by omega), (a2.mul b2).mono (by omega)⟩
  have e1 := f1.eq
  have e2 := f2.eq
  have e3 := f3.eq
  have z : (t2 * (x.2 * y.2)) * (u * u') = ((x.1 * y.1) * u2) * (u * u') := by
    have : (t2 * (x.2 * y.2)) * (u * u') = (t2 * (u * u')) * (x.2 * y.2) := by grind
    rw [this, e3]
    have w1 : (t * t') * u2 * (x.2 * y.2) = (t * x.2) * (t' * y.2) * u2 := by grind
    rw [w1, e1, e2]
    grind
  have pu := Int.mul_pos f1.pos f2.pos
  exact Int.eq_of_mul_eq_mul_right (by omega) z
theorem q_mk {a b t u : Int} {H' : Hp} (m : MAt C H' p t u) (f : Fr t u a b) (hb : b ≠ 0) (sa : Sz k a) (sb : Sz k b) : QAt C H' p k (qmk a b) := by
  have pm := sgn_pos hb
  have sgnN : (sgn b).natAbs = 1 := by rcases sgn_cases b with e | e <;> rw [e] <;> rfl
  refine ⟨⟨t, u, m, fr_of f.pos f.co pm ?_⟩, pm, sa.le (by show (a * sgn b).natAbs ≤ _; rw [Int.natAbs_mul, sgnN, Nat.mul_one]; exact Nat.le_refl _), sb.le (by show (b * sgn b).natAbs ≤ _; rw [Int.natAbs_mul, sgnN, Nat.mul_one]; exact Nat.le_refl _)⟩
  show t * (b * sgn b) = a * sgn b * u
  have e := f.eq
  have : t * (b * sgn b) = (t * b) * sgn b := by grind
  rw [this, e]
  grind
theorem q_below {al : Bool} (hx : QAt C H p k x) (hy : QAt C H q j y) (l : k ≤ 9000) (l1 : j ≤ 9000) (f : Q (.bl (ltq x y || (al && eqq x y))) H) : sp_below C [.ref p, .ref q, .bl al] H Q E := by
  obtain ⟨⟨t, u, m1, f1⟩, px, a1, a2⟩ := hx
  obtain ⟨⟨t', u', m2, f2⟩, py, b1, b2⟩ := hy
  refine ⟨p, q, t, u, t', u', al, rfl, m1, m2, (a1.le f1.lt).mono l, (a2.le f1.lu).mono l, (b1.le f2.lt).mono l1, (b2.le f2.lu).mono l1, ?_⟩
  have r1 : Re (t, u) x := ⟨f1.pos, px, f1.eq⟩
  have r2 : Re (t', u') y := ⟨f2.pos, py, f2.eq⟩
  have e : lessA t u t' u' al = (ltq x y || (al && eqq x y)) := by
    rw [← ltq_congr r1 r2, ← eqq_congr r1 r2]
    rfl
  rw [e]
  exact f
theorem fr_eqq {t u t' u' : Int} (f1 : Fr t u x.1 x.2) (f2 : Fr t' u' y.1 y.2) (px : 0 < x.2) (py : 0 < y.2) : (decide (t = t') && decide (u = u')) = eqq x y := by
  have r1 : Re (t, u) x := ⟨f1.pos, px, f1.eq⟩
  have r2 : Re (t', u') y := ⟨f2.pos, py, f2.eq⟩
  rw [← eqq_congr r1 r2]
  unfold eqq
  by_cases e : t * u' = t' * u
  · rw [decide_eq_true (show (t, u).1 * (t', u').2 = (t', u').1 * (t, u).2 from e)]
    have z := co_eq (a := (t, u)) (b := (t', u')) f1.pos f1.co f2.pos f2.co e
    obtain ⟨rfl, rfl⟩ := Prod.mk.inj z
    simp
  · rw [decide_eq_false (show ¬ (t, u).1 * (t', u').2 = (t', u').1 * (t, u).2 from e)]
    cases z1 : decide (t = t') with
    | false => rfl
    | true =>
      cases z2 : decide (u = u') with
      | false => rfl
      | true => exact absurd (by rw [of_decide_eq_true z1, of_decide_eq_true z2]) e
end
/-! the same, behind the arguments -/
section
variable {C p q : Addr} {H : Hp} {Q : VK} {E : XK} {k j : Nat} {x y : Q2} {σ : L2.St}
theorem q_addT (hx : QAt C H p k x) (hy : QAt C H q j y) (l : k + j ≤ 8900) (l0 : 0 < k) (l1 : 0 < j) (f : ∀ (r : Addr) (H' : Hp), Same H H' → QAt C H' r (k + j + 1) (qadd x y) → Q (.ref r) H') :
    tNil σ H (fun xs H2 => sp_bin2 C (fun t u t' u' => t * u' + t' * u) (fun t u t' u' => u * u') (.ref p :: ((.ref q :: xs) ++ [])) H2 Q E) := q_add (E := E) hx hy l l0 l1 f
theorem q_subT (hx : QAt C H p k x) (hy : QAt C H q j y) (l : k + j ≤ 8900) (l0 : 0 < k) (l1 : 0 < j) (f : ∀ (r : Addr) (H' : Hp), Same H H' → QAt C H' r (k + j + 1) (qsub x y) → Q (.ref r) H') :
    tNil σ H (fun xs H2 => sp_bin2 C (fun t u t' u' => t * u' - t' * u) (fun t u t' u' => u * u') (.ref p :: ((.ref q :: xs) ++ [])) H2 Q E) := q_sub (E := E) hx hy l l0 l1 f
theorem q_mulT (hx : QAt C H p k x) (hy : QAt C H q j y) (l : k + j ≤ 8900) (l0 : 0 < k) (l1 : 0 < j) (f : ∀ (r : Addr) (H' : Hp), Same H H' → QAt C H' r (k + j + 1) (qmul x y) → Q (.ref r) H') :
    tNil σ H (fun xs H2 => sp_bin2 C (fun t u t' u' => t * t') (fun t u t' u' => u * u') (.ref p :: ((.ref q :: xs) ++ [])) H2 Q E) := q_mul (E := E) hx hy l l0 l1 f
theorem q_belowT (hx : QAt C H p k x) (hy : QAt C H q j y) (l : k ≤ 9000) (l1 : j ≤ 9000) (f : Q (.bl (ltq x y)) H) :
    tNil σ H (fun xs H2 => sp_below C (.ref p :: ((.ref q :: xs) ++ [.bl false])) H2 Q E) := q_below (E := E) (al := false) hx hy l l1 (by rw [Bool.false_and, Bool.or_false]; exact f)
theorem q_belowA (hx : QAt C H p k x) (hy : QAt C H q j y) (l : k ≤ 9000) (l1 : j ≤ 9000) (f : Q (.bl (ltq x y || eqq x y)) H) :
    tCons (tC (.bl true)) tNil σ H (fun xs H2 => sp_below C (.ref p :: ((.ref q :: xs) ++ [])) H2 Q E) := q_below (E := E) (al := true) hx hy l l1 (by rw [Bool.true_and]; exact f)
end
/-! ### sums keep the order; the midst lies between -/
def qhalf (x y : Q2) : Q2 := qprt (qadd x y) 2
/-! ### numbers of at most twelve figures -/
/-! ### constants by their signs -/
/-! ### a comprehension over a text -/
end My
namespace My
open PySem PySem.Spec PyProof.Rows L2
/-! ### comprehensions over anything that is walked -/
section
variable {J : It} {n : Nat} {G : Hp → Prop} {Y : Nat → Hp → V → Hp → Prop} {g : TG} {tt : TT} {te : TE} {vs : List Nat} {σ : L2.St} {H1 : Hp} {D : Addr} {Qd : Hp → Prop}
/-- the elements are known: z some y is told, z none is left out -/
theorem lcz (w : Walk J n G Y) (hGs : ∀ H H', G H → Same H H' → G H') (zs : List (Option V)) (hlen : zs.length = n) (hz : n < sizeLine) (hG : G H1) (hD : H1 D = none)
    (hs : ∀ (i : Nat) (x : V) (H H' : Hp) (z : Option V) (N : VK) (M : Hp → Prop), i < n → zs[i]? = some z → Same H1 H → Y i H x H' → (∀ y H4, z = some y → Same H H4 → N y H4) → (∀ H4, z = none → Same H H4 → M H4) →
      g x (wipe σ vs) H' fun σ2 H2 => wipe σ2 vs = wipe σ vs ∧ tt σ2 H2 fun b H3 => if b = true then te σ2 H3 N else M H3)
    (hd : ∀ H, Same H1 H → H D = some (.lst (zs.filterMap _root_.id)) → Qd H) :
    ∃ W : Nat → Nat → Hp → Prop, (∃ m, W 0 m (upd H1 D (.lst []))) ∧ ∀ i m H, W i m H →
      (J.stop i H ∧ Qd H) ∨ (J.go i H ∧ ∃ Nx : Hp → Prop, (∀ H', Nx H' → ∃ m', m' < m ∧ W (i + 1) m' H') ∧ ∀ x H', J.yld i H x H' → g x (wipe σ vs) H' fun σ2 H2 => wipe σ2 vs = wipe σ vs ∧ tt σ2 H2 fun b H3 =>
        if b = true then te σ2 H3 fun y H4 => ∃ acc, H4 D = some (.lst acc) ∧ acc.length < sizeLine ∧ Nx (upd H4 D (.lst (acc ++ [y]))) else Nx H3) := by
  refine lc_it w (fun i H => Same H1 H ∧ H D = some (.lst ((zs.take i).filterMap _root_.id))) ⟨same1 hD, upd_same⟩ (fun i H _ p => hGs _ _ hG p.1) (fun i x H H' hi p y => ?_) (fun H p => hd H p.1 ?_)
  · have hi2 : i < zs.length := by omega
    have tk : ∀ z, zs[i]? = some z → (zs.take (i + 1)).filterMap _root_.id = (zs.take i).filterMap _root_.id ++ z.toList := fun z e => by
      rw [List.take_add_one, e, List.filterMap_append]
      cases z <;> rfl
    have ez : zs[i]? = some zs[i] := List.getElem?_eq_getElem hi2
    refine hs i x H H' zs[i] _ _ hi ez p.1 y (fun v H4 e s4 => ⟨_, s4 _ _ p.2, ?_, ?_, ?_⟩) (fun H4 e s4 => ⟨p.1.trans s4, ?_⟩)
    · refine Nat.lt_of_le_of_lt (List.length_filterMap_le _ _) ?_
      rw [List.length_take]; omega
    · intro c o ec
      rw [upd_ne (ne_of_none ec hD)]
      exact s4 _ _ (p.1 _ _ ec)
    · rw [upd_same, tk _ ez, e]
      rfl
    · rw [tk _ ez, e, Option.toList_none, List.append_nil]
      exact s4 _ _ p.2
  · have e := p.2
    rw [← hlen, List.take_length] at e
    exact e
/-- the elements are told by what holds of them -/
theorem lcr (w : Walk J n G Y) (hGs : ∀ H H', G H → Same H H' → G H') (R : Nat → Hp → V → Prop) (hR : ∀ i H H' y, R i H y → Nl H H' → R i H' y) (hz : n < sizeLine) (hG : G H1) (hD : H1 D = none)
    (hs : ∀ (i : Nat) (x : V) (H H' : Hp) (N : VK) (M : Hp → Prop), i < n → Same H1 H → Y i H x H' → (∀ y H4, Same H H4 → R i H4 y → N y H4) →
      g x (wipe σ vs) H' fun σ2 H2 => wipe σ2 vs = wipe σ vs ∧ tt σ2 H2 fun b H3 => if b = true then te σ2 H3 N else M H3)
    (hd : ∀ H ys, Same H1 H → H D = some (.lst ys) → ys.length = n → (∀ i y, ys[i]? = some y → R i H y) → Qd H) :
    ∃ W : Nat → Nat → Hp → Prop, (∃ m, W 0 m (upd H1 D (.lst []))) ∧ ∀ i m H, W i m H →
      (J.stop i H ∧ Qd H) ∨ (J.go i H ∧ ∃ Nx : Hp → Prop, (∀ H', Nx H' → ∃ m', m' < m ∧ W (i + 1) m' H') ∧ ∀ x H', J.yld i H x H' → g x (wipe σ vs) H' fun σ2 H2 => wipe σ2 vs = wipe σ vs ∧ tt σ2 H2 fun b H3 =>
        if b = true then te σ2 H3 fun y H4 => ∃ acc, H4 D = some (.lst acc) ∧ acc.length < sizeLine ∧ Nx (upd H4 D (.lst (acc ++ [y]))) else Nx H3) := by
  refine lc_it w (fun i H => Same H1 H ∧ ∃ ys, H D = some (.lst ys) ∧ ys.length = i ∧ ∀ j y, ys[j]? = some y → R j H y) ⟨same1 hD, [], upd_same, rfl, fun j y hy => by simp at hy⟩ (fun i H _ p => hGs _ _ hG p.1) (fun i x H H' hi p y => ?_) (fun H p => ?_)
  · obtain ⟨s1, ys, h1, h2, h3⟩ := p
    refine hs i x H H' _ _ hi s1 y (fun v H4 s4 r4 => ⟨ys, s4 _ _ h1, by omega, ?_, ys ++ [v], upd_same, by rw [List.length_append, h2]; rfl, ?_⟩)
    · intro c o ec
      rw [upd_ne (ne_of_none ec hD)]
      exact s4 _ _ (s1 _ _ ec)
    · intro j z hj
      have n4 : Nl H4 (upd H4 D (.lst (ys ++ [v]))) := Nl.put (s4 _ _ h1)
      by_cases hlt : j < ys.length
      · rw [List.getElem?_append_left hlt] at hj
        exact hR _ _ _ _ (hR _ _ _ _ (h3 j z hj) (Nl.of s4)) n4
      · have hj2 : j = ys.length := by
          have := (List.getElem?_eq_some_iff.mp hj).1
          rw [List.length_append, List.length_singleton] at this
          omega
        subst hj2
        rw [List.getElem?_append_right (Nat.le_refl _), Nat.sub_self] at hj
        cases hj
        rw [h2]
        exact hR _ _ _ _ r4 n4
  · obtain ⟨s1, ys, h1, h2, h3⟩ := p
    exact hd H ys s1 h1 h2 h3
end
/-! ### several Measures -/
/-- the values ps are Measures of the fractions zs -/
structure Mks (C : Addr) (H : Hp) (k : Nat) (ps : List V) (zs : List Q2) : Prop where
  len : ps.length = zs.length
  all : ∀ (i : Nat) (v : V) (z : Q2), ps[i]? = some v → zs[i]? = some z → ∃ p, v = V.ref p ∧ QAt C H p k z
section
variable {C : Addr} {H H' : Hp} {k : Nat} {ps : List V} {zs : List Q2} {v : V}
theorem Mks.same (m : Mks C H k ps zs) (s : Same H H') : Mks C H' k ps zs := ⟨m.len, fun i v z h1 h2 => by
  obtain ⟨p, e, q⟩ := m.all i v z h1 h2
  exact ⟨p, e, q.same s⟩⟩
theorem Mks.kp {hd : Addr} {n : Nat} (m : Mks C H k ps zs) (hh : HandAt H hd n) (s : Kp hd H H') : Mks C H' k ps zs := ⟨m.len, fun i v z h1 h2 => by
  obtain ⟨p, e, q⟩ := m.all i v z h1 h2
  exact ⟨p, e, q.kp hh s⟩⟩
theorem Mks.at (m : Mks C H k ps zs) {i : Nat} {z : Q2} (h : zs[i]? = some z) : ∃ p, ps[i]? = some (.ref p) ∧ QAt C H p k z := by
  have hi : i < ps.length := by rw [m.len]; exact (List.getElem?_eq_some_iff.mp h).1
  obtain ⟨p, e, q⟩ := m.all i _ z (List.getElem?_eq_getElem hi) h
  exact ⟨p, by rw [List.getElem?_eq_getElem hi, e], q⟩
theorem Mks.of (m : Mks C H k ps zs) {i : Nat} {v : V} (h : ps[i]? = some v) : ∃ p z, v = .ref p ∧ zs[i]? = some z ∧ QAt C H p k z := by
  have hi : i < zs.length := by rw [← m.len]; exact (List.getElem?_eq_some_iff.mp h).1
  obtain ⟨p, e, q⟩ := m.all i v _ h (List.getElem?_eq_getElem hi)
  exact ⟨p, _, e, List.getElem?_eq_getElem hi, q⟩
/-- None, or a Measure -/
def QO (C : Addr) (H : Hp) (k : Nat) (v : V) : Option Q2 → Prop
  | none => v = .non
  | some z => ∃ p, v = .ref p ∧ QAt C H p k z
theorem QO.same : ∀ {e : Option Q2}, QO C H k v e → Same H H' → QO C H' k v e
  | none, h, _ => h
  | some _, ⟨p, h1, h2⟩, s => ⟨p, h1, h2.same s⟩
theorem QO.kp {hd : Addr} {n : Nat} : ∀ {e : Option Q2}, QO C H k v e → HandAt H hd n → Kp hd H H' → QO C H' k v e
  | none, h, _, _ => h
  | some _, ⟨p, h1, h2⟩, hh, s => ⟨p, h1, h2.kp hh s⟩
/-- the exact numbers of such a Measure -/
theorem QAt.low {p : Addr} {z : Q2} (q : QAt C H p k z) (l : k ≤ 4000) : ∃ a : Q2, MAt C H p a.1 a.2 ∧ Low a ∧ Re a z := by
  obtain ⟨⟨t, u, m, f⟩, h1, h2, h3⟩ := q
  exact ⟨(t, u), m, ⟨f.pos, f.co, (h2.le f.lt).mono l, (h3.le f.lu).mono l⟩, f.pos, h1, f.eq⟩
theorem QO.low (l : k ≤ 4000) : ∀ {e : Option Q2}, QO C H k v e → ∃ m, MsV C H v m ∧ LowO m ∧ ReO m e
  | none, h => ⟨none, h, trivial, trivial⟩
  | some _, ⟨p, h1, h2⟩ => by
    obtain ⟨a, ma, la, ra⟩ := h2.low l
    exact ⟨some a, ⟨p, h1, ma⟩, la, ra⟩
theorem QAt.of {p : Addr} {a z : Q2} (m : MAt C H p a.1 a.2) (l : Low a) (r : Re a z) (s1 : Sz k z.1) (s2 : Sz k z.2) : QAt C H p k z :=
  ⟨⟨a.1, a.2, m, fr_of l.pos l.co r.2.1 r.2.2⟩, r.2.1, s1, s2⟩
end
/-! ### a Ladder -/
def lf (T : V) (r : Str) (l h : V) : List (Str × V) := [("marks", T), ("rule", .str r), ("least", l), ("most", h)]
theorem lf_put (T : V) (r : Str) (l h : V) : putF "most" h (putF "least" l (putF "rule" (.str r) (putF "marks" T []))) = lf T r l h := by
  have e1 : putF ("rule" : Str) (.str r) (putF ("marks" : Str) T []) = ([("marks", T), ("rule", .str r)] : List (Str × V)) := by
    show (if ("marks" : Str) = "rule" then [(("marks" : Str), V.str r)] else (("marks" : Str), T) :: putF "rule" (.str r) []) = _
    rw [if_neg (by decide +kernel)] <;> rfl
  have e2 : putF ("least" : Str) l [("marks", T), ("rule", .str r)] = ([("marks", T), ("rule", .str r), ("least", l)] : List (Str × V)) := by
    show (if ("marks" : Str) = "least" then _ else (("marks" : Str), T) :: (if ("rule" : Str) = "least" then _ else (("rule" : Str), V.str r) :: putF "least" l [])) = _
    rw [if_neg (by decide +kernel), if_neg (by decide +kernel)] <;> rfl
  have e3 : putF ("most" : Str) h [("marks", T), ("rule", .str r), ("least", l)] = lf T r l h := by
    show (if ("marks" : Str) = "most" then _ else (("marks" : Str), T) :: (if ("rule" : Str) = "most" then _ else (("rule" : Str), V.str r) :: (if ("least" : Str) = "most" then _ else (("least" : Str), l) :: putF "most" h []))) = _
    rw [if_neg (by decide +kernel), if_neg (by decide +kernel), if_neg (by decide +kernel)] <;> rfl
  rw [e1, e2, e3]
section
variable (T : V) (r : Str) (l h : V)
theorem lf_marks : (lf T r l h).lookup ("marks" : Str) = some T := by
  rw [← lf_put, lookup_putF, if_neg (by decide +kernel), lookup_putF, if_neg (by decide +kernel), lookup_putF, if_neg (by decide +kernel), lookup_putF, if_pos rfl]
theorem lf_rule : (lf T r l h).lookup ("rule" : Str) = some (.str r) := by
  rw [← lf_put, lookup_putF, if_neg (by decide +kernel), lookup_putF, if_neg (by decide +kernel), lookup_putF, if_pos rfl]
theorem lf_least : (lf T r l h).lookup ("least" : Str) = some l := by
  rw [← lf_put, lookup_putF, if_neg (by decide +kernel), lookup_putF, if_pos rfl]
theorem lf_most : (lf T r l h).lookup ("most" : Str) = some h := by
  rw [← lf_put, lookup_putF, if_pos rfl]
theorem lf_no {m : Str} (h1 : ¬ m = "marks") (h2 : ¬ m = "rule") (h3 : ¬ m = "least") (h4 : ¬ m = "most") : (lf T r l h).lookup m = none := by
  rw [← lf_put, lookup_putF, if_neg h4, lookup_putF, if_neg h3, lookup_putF, if_neg h2, lookup_putF, if_neg h1] <;> rfl
end
/-- rows that rise -/
def RiseQ (zs : List Q2) : Prop := ∀ i a b, zs[i]? = some a → zs[i + 1]? = some b → ltq a b = true
/-- the first row that isn't above the one ahead -/
def SlipQ (zs : List Q2) : Option Nat → Prop
  | none => RiseQ zs
  | some n => 1 ≤ n ∧ n < zs.length ∧ (∀ a b, zs[n - 1]? = some a → zs[n]? = some b → ltq a b = false) ∧ ∀ i a b, i + 1 < n → zs[i]? = some a → zs[i + 1]? = some b → ltq a b = true
def optI : Option Nat → V
  | none => .non
  | some n => .int (n : Int)
def leq (a b : Q2) : Bool := ltq a b || eqq a b
/-- least isn't above most -/
def spanB : Option Q2 → Option Q2 → Bool
  | some a, some b => !ltq b a
  | _, _ => true
def IsRule (r : Str) : Prop := r = "up" ∨ r = "down" ∨ r = "near"
structure LadAt (K : PySem.W.Frag) (CM CL : Addr) (H : Hp) (p : Addr) (k : Nat) (zs : List Q2) (r : Str) (lo hi : Option Q2) : Prop where
  ob : ∃ dx T ps l h, H p = some (.ins CL dx (lf (.ref T) r l h)) ∧ SqT K H T ps ∧ Mks CM H k ps zs ∧ QO CM H k l lo ∧ QO CM H k h hi
  len0 : 0 < zs.length
  len1 : zs.length ≤ 24
  rise : RiseQ zs
  rule : IsRule r
  span : spanB lo hi = true
theorem LadAt.same {K : PySem.W.Frag} {CM CL p : Addr} {H H' : Hp} {k : Nat} {zs : List Q2} {r : Str} {lo hi : Option Q2} (a : LadAt K CM CL H p k zs r lo hi) (s : Same H H') : LadAt K CM CL H' p k zs r lo hi := by
  obtain ⟨⟨dx, T, ps, l, h, h1, h2, h3, h4, h5⟩, a1, a2, a3, a4, a5⟩ := a
  exact ⟨⟨dx, T, ps, l, h, s _ _ h1, s.sqt h2, h3.same s, h4.same s, h5.same s⟩, a1, a2, a3, a4, a5⟩
theorem LadAt.raw {K : PySem.W.Frag} {CM CL p : Addr} {H : Hp} {k : Nat} {zs : List Q2} {r : Str} {lo hi : Option Q2} (a : LadAt K CM CL H p k zs r lo hi) {m : Str} (h1 : ¬ m = "marks") (h2 : ¬ m = "rule") (h3 : ¬ m = "least") (h4 : ¬ m = "most") : ∃ dx fs, H p = some (.ins CL dx fs) ∧ fs.lookup m = none := by
  obtain ⟨⟨dx, T, ps, l, h, e1, _⟩, _⟩ := a
  exact ⟨dx, _, e1, lf_no _ _ _ _ h1 h2 h3 h4⟩
/-- the midsts of neighbours -/
def midq : List Q2 → List Q2
  | a :: b :: r => qhalf a b :: midq (b :: r)
  | _ => []
theorem atI_of {xs : List V} {z : Int} {n : Nat} {v : V} (e : z = (n : Int)) (h : xs[n]? = some v) : atI xs z = some v := by
  rw [e]; exact atI_nat h
theorem ge2 {n : Nat} {zs : List Q2} (h : n < zs.length) : ∃ a, zs[n]? = some a := ⟨_, List.getElem?_eq_getElem h⟩
/-- a constant of the module: a tuple of texts -/
def strsOf : List Value → Option (List Str)
  | [] => some []
  | .str x _ :: r => (strsOf r).map (x :: ·)
  | _ => none
theorem strsOf_ok : ∀ {l : List Value} {ss : List Str}, strsOf l = some ss → Vals (ss.map V.str) l
  | [], ss, h => by cases h; exact .nil
  | .str x t :: r, ss, h => by
    cases e : strsOf r with
    | none => simp [strsOf, e] at h
    | some l =>
      simp [strsOf, e] at h
      subst h
      exact .cons ⟨t, rfl⟩ (strsOf_ok e)
def tupB (x : Str) (ss : List Str) : PySem.W.Frag → Bool := fun K => match K.lookup (He.ga K x) with
  | some ⟨.type "tuple", _, .seq its _, _⟩ => decide (its.size ≤ sizeLine) && decide (strsOf its.toList = some ss)
  | _ => false
theorem tup_ok {x : Str} {ss : List Str} {K : PySem.W.Frag} (c : tupB x ss K = true) : ∀ H, SqT K H (He.ga K x) (ss.map V.str) := by
  intro H
  unfold tupB at c
  split at c
  · rename_i d its n sl e
    obtain ⟨c1, c2⟩ := He.ba c
    exact .inr ⟨_, its, n, e, rfl, rfl, of_decide_eq_true c1, strsOf_ok (of_decide_eq_true c2)⟩
  · cases c
theorem tyTup {K : PySem.W.Frag} {H : Hp} {T : Addr} {ps : List V} (h : SqT K H T ps) : TyX K H (.ref T) (.type "tuple") := by
  rcases h with (h | ⟨o, h⟩) | ⟨o, its, n, h, c, _⟩
  · exact .base (.tup h)
  · exact .fTuple h
  · exact .kTuple h c
/-! ### what the defs of ladders promise -/
def sp_slip (K : PySem.W.Frag) (CM : Addr) : Sp := fun vs H Q _ => ∃ (T : Addr) (k : Nat) (ps : List V) (zs : List Q2), vs = [.ref T] ∧ SqT K H T ps ∧ Mks CM H k ps zs ∧ k ≤ 9000 ∧ zs.length ≤ 1000 ∧ ∀ o, SlipQ zs o → Q (optI o) H
def sp_isendQ (CM : Addr) : Sp := fun vs H Q _ => ∃ (v : V) (k : Nat) (e : Option Q2), vs = [v] ∧ QO CM H k v e ∧ Q (.bl true) H
def sp_arem (K : PySem.W.Frag) (CM : Addr) : Sp := fun vs H Q _ => ∃ (T : Addr) (k : Nat) (ps : List V) (zs : List Q2), vs = [.ref T] ∧ SqT K H T ps ∧ Mks CM H k ps zs ∧ 0 < zs.length ∧ zs.length ≤ 24 ∧ ∀ H', Same H H' → Q (.bl true) H'
def sp_isrule : Sp := fun vs H Q _ => ∃ r : Str, vs = [.str r] ∧ IsRule r ∧ Q (.bl true) H
def sp_linit (K : PySem.W.Frag) (CM CL : Addr) : Sp := fun vs H Q _ => ∃ (p dx T : Addr) (k : Nat) (ps : List V) (zs : List Q2) (r : Str) (l h : V) (lo hi : Option Q2), vs = [.ref p, .ref T, .str r, l, h] ∧ H p = some (.ins CL dx []) ∧ SqT K H T ps ∧ Mks CM H k ps zs ∧ k ≤ 4000 ∧ 0 < zs.length ∧ zs.length ≤ 24 ∧ RiseQ zs ∧ IsRule r ∧
  QO CM H k l lo ∧ QO CM H k h hi ∧ spanB lo hi = true ∧ ∀ H', H' p = some (.ins CL dx (lf (.ref T) r l h)) → (∀ q o, H q = some o → q ≠ p → H' q = some o) → Q .non H'
/-- a Ladder is made -/
theorem lad_made {K : PySem.W.Frag} {CM CL T : Addr} {H : Hp} {Qa : Addr → Hp → Prop} {E : XK} {k : Nat} {ps : List V} {zs : List Q2} {r : Str} {l h : V} {lo hi : Option Q2} (hT : SqT K H T ps) (hm : Mks CM H k ps zs) (hk : k ≤ 4000) (l0 : 0 < zs.length) (l1 : zs.length ≤ 24) (ri : RiseQ zs) (ru : IsRule r)
    (q1 : QO CM H k l lo) (q2 : QO CM H k h hi) (sp : spanB lo hi = true) (f : ∀ (p : Addr) (H' : Hp), H p = none → Same H H' → LadAt K CM CL H' p k zs r lo hi → (∃ dx, H' p = some (.ins CL dx (lf (.ref T) r l h))) → Qa p H') :
    ∀ x dx, H x = none → H dx = none → dx ≠ x → sp_linit K CM CL [.ref x, .ref T, .str r, l, h] (upd (upd H dx (.own x)) x (.ins CL dx [])) (fun v H2 => v = .non ∧ Qa x H2) E := by
  intro x dx nx nd ne
  have s0 : Same H (upd (upd H dx (.own x)) x (.ins CL dx [])) := fun c o e => by
    rw [upd_ne (ne_of_none e nx)]
    exact up1 nd e
  refine ⟨x, dx, T, k, ps, zs, r, l, h, lo, hi, rfl, upd_same, s0.sqt hT, hm.same s0, hk, l0, l1, ri, ru, q1.same s0, q2.same s0, sp, fun H' hx kp => ⟨rfl, ?_⟩⟩
  have s1 : Same H H' := made_same nx nd kp
  exact f x H' nx s1 ⟨⟨dx, T, ps, l, h, hx, s1.sqt hT, hm.same s1, q1.same s1, q2.same s1⟩, l0, l1, ri, ru, sp⟩ ⟨dx, hx⟩
theorem iteDT {c A B : Prop} [Decidable c] (hc : c) (h : A) : if decide c = true then A else B := by
  rw [if_pos (decide_eq_true hc)]; exact h
theorem iteDF {c A B : Prop} [Decidable c] (hc : ¬ c) (h : B) : if decide c = true then A else B := by
  rw [if_neg (by simpa using hc)]; exact h
theorem iteNT {c A B : Prop} [Decidable c] (hc : ¬ c) (h : A) : if (!decide c) = true then A else B := by
  rw [if_pos (by simpa using hc)]; exact h
section
variable {C H p k} {m : Str} {R : Prop}
theorem meth_q {x : Q2} (q : QAt C H p k x) (h1 : ¬ m = "top") (h2 : ¬ m = "bottom") (h : R) : ∃ a dx fs, V.ref p = .ref a ∧ H a = some (.ins C dx fs) ∧ fs.lookup m = none ∧ R := by
  obtain ⟨dx, fs, e1, e2⟩ := q.raw h1 h2
  exact ⟨p, dx, fs, rfl, e1, e2, h⟩
theorem meth_l {K : PySem.W.Frag} {CM : Addr} {zs : List Q2} {r : Str} {lo hi : Option Q2} (q : LadAt K CM C H p k zs r lo hi) (h1 : ¬ m = "marks") (h2 : ¬ m = "rule") (h3 : ¬ m = "least") (h4 : ¬ m = "most") (h : R) : ∃ a dx fs, V.ref p = .ref a ∧ H a = some (.ins C dx fs) ∧ fs.lookup m = none ∧ R := by
  obtain ⟨dx, fs, e1, e2⟩ := q.raw h1 h2 h3 h4
  exact ⟨p, dx, fs, rfl, e1, e2, h⟩
theorem meth_s {CM : Addr} {lo hi : Option Q2} {li hj : Bool} (q : StAt CM C H p lo hi li hj) (h1 : ¬ m = "low") (h2 : ¬ m = "high") (h3 : ¬ m = "low_in") (h4 : ¬ m = "high_in") (h : R) : ∃ a dx fs, V.ref p = .ref a ∧ H a = some (.ins C dx fs) ∧ fs.lookup m = none ∧ R := by
  obtain ⟨dx, fs, e1, e2⟩ := q.raw h1 h2 h3 h4
  exact ⟨p, dx, fs, rfl, e1, e2, h⟩
end
end My
namespace K47
open PySem PySem.Spec PyProof.Rows L2 My
/-! ### the text by places -/
def topS (i : Nat) : Stmt := PySem.Challenge.pw_sizeladders_k47_grids_made_or_refused.main.body.getD i (.Pass ⟨0, 0, 0, 0⟩)
abbrev s_is_whole : Stmt := (topS 13)
abbrev s_common_part : Stmt := (topS 15)
abbrev s_written : Stmt := (topS 16)
abbrev s_Measure_init : Stmt := (inClass (topS 17) 0)
abbrev s_Measure_eq : Stmt := (inClass (topS 17) 1)
abbrev s_Measure_str : Stmt := (inClass (topS 17) 2)
abbrev s_Measure_plus : Stmt := (inClass (topS 17) 4)
abbrev s_Measure_times : Stmt := (inClass (topS 17) 6)
abbrev s_Measure_is_below : Stmt := (inClass (topS 17) 8)
abbrev s_is_measure_or_none : Stmt := (topS 18)
abbrev s_measure_or : Stmt := (topS 19)
abbrev s_slip_of : Stmt := (topS 21)
abbrev s_are_marks : Stmt := (topS 31)
abbrev s_is_rule : Stmt := (topS 32)
abbrev s_is_span : Stmt := (topS 33)
abbrev s_Ladder_init : Stmt := (inClass (topS 40) 0)
abbrev s_Ladder_eq : Stmt := (inClass (topS 40) 1)
abbrev s_Grid_init : Stmt := (inClass (topS 42) 0)
abbrev s_Grid_long_mark : Stmt := (inClass (topS 42) 1)
abbrev s_Grid_broad_mark : Stmt := (inClass (topS 42) 2)
abbrev s_Grid_graded : Stmt := (inClass (topS 42) 3)
abbrev s_l_hand : Stmt := (topS 44)
abbrev s_l_take : Stmt := (topS 45)
abbrev s_l_pick : Stmt := (topS 46)
abbrev s_l_plain : Stmt := (topS 47)
abbrev s_l_sum : Stmt := (topS 48)
abbrev s_l_measures : Stmt := (topS 49)
abbrev s_l_part : Stmt := (topS 50)
abbrev s_l_marks_of : Stmt := (topS 51)
abbrev s_l_grades : Stmt := (topS 52)
abbrev s_l_broad : Stmt := (topS 53)
abbrev s_l_any_ladder : Stmt := (topS 54)
abbrev s_l_deep : Stmt := (topS 55)
abbrev s_l_refused : Stmt := (topS 56)
abbrev s_l_is_grid : Stmt := (topS 57)
abbrev s_law : Stmt := (topS 58)
abbrev N_is_whole : List Str := ["thing"]
abbrev p_is_whole : List Str := ["thing"]
theorem sc_is_whole : FnScope N_is_whole p_is_whole (defScope s_is_whole) := ⟨rfl, rfl, rfl, by decide +kernel, rfl, by decide +kernel, by decide +kernel⟩
abbrev N_common_part : List Str := ["one", "other", "great", "small"]
abbrev p_common_part : List Str := ["one", "other"]
theorem sc_common_part : FnScope N_common_part p_common_part (defScope s_common_part) := ⟨rfl, rfl, rfl, by decide +kernel, rfl, by decide +kernel, by decide +kernel⟩
abbrev N_written : List Str := ["top", "bottom", "whole", "rest"]
abbrev p_written : List Str := ["top", "bottom"]
theorem sc_written : FnScope N_written p_written (defScope s_written) := ⟨rfl, rfl, rfl, by decide +kernel, rfl, by decide +kernel, by decide +kernel⟩
abbrev N_Measure_init : List Str := ["self", "top", "bottom", "common"]
abbrev p_Measure_init : List Str := ["self", "top", "bottom"]
theorem sc_Measure_init : FnScope N_Measure_init p_Measure_init (defScope s_Measure_init) := ⟨rfl, rfl, rfl, by decide +kernel, rfl, by decide +kernel, by decide +kernel⟩
abbrev N_Measure_eq : List Str := ["self", "other"]
abbrev p_Measure_eq : List Str := ["self", "other"]
theorem sc_Measure_eq : FnScope N_Measure_eq p_Measure_eq (defScope s_Measure_eq) := ⟨rfl, rfl, rfl, by decide +kernel, rfl, by decide +kernel, by decide +kernel⟩
abbrev N_Measure_str : List Str := ["self"]
abbrev p_Measure_str : List Str := ["self"]
theorem sc_Measure_str : FnScope N_Measure_str p_Measure_str (defScope s_Measure_str) := ⟨rfl, rfl, rfl, by decide +kernel, rfl, by decide +kernel, by decide +kernel⟩
abbrev N_Measure_plus : List Str := ["self", "other"]
abbrev p_Measure_plus : List Str := ["self", "other"]
theorem sc_Measure_plus : FnScope N_Measure_plus p_Measure_plus (defScope s_Measure_plus) := ⟨rfl, rfl, rfl, by decide +kernel, rfl, by decide +kernel, by decide +kernel⟩
abbrev N_Measure_times : List Str := ["self", "other"]
abbrev p_Measure_times : List Str := ["self", "other"]
theorem sc_Measure_times : FnScope N_Measure_times p_Measure_times (defScope s_Measure_times) := ⟨rfl, rfl, rfl, by decide +kernel, rfl, by decide +kernel, by decide +kernel⟩
abbrev N_Measure_is_below : List Str := ["self", "other", "alike", "here", "there"]
abbrev p_Measure_is_below : List Str := ["self", "other", "alike"]
theorem sc_Measure_is_below : FnScope N_Measure_is_below p_Measure_is_below (defScope s_Measure_is_below) := ⟨rfl, rfl, rfl, by decide +kernel, rfl, by decide +kernel, by decide +kernel⟩
abbrev N_is_measure_or_none : List Str := ["thing"]
abbrev p_is_measure_or_none : List Str := ["thing"]
theorem sc_is_measure_or_none : FnScope N_is_measure_or_none p_is_measure_or_none (defScope s_is_measure_or_none) := ⟨rfl, rfl, rfl, by decide +kernel, rfl, by decide +kernel, by decide +kernel⟩
abbrev N_measure_or : List Str := ["thing", "number"]
abbrev p_measure_or : List Str := ["thing", "number"]
theorem sc_measure_or : FnScope N_measure_or p_measure_or (defScope s_measure_or) := ⟨rfl, rfl, rfl, by decide +kernel, rfl, by decide +kernel, by decide +kernel⟩
abbrev N_slip_of : List Str := ["rows", "number"]
abbrev p_slip_of : List Str := ["rows"]
theorem sc_slip_of : FnScope N_slip_of p_slip_of (defScope s_slip_of) := ⟨rfl, rfl, rfl, by decide +kernel, rfl, by decide +kernel, by decide +kernel⟩
abbrev N_are_marks : List Str := ["thing", "mark"]
abbrev p_are_marks : List Str := ["thing"]
theorem sc_are_marks : FnScope N_are_marks p_are_marks (defScope s_are_marks) := ⟨rfl, rfl, rfl, by decide +kernel, rfl, by decide +kernel, by decide +kernel⟩
abbrev N_is_rule : List Str := ["thing"]
abbrev p_is_rule : List Str := ["thing"]
theorem sc_is_rule : FnScope N_is_rule p_is_rule (defScope s_is_rule) := ⟨rfl, rfl, rfl, by decide +kernel, rfl, by decide +kernel, by decide +kernel⟩
abbrev N_is_span : List Str := ["least", "most"]
abbrev p_is_span : List Str := ["least", "most"]
theorem sc_is_span : FnScope N_is_span p_is_span (defScope s_is_span) := ⟨rfl, rfl, rfl, by decide +kernel, rfl, by decide +kernel, by decide +kernel⟩
abbrev N_Ladder_init : List Str := ["self", "marks", "rule", "least", "most", "slip"]
abbrev p_Ladder_init : List Str := ["self", "marks", "rule", "least", "most"]
theorem sc_Ladder_init : FnScope N_Ladder_init p_Ladder_init (defScope s_Ladder_init) := ⟨rfl, rfl, rfl, by decide +kernel, rfl, by decide +kernel, by decide +kernel⟩
abbrev N_Ladder_eq : List Str := ["self", "other"]
abbrev p_Ladder_eq : List Str := ["self", "other"]
theorem sc_Ladder_eq : FnScope N_Ladder_eq p_Ladder_eq (defScope s_Ladder_eq) := ⟨rfl, rfl, rfl, by decide +kernel, rfl, by decide +kernel, by decide +kernel⟩
abbrev N_Grid_init : List Str := ["self", "lengths", "breadths", "grade"]
abbrev p_Grid_init : List Str := ["self", "lengths", "breadths", "grade"]
theorem sc_Grid_init : FnScope N_Grid_init p_Grid_init (defScope s_Grid_init) := ⟨rfl, rfl, rfl, by decide +kernel, rfl, by decide +kernel, by decide +kernel⟩
abbrev N_Grid_long_mark : List Str := ["self", "pair"]
abbrev p_Grid_long_mark : List Str := ["self", "pair"]
theorem sc_Grid_long_mark : FnScope N_Grid_long_mark p_Grid_long_mark (defScope s_Grid_long_mark) := ⟨rfl, rfl, rfl, by decide +kernel, rfl, by decide +kernel, by decide +kernel⟩
abbrev N_Grid_broad_mark : List Str := ["self", "pair"]
abbrev p_Grid_broad_mark : List Str := ["self", "pair"]
theorem sc_Grid_broad_mark : FnScope N_Grid_broad_mark p_Grid_broad_mark (defScope s_Grid_broad_mark) := ⟨rfl, rfl, rfl, by decide +kernel, rfl, by decide +kernel, by decide +kernel⟩
abbrev N_Grid_graded : List Str := ["self", "number"]
abbrev p_Grid_graded : List Str := ["self", "number"]
theorem sc_Grid_graded : FnScope N_Grid_graded p_Grid_graded (defScope s_Grid_graded) := ⟨rfl, rfl, rfl, by decide +kernel, rfl, by decide +kernel, by decide +kernel⟩
abbrev N_l_hand : List Str := ["_law_script", "_law_k", "_law_cell", "_law_own"]
abbrev p_l_hand : List Str := ["_law_script", "_law_k"]
theorem sc_l_hand : FnScope N_l_hand p_l_hand (defScope s_l_hand) := ⟨rfl, rfl, rfl, by decide +kernel, rfl, by decide +kernel, by decide +kernel⟩
abbrev N_l_take : List Str := ["_law_hand_here", "_law_many", "_law_digit", "_law_mixed"]
abbrev p_l_take : List Str := ["_law_hand_here", "_law_many"]
theorem sc_l_take : FnScope N_l_take p_l_take (defScope s_l_take) := ⟨rfl, rfl, rfl, by decide +kernel, rfl, by decide +kernel, by decide +kernel⟩
abbrev N_l_pick : List Str := ["_law_hand_here", "_law_some"]
abbrev p_l_pick : List Str := ["_law_hand_here", "_law_some"]
theorem sc_l_pick : FnScope N_l_pick p_l_pick (defScope s_l_pick) := ⟨rfl, rfl, rfl, by decide +kernel, rfl, by decide +kernel, by decide +kernel⟩
abbrev N_l_plain : List Str := ["_law_top", "_law_bottom", "_law_one", "_law_other"]
abbrev p_l_plain : List Str := ["_law_top", "_law_bottom"]
theorem sc_l_plain : FnScope N_l_plain p_l_plain (defScope s_l_plain) := ⟨rfl, rfl, rfl, by decide +kernel, rfl, by decide +kernel, by decide +kernel⟩
abbrev N_l_sum : List Str := ["_law_a", "_law_b"]
abbrev p_l_sum : List Str := ["_law_a", "_law_b"]
theorem sc_l_sum : FnScope N_l_sum p_l_sum (defScope s_l_sum) := ⟨rfl, rfl, rfl, by decide +kernel, rfl, by decide +kernel, by decide +kernel⟩
abbrev N_l_measures : List Str := ["_law_some", "_law_top", "_law_bottom"]
abbrev p_l_measures : List Str := ["_law_some"]
theorem sc_l_measures : FnScope N_l_measures p_l_measures (defScope s_l_measures) := ⟨rfl, rfl, rfl, by decide +kernel, rfl, by decide +kernel, by decide +kernel⟩
abbrev N_l_part : List Str := ["_law_hand_here"]
abbrev p_l_part : List Str := ["_law_hand_here"]
theorem sc_l_part : FnScope N_l_part p_l_part (defScope s_l_part) := ⟨rfl, rfl, rfl, by decide +kernel, rfl, by decide +kernel, by decide +kernel⟩
abbrev N_l_marks_of : List Str := ["_law_hand_here", "_law_most", "_law_alike", "_law_many", "_law_step", "_law_found", "_law_k"]
abbrev p_l_marks_of : List Str := ["_law_hand_here", "_law_most"]
theorem sc_l_marks_of : FnScope N_l_marks_of p_l_marks_of (defScope s_l_marks_of) := ⟨rfl, rfl, rfl, by decide +kernel, rfl, by decide +kernel, by decide +kernel⟩
abbrev N_l_grades : List Str := ["_law_hand_here"]
abbrev p_l_grades : List Str := ["_law_hand_here"]
theorem sc_l_grades : FnScope N_l_grades p_l_grades (defScope s_l_grades) := ⟨rfl, rfl, rfl, by decide +kernel, rfl, by decide +kernel, by decide +kernel⟩
abbrev N_l_broad : List Str := ["_law_sides", "_law_k", "_law_w"]
abbrev p_l_broad : List Str := ["_law_sides", "_law_k", "_law_w"]
theorem sc_l_broad : FnScope N_l_broad p_l_broad (defScope s_l_broad) := ⟨rfl, rfl, rfl, by decide +kernel, rfl, by decide +kernel, by decide +kernel⟩
abbrev N_l_any_ladder : List Str := ["_law_hand_here", "_law_marks", "_law_word", "_law_low", "_law_high", "_law_ends", "_law_one"]
abbrev p_l_any_ladder : List Str := ["_law_hand_here", "_law_marks"]
theorem sc_l_any_ladder : FnScope N_l_any_ladder p_l_any_ladder (defScope s_l_any_ladder) := ⟨rfl, rfl, rfl, by decide +kernel, rfl, by decide +kernel, by decide +kernel⟩
abbrev N_l_deep : List Str := ["_law_hand_here", "_law_thing", "_law_form", "_law_turn"]
abbrev p_l_deep : List Str := ["_law_hand_here", "_law_thing"]
theorem sc_l_deep : FnScope N_l_deep p_l_deep (defScope s_l_deep) := ⟨rfl, rfl, rfl, by decide +kernel, rfl, by decide +kernel, by decide +kernel⟩
abbrev N_l_refused : List Str := ["_law_side", "_law_other", "_law_by", "_law_caught", "e", "_law_others"]
abbrev p_l_refused : List Str := ["_law_side", "_law_other", "_law_by"]
theorem sc_l_refused : FnScope N_l_refused p_l_refused (defScope s_l_refused) := ⟨rfl, rfl, rfl, by decide +kernel, rfl, by decide +kernel, by decide +kernel⟩
abbrev N_l_is_grid : List Str := ["_law_grid_made", "_law_charts", "_law_sides", "_law_by", "_law_k", "_law_w", "_law_top", "_law_bottom", "_law_long", "_law_broad_here"]
abbrev p_l_is_grid : List Str := ["_law_grid_made", "_law_charts", "_law_sides"]
theorem sc_l_is_grid : FnScope N_l_is_grid p_l_is_grid (defScope s_l_is_grid) := ⟨rfl, rfl, rfl, by decide +kernel, rfl, by decide +kernel, by decide +kernel⟩
abbrev N_law : List Str := ["_law_script", "_law_k", "_law_hand_here", "_law_bare", "_law_sides", "_law_charts", "_law_by", "_law_made", "_law_some", "_law_one"]
abbrev p_law : List Str := ["_law_script"]
theorem sc_law : FnScope N_law p_law (defScope s_law) := ⟨rfl, rfl, rfl, by decide +kernel, rfl, by decide +kernel, by decide +kernel⟩
/-! ### what the top has written -/
structure Fds where
  is_whole : FuncData
  common_part : FuncData
  written : FuncData
  Measure_init : FuncData
  Measure_eq : FuncData
  Measure_str : FuncData
  Measure_plus : FuncData
  Measure_times : FuncData
  Measure_is_below : FuncData
  is_measure_or_none : FuncData
  measure_or : FuncData
  slip_of : FuncData
  are_marks : FuncData
  is_rule : FuncData
  is_span : FuncData
  Ladder_init : FuncData
  Ladder_eq : FuncData
  Grid_init : FuncData
  Grid_long_mark : FuncData
  Grid_broad_mark : FuncData
  Grid_graded : FuncData
  l_hand : FuncData
  l_take : FuncData
  l_pick : FuncData
  l_plain : FuncData
  l_sum : FuncData
  l_measures : FuncData
  l_part : FuncData
  l_marks_of : FuncData
  l_grades : FuncData
  l_broad : FuncData
  l_any_ladder : FuncData
  l_deep : FuncData
  l_refused : FuncData
  l_is_grid : FuncData
  law : FuncData
structure Txt (K : PySem.W.Frag) (mg : Str → Option Value) (φ : Fds) : Prop where
  g_is_whole : mg "is_whole" = some (.ref (He.ga K "is_whole"))
  g_common_part : mg "common_part" = some (.ref (He.ga K "common_part"))
  g_written : mg "written" = some (.ref (He.ga K "written"))
  g_is_measure_or_none : mg "is_measure_or_none" = some (.ref (He.ga K "is_measure_or_none"))
  g_measure_or : mg "measure_or" = some (.ref (He.ga K "measure_or"))
  g_slip_of : mg "slip_of" = some (.ref (He.ga K "slip_of"))
  g_are_marks : mg "are_marks" = some (.ref (He.ga K "are_marks"))
  g_is_rule : mg "is_rule" = some (.ref (He.ga K "is_rule"))
  g_is_span : mg "is_span" = some (.ref (He.ga K "is_span"))
  g_l_hand : mg "_law_hand" = some (.ref (He.ga K "_law_hand"))
  g_l_take : mg "_law_take" = some (.ref (He.ga K "_law_take"))
  g_l_pick : mg "_law_pick" = some (.ref (He.ga K "_law_pick"))
  g_l_plain : mg "_law_plain" = some (.ref (He.ga K "_law_plain"))
  g_l_sum : mg "_law_sum" = some (.ref (He.ga K "_law_sum"))
  g_l_measures : mg "_law_measures" = some (.ref (He.ga K "_law_measures"))
  g_l_part : mg "_law_part" = some (.ref (He.ga K "_law_part"))
  g_l_marks_of : mg "_law_marks_of" = some (.ref (He.ga K "_law_marks_of"))
  g_l_grades : mg "_law_grades" = some (.ref (He.ga K "_law_grades"))
  g_l_broad : mg "_law_broad" = some (.ref (He.ga K "_law_broad"))
  g_l_any_ladder : mg "_law_any_ladder" = some (.ref (He.ga K "_law_any_ladder"))
  g_l_deep : mg "_law_deep" = some (.ref (He.ga K "_law_deep"))
  g_l_refused : mg "_law_refused" = some (.ref (He.ga K "_law_refused"))
  g_l_is_grid : mg "_law_is_grid" = some (.ref (He.ga K "_law_is_grid"))
  g_law : mg "law" = some (.ref (He.ga K "law"))
  g_Measure : mg "Measure" = some (.ref (He.ga K "Measure"))
  g_Ladder : mg "Ladder" = some (.ref (He.ga K "Ladder"))
  g_Grid : mg "Grid" = some (.ref (He.ga K "Grid"))
  g_RULES : mg "RULES" = some (.ref (He.ga K "RULES"))
  g_LadderError : mg "LadderError" = some (.ref (He.ga K "LadderError"))
  g_NoLadder : mg "NoLadder" = some (.ref (He.ga K "NoLadder"))
  g_NoLine : mg "NoLine" = some (.ref (He.ga K "NoLine"))
  g_NoMeasure : mg "NoMeasure" = some (.ref (He.ga K "NoMeasure"))
  g_NoStretch : mg "NoStretch" = some (.ref (He.ga K "NoStretch"))
  g_NoText : mg "NoText" = some (.ref (He.ga K "NoText"))
  g_Slip : mg "Slip" = some (.ref (He.ga K "Slip"))
  v_MOST_MARKS : ∃ t, mg "MOST_MARKS" = some (.int 24 t)
  z_ValueError : mg "ValueError" = none
  z_abs : mg "abs" = none
  z_all : mg "all" = none
  z_bool : mg "bool" = none
  z_divmod : mg "divmod" = none
  z_int : mg "int" = none
  z_isinstance : mg "isinstance" = none
  z_len : mg "len" = none
  z_list : mg "list" = none
  z_max : mg "max" = none
  z_min : mg "min" = none
  z_range : mg "range" = none
  z_str : mg "str" = none
  z_tuple : mg "tuple" = none
  cl_Measure : Cls K (He.ga K "Measure")
  na_Measure_top : NoAttr K (He.ga K "Measure") "top"
  na_Measure_bottom : NoAttr K (He.ga K "Measure") "bottom"
  me_Measure_eq : Meth K (He.ga K "Measure") "__eq__" (He.ma K (He.ga K "Measure") "__eq__")
  me_Measure_str : Meth K (He.ga K "Measure") "__str__" (He.ma K (He.ga K "Measure") "__str__")
  me_Measure_plus : Meth K (He.ga K "Measure") "plus" (He.ma K (He.ga K "Measure") "plus")
  me_Measure_times : Meth K (He.ga K "Measure") "times" (He.ma K (He.ga K "Measure") "times")
  me_Measure_is_below : Meth K (He.ga K "Measure") "is_below" (He.ma K (He.ga K "Measure") "is_below")
  mk_Measure : Mk K (He.ga K "Measure") (He.ma K (He.ga K "Measure") "__init__")
  cl_Ladder : Cls K (He.ga K "Ladder")
  na_Ladder_marks : NoAttr K (He.ga K "Ladder") "marks"
  na_Ladder_rule : NoAttr K (He.ga K "Ladder") "rule"
  na_Ladder_least : NoAttr K (He.ga K "Ladder") "least"
  na_Ladder_most : NoAttr K (He.ga K "Ladder") "most"
  me_Ladder_eq : Meth K (He.ga K "Ladder") "__eq__" (He.ma K (He.ga K "Ladder") "__eq__")
  mk_Ladder : Mk K (He.ga K "Ladder") (He.ma K (He.ga K "Ladder") "__init__")
  cl_Grid : Cls K (He.ga K "Grid")
  na_Grid_lengths : NoAttr K (He.ga K "Grid") "lengths"
  na_Grid_breadths : NoAttr K (He.ga K "Grid") "breadths"
  na_Grid_grade : NoAttr K (He.ga K "Grid") "grade"
  me_Grid_long_mark : Meth K (He.ga K "Grid") "long_mark" (He.ma K (He.ga K "Grid") "long_mark")
  me_Grid_broad_mark : Meth K (He.ga K "Grid") "broad_mark" (He.ma K (He.ga K "Grid") "broad_mark")
  me_Grid_graded : Meth K (He.ga K "Grid") "graded" (He.ma K (He.ga K "Grid") "graded")
  mk_Grid : Mk K (He.ga K "Grid") (He.ma K (He.ga K "Grid") "__init__")
  ii_Measure : IsC K (He.ga K "Measure")
  ii_Ladder : IsC K (He.ga K "Ladder")
  ii_Grid : IsC K (He.ga K "Grid")
  ec_Measure : EqC K (He.ga K "Measure")
  ec_Ladder : EqC K (He.ga K "Ladder")
  xc_NoLadder : ExcC K (He.ga K "NoLadder")
  xf_NoLadder : ExcF K (He.ga K "NoLadder") [.type "ValueError", .type "Exception", .type "BaseException", .type "object"] "ValueError.__new__"
  xm_NoLadder_LadderError : PySem.W.exmOne K (.ref (He.ga K "NoLadder")) (.ref (He.ga K "LadderError")) = some true
  tp_RULES : ∀ H, SqT K H (He.ga K "RULES") ((["up", "down", "near"] : List Str).map V.str)
  k_Measure_Measure : PySem.W.kitOne K (.ref (He.ga K "Measure")) (.ref (He.ga K "Measure")) = some true
  k_Ladder_Ladder : PySem.W.kitOne K (.ref (He.ga K "Ladder")) (.ref (He.ga K "Ladder")) = some true
  k_Measure_Ladder : PySem.W.kitOne K (.ref (He.ga K "Measure")) (.ref (He.ga K "Ladder")) = some false
  k_Grid_Ladder : PySem.W.kitOne K (.ref (He.ga K "Grid")) (.ref (He.ga K "Ladder")) = some false
  k_Ladder_Measure : PySem.W.kitOne K (.ref (He.ga K "Ladder")) (.ref (He.ga K "Measure")) = some false
  k_Grid_Measure : PySem.W.kitOne K (.ref (He.ga K "Grid")) (.ref (He.ga K "Measure")) = some false
  k_NoneType_Measure : PySem.W.kitOne K (.type "NoneType") (.ref (He.ga K "Measure")) = some false
  k_NoneType_Ladder : PySem.W.kitOne K (.type "NoneType") (.ref (He.ga K "Ladder")) = some false
  k_bool_Measure : PySem.W.kitOne K (.type "bool") (.ref (He.ga K "Measure")) = some false
  k_bool_Ladder : PySem.W.kitOne K (.type "bool") (.ref (He.ga K "Ladder")) = some false
  k_int_Measure : PySem.W.kitOne K (.type "int") (.ref (He.ga K "Measure")) = some false
  k_int_Ladder : PySem.W.kitOne K (.type "int") (.ref (He.ga K "Ladder")) = some false
  k_str_Measure : PySem.W.kitOne K (.type "str") (.ref (He.ga K "Measure")) = some false
  k_str_Ladder : PySem.W.kitOne K (.type "str") (.ref (He.ga K "Ladder")) = some false
  k_list_Measure : PySem.W.kitOne K (.type "list") (.ref (He.ga K "Measure")) = some false
  k_list_Ladder : PySem.W.kitOne K (.type "list") (.ref (He.ga K "Ladder")) = some false
  k_tuple_Measure : PySem.W.kitOne K (.type "tuple") (.ref (He.ga K "Measure")) = some false
  k_tuple_Ladder : PySem.W.kitOne K (.type "tuple") (.ref (He.ga K "Ladder")) = some false
  k_dict_Measure : PySem.W.kitOne K (.type "dict") (.ref (He.ga K "Measure")) = some false
  k_dict_Ladder : PySem.W.kitOne K (.type "dict") (.ref (He.ga K "Ladder")) = some false
  k_NoLadder_NoLine : PySem.W.kitOne K (.ref (He.ga K "NoLadder")) (.ref (He.ga K "NoLine")) = some false
  k_NoLadder_NoMeasure : PySem.W.kitOne K (.ref (He.ga K "NoLadder")) (.ref (He.ga K "NoMeasure")) = some false
  k_NoLadder_NoStretch : PySem.W.kitOne K (.ref (He.ga K "NoLadder")) (.ref (He.ga K "NoStretch")) = some false
  k_NoLadder_NoText : PySem.W.kitOne K (.ref (He.ga K "NoLadder")) (.ref (He.ga K "NoText")) = some false
  k_NoLadder_Slip : PySem.W.kitOne K (.ref (He.ga K "NoLadder")) (.ref (He.ga K "Slip")) = some false
  k_NoLadder_NoLadder : PySem.W.kitOne K (.ref (He.ga K "NoLadder")) (.ref (He.ga K "NoLadder")) = some true
  k_NoLadder_ValueError : PySem.W.kitOne K (.ref (He.ga K "NoLadder")) (.type "ValueError") = some true
  f_is_whole : FunD K "is_whole" "is_whole" (defArgs s_is_whole) (defBody s_is_whole) (defScope s_is_whole) [] [] (He.fAd K ("is_whole", none)) φ.is_whole
  f_common_part : FunD K "common_part" "common_part" (defArgs s_common_part) (defBody s_common_part) (defScope s_common_part) [] [] (He.fAd K ("common_part", none)) φ.common_part
  f_written : FunD K "written" "written" (defArgs s_written) (defBody s_written) (defScope s_written) [] [] (He.fAd K ("written", none)) φ.written
  f_Measure_init : FunD K "__init__" "Measure.__init__" (defArgs s_Measure_init) (defBody s_Measure_init) (defScope s_Measure_init) [V.int 1] [] (He.fAd K ("Measure", some "__init__")) φ.Measure_init
  f_Measure_eq : FunD K "__eq__" "Measure.__eq__" (defArgs s_Measure_eq) (defBody s_Measure_eq) (defScope s_Measure_eq) [] [] (He.fAd K ("Measure", some "__eq__")) φ.Measure_eq
  f_Measure_str : FunD K "__str__" "Measure.__str__" (defArgs s_Measure_str) (defBody s_Measure_str) (defScope s_Measure_str) [] [] (He.fAd K ("Measure", some "__str__")) φ.Measure_str
  f_Measure_plus : FunD K "plus" "Measure.plus" (defArgs s_Measure_plus) (defBody s_Measure_plus) (defScope s_Measure_plus) [] [] (He.fAd K ("Measure", some "plus")) φ.Measure_plus
  f_Measure_times : FunD K "times" "Measure.times" (defArgs s_Measure_times) (defBody s_Measure_times) (defScope s_Measure_times) [] [] (He.fAd K ("Measure", some "times")) φ.Measure_times
  f_Measure_is_below : FunD K "is_below" "Measure.is_below" (defArgs s_Measure_is_below) (defBody s_Measure_is_below) (defScope s_Measure_is_below) [V.bl false] [] (He.fAd K ("Measure", some "is_below")) φ.Measure_is_below
  f_is_measure_or_none : FunD K "is_measure_or_none" "is_measure_or_none" (defArgs s_is_measure_or_none) (defBody s_is_measure_or_none) (defScope s_is_measure_or_none) [] [] (He.fAd K ("is_measure_or_none", none)) φ.is_measure_or_none
  f_measure_or : FunD K "measure_or" "measure_or" (defArgs s_measure_or) (defBody s_measure_or) (defScope s_measure_or) [] [] (He.fAd K ("measure_or", none)) φ.measure_or
  f_slip_of : FunD K "slip_of" "slip_of" (defArgs s_slip_of) (defBody s_slip_of) (defScope s_slip_of) [] [] (He.fAd K ("slip_of", none)) φ.slip_of
  f_are_marks : FunD K "are_marks" "are_marks" (defArgs s_are_marks) (defBody s_are_marks) (defScope s_are_marks) [] [] (He.fAd K ("are_marks", none)) φ.are_marks
  f_is_rule : FunD K "is_rule" "is_rule" (defArgs s_is_rule) (defBody s_is_rule) (defScope s_is_rule) [] [] (He.fAd K ("is_rule", none)) φ.is_rule
  f_is_span : FunD K "is_span" "is_span" (defArgs s_is_span) (defBody s_is_span) (defScope s_is_span) [] [] (He.fAd K ("is_span", none)) φ.is_span
  f_Ladder_init : FunD K "__init__" "Ladder.__init__" (defArgs s_Ladder_init) (defBody s_Ladder_init) (defScope s_Ladder_init) [V.str "up", V.non, V.non] [] (He.fAd K ("Ladder", some "__init__")) φ.Ladder_init
  f_Ladder_eq : FunD K "__eq__" "Ladder.__eq__" (defArgs s_Ladder_eq) (defBody s_Ladder_eq) (defScope s_Ladder_eq) [] [] (He.fAd K ("Ladder", some "__eq__")) φ.Ladder_eq
  f_Grid_init : FunD K "__init__" "Grid.__init__" (defArgs s_Grid_init) (defBody s_Grid_init) (defScope s_Grid_init) [V.non] [] (He.fAd K ("Grid", some "__init__")) φ.Grid_init
  f_Grid_long_mark : FunD K "long_mark" "Grid.long_mark" (defArgs s_Grid_long_mark) (defBody s_Grid_long_mark) (defScope s_Grid_long_mark) [] [] (He.fAd K ("Grid", some "long_mark")) φ.Grid_long_mark
  f_Grid_broad_mark : FunD K "broad_mark" "Grid.broad_mark" (defArgs s_Grid_broad_mark) (defBody s_Grid_broad_mark) (defScope s_Grid_broad_mark) [] [] (He.fAd K ("Grid", some "broad_mark")) φ.Grid_broad_mark
  f_Grid_graded : FunD K "graded" "Grid.graded" (defArgs s_Grid_graded) (defBody s_Grid_graded) (defScope s_Grid_graded) [] [] (He.fAd K ("Grid", some "graded")) φ.Grid_graded
  f_l_hand : FunD K "_law_hand" "_law_hand" (defArgs s_l_hand) (defBody s_l_hand) (defScope s_l_hand) [] [] (He.fAd K ("_law_hand", none)) φ.l_hand
  f_l_take : FunD K "_law_take" "_law_take" (defArgs s_l_take) (defBody s_l_take) (defScope s_l_take) [] [] (He.fAd K ("_law_take", none)) φ.l_take
  f_l_pick : FunD K "_law_pick" "_law_pick" (defArgs s_l_pick) (defBody s_l_pick) (defScope s_l_pick) [] [] (He.fAd K ("_law_pick", none)) φ.l_pick
  f_l_plain : FunD K "_law_plain" "_law_plain" (defArgs s_l_plain) (defBody s_l_plain) (defScope s_l_plain) [] [] (He.fAd K ("_law_plain", none)) φ.l_plain
  f_l_sum : FunD K "_law_sum" "_law_sum" (defArgs s_l_sum) (defBody s_l_sum) (defScope s_l_sum) [] [] (He.fAd K ("_law_sum", none)) φ.l_sum
  f_l_measures : FunD K "_law_measures" "_law_measures" (defArgs s_l_measures) (defBody s_l_measures) (defScope s_l_measures) [] [] (He.fAd K ("_law_measures", none)) φ.l_measures
  f_l_part : FunD K "_law_part" "_law_part" (defArgs s_l_part) (defBody s_l_part) (defScope s_l_part) [] [] (He.fAd K ("_law_part", none)) φ.l_part
  f_l_marks_of : FunD K "_law_marks_of" "_law_marks_of" (defArgs s_l_marks_of) (defBody s_l_marks_of) (defScope s_l_marks_of) [] [] (He.fAd K ("_law_marks_of", none)) φ.l_marks_of
  f_l_grades : FunD K "_law_grades" "_law_grades" (defArgs s_l_grades) (defBody s_l_grades) (defScope s_l_grades) [] [] (He.fAd K ("_law_grades", none)) φ.l_grades
  f_l_broad : FunD K "_law_broad" "_law_broad" (defArgs s_l_broad) (defBody s_l_broad) (defScope s_l_broad) [] [] (He.fAd K ("_law_broad", none)) φ.l_broad
  f_l_any_ladder : FunD K "_law_any_ladder" "_law_any_ladder" (defArgs s_l_any_ladder) (defBody s_l_any_ladder) (defScope s_l_any_ladder) [] [] (He.fAd K ("_law_any_ladder", none)) φ.l_any_ladder
  f_l_deep : FunD K "_law_deep" "_law_deep" (defArgs s_l_deep) (defBody s_l_deep) (defScope s_l_deep) [] [] (He.fAd K ("_law_deep", none)) φ.l_deep
  f_l_refused : FunD K "_law_refused" "_law_refused" (defArgs s_l_refused) (defBody s_l_refused) (defScope s_l_refused) [] [] (He.fAd K ("_law_refused", none)) φ.l_refused
  f_l_is_grid : FunD K "_law_is_grid" "_law_is_grid" (defArgs s_l_is_grid) (defBody s_l_is_grid) (defScope s_l_is_grid) [] [] (He.fAd K ("_law_is_grid", none)) φ.l_is_grid
  f_law : FunD K "law" "law" (defArgs s_law) (defBody s_law) (defScope s_law) [] [] (He.fAd K ("law", none)) φ.law
/-! ### the head -/
def h_is_whole : He.DefD := ⟨("is_whole", none), "is_whole", "is_whole", defArgs s_is_whole, defBody s_is_whole, defScope s_is_whole, [], []⟩
def h_common_part : He.DefD := ⟨("common_part", none), "common_part", "common_part", defArgs s_common_part, defBody s_common_part, defScope s_common_part, [], []⟩
def h_written : He.DefD := ⟨("written", none), "written", "written", defArgs s_written, defBody s_written, defScope s_written, [], []⟩
def h_Measure_init : He.DefD := ⟨("Measure", some "__init__"), "__init__", "Measure.__init__", defArgs s_Measure_init, defBody s_Measure_init, defScope s_Measure_init, [.int 1], []⟩
def h_Measure_eq : He.DefD := ⟨("Measure", some "__eq__"), "__eq__", "Measure.__eq__", defArgs s_Measure_eq, defBody s_Measure_eq, defScope s_Measure_eq, [], []⟩
def h_Measure_str : He.DefD := ⟨("Measure", some "__str__"), "__str__", "Measure.__str__", defArgs s_Measure_str, defBody s_Measure_str, defScope s_Measure_str, [], []⟩
def h_Measure_plus : He.DefD := ⟨("Measure", some "plus"), "plus", "Measure.plus", defArgs s_Measure_plus, defBody s_Measure_plus, defScope s_Measure_plus, [], []⟩
def h_Measure_times : He.DefD := ⟨("Measure", some "times"), "times", "Measure.times", defArgs s_Measure_times, defBody s_Measure_times, defScope s_Measure_times, [], []⟩
def h_Measure_is_below : He.DefD := ⟨("Measure", some "is_below"), "is_below", "Measure.is_below", defArgs s_Measure_is_below, defBody s_Measure_is_below, defScope s_Measure_is_below, [.bl false], []⟩
def h_is_measure_or_none : He.DefD := ⟨("is_measure_or_none", none), "is_measure_or_none", "is_measure_or_none", defArgs s_is_measure_or_none, defBody s_is_measure_or_none, defScope s_is_measure_or_none, [], []⟩
def h_measure_or : He.DefD := ⟨("measure_or", none), "measure_or", "measure_or", defArgs s_measure_or, defBody s_measure_or, defScope s_measure_or, [], []⟩
def h_slip_of : He.DefD := ⟨("slip_of", none), "slip_of", "slip_of", defArgs s_slip_of, defBody s_slip_of, defScope s_slip_of, [], []⟩
def h_are_marks : He.DefD := ⟨("are_marks", none), "are_marks", "are_marks", defArgs s_are_marks, defBody s_are_marks, defScope s_are_marks, [], []⟩
def h_is_rule : He.DefD := ⟨("is_rule", none), "is_rule", "is_rule", defArgs s_is_rule, defBody s_is_rule, defScope s_is_rule, [], []⟩
def h_is_span : He.DefD := ⟨("is_span", none), "is_span", "is_span", defArgs s_is_span, defBody s_is_span, defScope s_is_span, [], []⟩
def h_Ladder_init : He.DefD := ⟨("Ladder", some "__init__"), "__init__", "Ladder.__init__", defArgs s_Ladder_init, defBody s_Ladder_init, defScope s_Ladder_init, [.str "up", .non, .non], []⟩
def h_Ladder_eq : He.DefD := ⟨("Ladder", some "__eq__"), "__eq__", "Ladder.__eq__", defArgs s_Ladder_eq, defBody s_Ladder_eq, defScope s_Ladder_eq, [], []⟩
def h_Grid_init : He.DefD := ⟨("Grid", some "__init__"), "__init__", "Grid.__init__", defArgs s_Grid_init, defBody s_Grid_init, defScope s_Grid_init, [.non], []⟩
def h_Grid_long_mark : He.DefD := ⟨("Grid", some "long_mark"), "long_mark", "Grid.long_mark", defArgs s_Grid_long_mark, defBody s_Grid_long_mark, defScope s_Grid_long_mark, [], []⟩
def h_Grid_broad_mark : He.DefD := ⟨("Grid", some "broad_mark"), "broad_mark", "Grid.broad_mark", defArgs s_Grid_broad_mark, defBody s_Grid_broad_mark, defScope s_Grid_broad_mark, [], []⟩
def h_Grid_graded : He.DefD := ⟨("Grid", some "graded"), "graded", "Grid.graded", defArgs s_Grid_graded, defBody s_Grid_graded, defScope s_Grid_graded, [], []⟩
def h_l_hand : He.DefD := ⟨("_law_hand", none), "_law_hand", "_law_hand", defArgs s_l_hand, defBody s_l_hand, defScope s_l_hand, [], []⟩
def h_l_take : He.DefD := ⟨("_law_take", none), "_law_take", "_law_take", defArgs s_l_take, defBody s_l_take, defScope s_l_take, [], []⟩
def h_l_pick : He.DefD := ⟨("_law_pick", none), "_law_pick", "_law_pick", defArgs s_l_pick, defBody s_l_pick, defScope s_l_pick, [], []⟩
def h_l_plain : He.DefD := ⟨("_law_plain", none), "_law_plain", "_law_plain", defArgs s_l_plain, defBody s_l_plain, defScope s_l_plain, [], []⟩
def h_l_sum : He.DefD := ⟨("_law_sum", none), "_law_sum", "_law_sum", defArgs s_l_sum, defBody s_l_sum, defScope s_l_sum, [], []⟩
def h_l_measures : He.DefD := ⟨("_law_measures", none), "_law_measures", "_law_measures", defArgs s_l_measures, defBody s_l_measures, defScope s_l_measures, [], []⟩
def h_l_part : He.DefD := ⟨("_law_part", none), "_law_part", "_law_part", defArgs s_l_part, defBody s_l_part, defScope s_l_part, [], []⟩
def h_l_marks_of : He.DefD := ⟨("_law_marks_of", none), "_law_marks_of", "_law_marks_of", defArgs s_l_marks_of, defBody s_l_marks_of, defScope s_l_marks_of, [], []⟩
def h_l_grades : He.DefD := ⟨("_law_grades", none), "_law_grades", "_law_grades", defArgs s_l_grades, defBody s_l_grades, defScope s_l_grades, [], []⟩
def h_l_broad : He.DefD := ⟨("_law_broad", none), "_law_broad", "_law_broad", defArgs s_l_broad, defBody s_l_broad, defScope s_l_broad, [], []⟩
def h_l_any_ladder : He.DefD := ⟨("_law_any_ladder", none), "_law_any_ladder", "_law_any_ladder", defArgs s_l_any_ladder, defBody s_l_any_ladder, defScope s_l_any_ladder, [], []⟩
def h_l_deep : He.DefD := ⟨("_law_deep", none), "_law_deep", "_law_deep", defArgs s_l_deep, defBody s_l_deep, defScope s_l_deep, [], []⟩
def h_l_refused : He.DefD := ⟨("_law_refused", none), "_law_refused", "_law_refused", defArgs s_l_refused, defBody s_l_refused, defScope s_l_refused, [], []⟩
def h_l_is_grid : He.DefD := ⟨("_law_is_grid", none), "_law_is_grid", "_law_is_grid", defArgs s_l_is_grid, defBody s_l_is_grid, defScope s_l_is_grid, [], []⟩
def h_law : He.DefD := ⟨("law", none), "law", "law", defArgs s_law, defBody s_law, defScope s_law, [], []⟩
def fn : List He.DefD := [h_is_whole, h_common_part, h_written, h_Measure_init, h_Measure_eq, h_Measure_str, h_Measure_plus, h_Measure_times, h_Measure_is_below, h_is_measure_or_none, h_measure_or, h_slip_of, h_are_marks, h_is_rule, h_is_span, h_Ladder_init, h_Ladder_eq, h_Grid_init, h_Grid_long_mark, h_Grid_broad_mark, h_Grid_graded, h_l_hand, h_l_take, h_l_pick, h_l_plain, h_l_sum, h_l_measures, h_l_part, h_l_marks_of, h_l_grades, h_l_broad, h_l_any_ladder, h_l_deep, h_l_refused, h_l_is_grid, h_law]
def fa : List He.Fa := [.glo "is_whole", .glo "common_part", .glo "written", .glo "is_measure_or_none", .glo "measure_or", .glo "slip_of", .glo "are_marks", .glo "is_rule", .glo "is_span", .glo "_law_hand", .glo "_law_take", .glo "_law_pick", .glo "_law_plain", .glo "_law_sum", .glo "_law_measures", .glo "_law_part", .glo "_law_marks_of", .glo "_law_grades", .glo "_law_broad", .glo "_law_any_ladder", .glo "_law_deep", .glo "_law_refused", .glo "_law_is_grid", .glo "law", .glo "Measure", .glo "Ladder", .glo "Grid", .glo "RULES", .glo "LadderError", .glo "NoLadder", .glo "NoLine", .glo "NoMeasure", .glo "NoStretch", .glo "NoText", .glo "Slip", .int "MOST_MARKS" 24, .free "ValueError", .free "abs", .free "all", .free "bool", .free "divmod", .free "int", .free "isinstance", .free "len", .free "list", .free "max", .free "min", .free "range", .free "str", .free "tuple", .cls "Measure", .noat "Measure" "top", .noat "Measure" "bottom", .meth "Measure" "__eq__", .meth "Measure" "__str__", .meth "Measure" "plus", .meth "Measure" "times", .meth "Measure" "is_below", .mkr "Measure", .cls "Ladder", .noat "Ladder" "marks", .noat "Ladder" "rule", .noat "Ladder" "least", .noat "Ladder" "most", .meth "Ladder" "__eq__", .mkr "Ladder", .cls "Grid", .noat "Grid" "lengths", .noat "Grid" "breadths", .noat "Grid" "grade", .meth "Grid" "long_mark", .meth "Grid" "broad_mark", .meth "Grid" "graded", .mkr "Grid"]
abbrev R : PySem.W.OpenRow := PySem.W.OpenLaw.row PySem.Challenge.rw_sizeladders_k47_grids_made_or_refused
def ex : List (PySem.W.Frag → Bool) := [isCB "Measure", isCB "Ladder", isCB "Grid", eqCB "Measure", eqCB "Ladder", excCB "NoLadder", excFB "NoLadder" [.type "ValueError", .type "Exception", .type "BaseException", .type "object"] "ValueError.__new__", exmB "NoLadder" "LadderError" true, tupB "RULES" ["up", "down", "near"], kitF (.inl "Measure") (.inl "Measure") true, kitF (.inl "Ladder") (.inl "Ladder") true, kitF (.inl "Measure") (.inl "Ladder") false, kitF (.inl "Grid") (.inl "Ladder") false, kitF (.inl "Ladder") (.inl "Measure") false, kitF (.inl "Grid") (.inl "Measure") false, kitF (.inr "NoneType") (.inl "Measure") false, kitF (.inr "NoneType") (.inl "Ladder") false, kitF (.inr "bool") (.inl "Measure") false, kitF (.inr "bool") (.inl "Ladder") false, kitF (.inr "int") (.inl "Measure") false, kitF (.inr "int") (.inl "Ladder") false, kitF (.inr "str") (.inl "Measure") false, kitF (.inr "str") (.inl "Ladder") false, kitF (.inr "list") (.inl "Measure") false, kitF (.inr "list") (.inl "Ladder") false, kitF (.inr "tuple") (.inl "Measure") false, kitF (.inr "tuple") (.inl "Ladder") false, kitF (.inr "dict") (.inl "Measure") false, kitF (.inr "dict") (.inl "Ladder") false, kitF (.inl "NoLadder") (.inl "NoLine") false, kitF (.inl "NoLadder") (.inl "NoMeasure") false, kitF (.inl "NoLadder") (.inl "NoStretch") false, kitF (.inl "NoLadder") (.inl "NoText") false, kitF (.inl "NoLadder") (.inl "Slip") false, kitF (.inl "NoLadder") (.inl "NoLadder") true, kitF (.inl "NoLadder") (.inr "ValueError") true]
abbrev hk : PySem.W.Hook := hookM 5 fa fn ex
def ob (s : PySem.W.SharedT) : He.AlD × Bool := obsM 5 fa fn ex (HandSHeadRun.getT s)
theorem ob_eq (s : PySem.W.SharedT) : ob s = hk.obs s.abs := obsM_eq (HandSHeadRun.getT_eq s)
theorem run (w : World) : HandSHeadRun.RunEq R (PySem.W.view R.prog [58]) hk ob 20000 [("_wall" : PySem.Str), ("LadderError" : PySem.Str), ("NoMeasure" : PySem.Str), ("NoStretch" : PySem.Str), ("NoLadder" : PySem.Str), ("NoLine" : PySem.Str), ("Slip" : PySem.Str), ("NoText" : PySem.Str), ("LandError" : PySem.Str), ("NoSize" : PySem.Str), ("NoBottom" : PySem.Str), ("is_whole" : PySem.Str), ("common_part" : PySem.Str), ("written" : PySem.Str), ("Measure" : PySem.Str), ("is_measure_or_none" : PySem.Str), ("measure_or" : PySem.Str), ("slip_of" : PySem.Str), ("is_empty" : PySem.Str), ("end_text" : PySem.Str), ("cut_low" : PySem.Str), ("cut_high" : PySem.Str), ("Stretch" : PySem.Str), ("MOST_MARKS" : PySem.Str), ("RULES" : PySem.Str), ("are_marks" : PySem.Str), ("is_rule" : PySem.Str), ("is_span" : PySem.Str), ("midsts_of" : PySem.Str), ("size_by_rule" : PySem.Str), ("end_at" : PySem.Str), ("stretch_by_rule" : PySem.Str), ("has_size" : PySem.Str), ("bound_text" : PySem.Str), ("Ladder" : PySem.Str), ("Grid" : PySem.Str), ("_law_hand" : PySem.Str), ("_law_take" : PySem.Str), ("_law_pick" : PySem.Str), ("_law_plain" : PySem.Str), ("_law_sum" : PySem.Str), ("_law_measures" : PySem.Str), ("_law_part" : PySem.Str), ("_law_marks_of" : PySem.Str), ("_law_grades" : PySem.Str), ("_law_broad" : PySem.Str), ("_law_any_ladder" : PySem.Str), ("_law_deep" : PySem.Str), ("_law_refused" : PySem.Str), ("_law_is_grid" : PySem.Str)] w := by
  intro os
  kernel_rfl

theorem facts {K : PySem.W.Frag} {h : Heap} {mg : Str → Option Value} (X : K.In h) (G : h.Ns mainGlobals mg) (c : He.SaysD fa fn K) (cx : (ex.all fun f => f K) = true) : ∃ φ : Fds, Txt K mg φ := by
  obtain ⟨d0, F0⟩ := c.def_ 0 (d := h_is_whole) rfl
  obtain ⟨d1, F1⟩ := c.def_ 1 (d := h_common_part) rfl
  obtain ⟨d2, F2⟩ := c.def_ 2 (d := h_written) rfl
  obtain ⟨d3, F3⟩ := c.def_ 3 (d := h_Measure_init) rfl
  obtain ⟨d4, F4⟩ := c.def_ 4 (d := h_Measure_eq) rfl
  obtain ⟨d5, F5⟩ := c.def_ 5 (d := h_Measure_str) rfl
  obtain ⟨d6, F6⟩ := c.def_ 6 (d := h_Measure_plus) rfl
  obtain ⟨d7, F7⟩ := c.def_ 7 (d := h_Measure_times) rfl
  obtain ⟨d8, F8⟩ := c.def_ 8 (d := h_Measure_is_below) rfl
  obtain ⟨d9, F9⟩ := c.def_ 9 (d := h_is_measure_or_none) rfl
  obtain ⟨d10, F10⟩ := c.def_ 10 (d := h_measure_or) rfl
  obtain ⟨d11, F11⟩ := c.def_ 11 (d := h_slip_of) rfl
  obtain ⟨d12, F12⟩ := c.def_ 12 (d := h_are_marks) rfl
  obtain ⟨d13, F13⟩ := c.def_ 13 (d := h_is_rule) rfl
  obtain ⟨d14, F14⟩ := c.def_ 14 (d := h_is_span) rfl
  obtain ⟨d15, F15⟩ := c.def_ 15 (d := h_Ladder_init) rfl
  obtain ⟨d16, F16⟩ := c.def_ 16 (d := h_Ladder_eq) rfl
  obtain ⟨d17, F17⟩ := c.def_ 17 (d := h_Grid_init) rfl
  obtain ⟨d18, F18⟩ := c.def_ 18 (d := h_Grid_long_mark) rfl
  obtain ⟨d19, F19⟩ := c.def_ 19 (d := h_Grid_broad_mark) rfl
  obtain ⟨d20, F20⟩ := c.def_ 20 (d := h_Grid_graded) rfl
  obtain ⟨d21, F21⟩ := c.def_ 21 (d := h_l_hand) rfl
  obtain ⟨d22, F22⟩ := c.def_ 22 (d := h_l_take) rfl
  obtain ⟨d23, F23⟩ := c.def_ 23 (d := h_l_pick) rfl
  obtain ⟨d24, F24⟩ := c.def_ 24 (d := h_l_plain) rfl
  obtain ⟨d25, F25⟩ := c.def_ 25 (d := h_l_sum) rfl
  obtain ⟨d26, F26⟩ := c.def_ 26 (d := h_l_measures) rfl
  obtain ⟨d27, F27⟩ := c.def_ 27 (d := h_l_part) rfl
  obtain ⟨d28, F28⟩ := c.def_ 28 (d := h_l_marks_of) rfl
  obtain ⟨d29, F29⟩ := c.def_ 29 (d := h_l_grades) rfl
  obtain ⟨d30, F30⟩ := c.def_ 30 (d := h_l_broad) rfl
  obtain ⟨d31, F31⟩ := c.def_ 31 (d := h_l_any_ladder) rfl
  obtain ⟨d32, F32⟩ := c.def_ 32 (d := h_l_deep) rfl
  obtain ⟨d33, F33⟩ := c.def_ 33 (d := h_l_refused) rfl
  obtain ⟨d34, F34⟩ := c.def_ 34 (d := h_l_is_grid) rfl
  obtain ⟨d35, F35⟩ := c.def_ 35 (d := h_law) rfl
  refine ⟨⟨d0, d1, d2, d3, d4, d5, d6, d7, d8, d9, d10, d11, d12, d13, d14, d15, d16, d17, d18, d19, d20, d21, d22, d23, d24, d25, d26, d27, d28, d29, d30, d31, d32, d33, d34, d35⟩, ?_⟩
  exact {
    g_is_whole := He.glo_ok X G (c.fact 0 (f := .glo "is_whole") rfl),
    g_common_part := He.glo_ok X G (c.fact 1 (f := .glo "common_part") rfl),
    g_written := He.glo_ok X G (c.fact 2 (f := .glo "written") rfl),
    g_is_measure_or_none := He.glo_ok X G (c.fact 3 (f := .glo "is_measure_or_none") rfl),
    g_measure_or := He.glo_ok X G (c.fact 4 (f := .glo "measure_or") rfl),
    g_slip_of := He.glo_ok X G (c.fact 5 (f := .glo "slip_of") rfl),
    g_are_marks := He.glo_ok X G (c.fact 6 (f := .glo "are_marks") rfl),
    g_is_rule := He.glo_ok X G (c.fact 7 (f := .glo "is_rule") rfl),
    g_is_span := He.glo_ok X G (c.fact 8 (f := .glo "is_span") rfl),
    g_l_hand := He.glo_ok X G (c.fact 9 (f := .glo "_law_hand") rfl),
    g_l_take := He.glo_ok X G (c.fact 10 (f := .glo "_law_take") rfl),
    g_l_pick := He.glo_ok X G (c.fact 11 (f := .glo "_law_pick") rfl),
    g_l_plain := He.glo_ok X G (c.fact 12 (f := .glo "_law_plain") rfl),
    g_l_sum := He.glo_ok X G (c.fact 13 (f := .glo "_law_sum") rfl),
    g_l_measures := He.glo_ok X G (c.fact 14 (f := .glo "_law_measures") rfl),
    g_l_part := He.glo_ok X G (c.fact 15 (f := .glo "_law_part") rfl),
    g_l_marks_of := He.glo_ok X G (c.fact 16 (f := .glo "_law_marks_of") rfl),
    g_l_grades := He.glo_ok X G (c.fact 17 (f := .glo "_law_grades") rfl),
    g_l_broad := He.glo_ok X G (c.fact 18 (f := .glo "_law_broad") rfl),
    g_l_any_ladder := He.glo_ok X G (c.fact 19 (f := .glo "_law_any_ladder") rfl),
    g_l_deep := He.glo_ok X G (c.fact 20 (f := .glo "_law_deep") rfl),
    g_l_refused := He.glo_ok X G (c.fact 21 (f := .glo "_law_refused") rfl),
    g_l_is_grid := He.glo_ok X G (c.fact 22 (f := .glo "_law_is_grid") rfl),
    g_law := He.glo_ok X G (c.fact 23 (f := .glo "law") rfl),
    g_Measure := He.glo_ok X G (c.fact 24 (f := .glo "Measure") rfl),
    g_Ladder := He.glo_ok X G (c.fact 25 (f := .glo "Ladder") rfl),
    g_Grid := He.glo_ok X G (c.fact 26 (f := .glo "Grid") rfl),
    g_RULES := He.glo_ok X G (c.fact 27 (f := .glo "RULES") rfl),
    g_LadderError := He.glo_ok X G (c.fact 28 (f := .glo "LadderError") rfl),
    g_NoLadder := He.glo_ok X G (c.fact 29 (f := .glo "NoLadder") rfl),
    g_NoLine := He.glo_ok X G (c.fact 30 (f := .glo "NoLine") rfl),
    g_NoMeasure := He.glo_ok X G (c.fact 31 (f := .glo "NoMeasure") rfl),
    g_NoStretch := He.glo_ok X G (c.fact 32 (f := .glo "NoStretch") rfl),
    g_NoText := He.glo_ok X G (c.fact 33 (f := .glo "NoText") rfl),
    g_Slip := He.glo_ok X G (c.fact 34 (f := .glo "Slip") rfl),
    v_MOST_MARKS := He.int_ok X G (c.fact 35 (f := .int "MOST_MARKS" 24) rfl),
    z_ValueError := He.free_ok X G (c.fact 36 (f := .free "ValueError") rfl),
    z_abs := He.free_ok X G (c.fact 37 (f := .free "abs") rfl),
    z_all := He.free_ok X G (c.fact 38 (f := .free "all") rfl),
    z_bool := He.free_ok X G (c.fact 39 (f := .free "bool") rfl),
    z_divmod := He.free_ok X G (c.fact 40 (f := .free "divmod") rfl),
    z_int := He.free_ok X G (c.fact 41 (f := .free "int") rfl),
    z_isinstance := He.free_ok X G (c.fact 42 (f := .free "isinstance") rfl),
    z_len := He.free_ok X G (c.fact 43 (f := .free "len") rfl),
    z_list := He.free_ok X G (c.fact 44 (f := .free "list") rfl),
    z_max := He.free_ok X G (c.fact 45 (f := .free "max") rfl),
    z_min := He.free_ok X G (c.fact 46 (f := .free "min") rfl),
    z_range := He.free_ok X G (c.fact 47 (f := .free "range") rfl),
    z_str := He.free_ok X G (c.fact 48 (f := .free "str") rfl),
    z_tuple := He.free_ok X G (c.fact 49 (f := .free "tuple") rfl),
    cl_Measure := He.cls_ok (c.fact 50 (f := .cls "Measure") rfl),
    na_Measure_top := He.noat_ok (c.fact 51 (f := .noat "Measure" "top") rfl),
    na_Measure_bottom := He.noat_ok (c.fact 52 (f := .noat "Measure" "bottom") rfl),
    me_Measure_eq := He.meth_ok (c.fact 53 (f := .meth "Measure" "__eq__") rfl),
    me_Measure_str := He.meth_ok (c.fact 54 (f := .meth "Measure" "__str__") rfl),
    me_Measure_plus := He.meth_ok (c.fact 55 (f := .meth "Measure" "plus") rfl),
    me_Measure_times := He.meth_ok (c.fact 56 (f := .meth "Measure" "times") rfl),
    me_Measure_is_below := He.meth_ok (c.fact 57 (f := .meth "Measure" "is_below") rfl),
    mk_Measure := He.mkr_ok (c.fact 58 (f := .mkr "Measure") rfl),
    cl_Ladder := He.cls_ok (c.fact 59 (f := .cls "Ladder") rfl),
    na_Ladder_marks := He.noat_ok (c.fact 60 (f := .noat "Ladder" "marks") rfl),
    na_Ladder_rule := He.noat_ok (c.fact 61 (f := .noat "Ladder" "rule") rfl),
    na_Ladder_least := He.noat_ok (c.fact 62 (f := .noat "Ladder" "least") rfl),
    na_Ladder_most := He.noat_ok (c.fact 63 (f := .noat "Ladder" "most") rfl),
    me_Ladder_eq := He.meth_ok (c.fact 64 (f := .meth "Ladder" "__eq__") rfl),
    mk_Ladder := He.mkr_ok (c.fact 65 (f := .mkr "Ladder") rfl),
    cl_Grid := He.cls_ok (c.fact 66 (f := .cls "Grid") rfl),
    na_Grid_lengths := He.noat_ok (c.fact 67 (f := .noat "Grid" "lengths") rfl),
    na_Grid_breadths := He.noat_ok (c.fact 68 (f := .noat "Grid" "breadths") rfl),
    na_Grid_grade := He.noat_ok (c.fact 69 (f := .noat "Grid" "grade") rfl),
    me_Grid_long_mark := He.meth_ok (c.fact 70 (f := .meth "Grid" "long_mark") rfl),
    me_Grid_broad_mark := He.meth_ok (c.fact 71 (f := .meth "Grid" "broad_mark") rfl),
    me_Grid_graded := He.meth_ok (c.fact 72 (f := .meth "Grid" "graded") rfl),
    mk_Grid := He.mkr_ok (c.fact 73 (f := .mkr "Grid") rfl),
    ii_Measure := isC_ok (ex_at cx 0 (f := isCB "Measure") rfl),
    ii_Ladder := isC_ok (ex_at cx 1 (f := isCB "Ladder") rfl),
    ii_Grid := isC_ok (ex_at cx 2 (f := isCB "Grid") rfl),
    ec_Measure := eqC_ok (ex_at cx 3 (f := eqCB "Measure") rfl),
    ec_Ladder := eqC_ok (ex_at cx 4 (f := eqCB "Ladder") rfl),
    xc_NoLadder := excC_ok (ex_at cx 5 (f := excCB "NoLadder") rfl),
    xf_NoLadder := excF_ok (ex_at cx 6 (f := excFB "NoLadder" [.type "ValueError", .type "Exception", .type "BaseException", .type "object"] "ValueError.__new__") rfl),
    xm_NoLadder_LadderError := My.exm_ok (ex_at cx 7 (f := exmB "NoLadder" "LadderError" true) rfl),
    tp_RULES := tup_ok (ex_at cx 8 (f := tupB "RULES" ["up", "down", "near"]) rfl),
    k_Measure_Measure := kitF_ok (ex_at cx 9 (f := kitF (.inl "Measure") (.inl "Measure") true) rfl),
    k_Ladder_Ladder := kitF_ok (ex_at cx 10 (f := kitF (.inl "Ladder") (.inl "Ladder") true) rfl),
    k_Measure_Ladder := kitF_ok (ex_at cx 11 (f := kitF (.inl "Measure") (.inl "Ladder") false) rfl),
    k_Grid_Ladder := kitF_ok (ex_at cx 12 (f := kitF (.inl "Grid") (.inl "Ladder") false) rfl),
    k_Ladder_Measure := kitF_ok (ex_at cx 13 (f := kitF (.inl "Ladder") (.inl "Measure") false) rfl),
    k_Grid_Measure := kitF_ok (ex_at cx 14 (f := kitF (.inl "Grid") (.inl "Measure") false) rfl),
    k_NoneType_Measure := kitF_ok (ex_at cx 15 (f := kitF (.inr "NoneType") (.inl "Measure") false) rfl),
    k_NoneType_Ladder := kitF_ok (ex_at cx 16 (f := kitF (.inr "NoneType") (.inl "Ladder") false) rfl),
    k_bool_Measure := kitF_ok (ex_at cx 17 (f := kitF (.inr "bool") (.inl "Measure") false) rfl),
    k_bool_Ladder := kitF_ok (ex_at cx 18 (f := kitF (.inr "bool") (.inl "Ladder") false) rfl),
    k_int_Measure := kitF_ok (ex_at cx 19 (f := kitF (.inr "int") (.inl "Measure") false) rfl),
    k_int_Ladder := kitF_ok (ex_at cx 20 (f := kitF (.inr "int") (.inl "Ladder") false) rfl),
    k_str_Measure := kitF_ok (ex_at cx 21 (f := kitF (.inr "str") (.inl "Measure") false) rfl),
    k_str_Ladder := kitF_ok (ex_at cx 22 (f := kitF (.inr "str") (.inl "Ladder") false) rfl),
    k_list_Measure := kitF_ok (ex_at cx 23 (f := kitF (.inr "list") (.inl "Measure") false) rfl),
    k_list_Ladder := kitF_ok (ex_at cx 24 (f := kitF (.inr "list") (.inl "Ladder") false) rfl),
    k_tuple_Measure := kitF_ok (ex_at cx 25 (f := kitF (.inr "tuple") (.inl "Measure") false) rfl),
    k_tuple_Ladder := kitF_ok (ex_at cx 26 (f := kitF (.inr "tuple") (.inl "Ladder") false) rfl),
    k_dict_Measure := kitF_ok (ex_at cx 27 (f := kitF (.inr "dict") (.inl "Measure") false) rfl),
    k_dict_Ladder := kitF_ok (ex_at cx 28 (f := kitF (.inr "dict") (.inl "Ladder") false) rfl),
    k_NoLadder_NoLine := kitF_ok (ex_at cx 29 (f := kitF (.inl "NoLadder") (.inl "NoLine") false) rfl),
    k_NoLadder_NoMeasure := kitF_ok (ex_at cx 30 (f := kitF (.inl "NoLadder") (.inl "NoMeasure") false) rfl),
    k_NoLadder_NoStretch := kitF_ok (ex_at cx 31 (f := kitF (.inl "NoLadder") (.inl "NoStretch") false) rfl),
    k_NoLadder_NoText := kitF_ok (ex_at cx 32 (f := kitF (.inl "NoLadder") (.inl "NoText") false) rfl),
    k_NoLadder_Slip := kitF_ok (ex_at cx 33 (f := kitF (.inl "NoLadder") (.inl "Slip") false) rfl),
    k_NoLadder_NoLadder := kitF_ok (ex_at cx 34 (f := kitF (.inl "NoLadder") (.inl "NoLadder") true) rfl),
    k_NoLadder_ValueError := kitF_ok (ex_at cx 35 (f := kitF (.inl "NoLadder") (.inr "ValueError") true) rfl),
    f_is_whole := F0,
    f_common_part := F1,
    f_written := F2,
    f_Measure_init := F3,
    f_Measure_eq := F4,
    f_Measure_str := F5,
    f_Measure_plus := F6,
    f_Measure_times := F7,
    f_Measure_is_below := F8,
    f_is_measure_or_none := F9,
    f_measure_or := F10,
    f_slip_of := F11,
    f_are_marks := F12,
    f_is_rule := F13,
    f_is_span := F14,
    f_Ladder_init := F15,
    f_Ladder_eq := F16,
    f_Grid_init := F17,
    f_Grid_long_mark := F18,
    f_Grid_broad_mark := F19,
    f_Grid_graded := F20,
    f_l_hand := F21,
    f_l_take := F22,
    f_l_pick := F23,
    f_l_plain := F24,
    f_l_sum := F25,
    f_l_measures := F26,
    f_l_part := F27,
    f_l_marks_of := F28,
    f_l_grades := F29,
    f_l_broad := F30,
    f_l_any_ladder := F31,
    f_l_deep := F32,
    f_l_refused := F33,
    f_l_is_grid := F34,
    f_law := F35 }
def sp_law (K : PySem.W.Frag) : Sp := fun vs H Q _ => ∃ (a : Addr) (ns : List Int), vs = [.ref a] ∧ SqL K H a (ns.map V.int) ∧ ns.length ≤ 63 ∧ ∀ H', Q (.bl true) H'

end K47
open PySem PySem.W PySem.Calls PyProof.Rows in
set_option maxRecDepth 100000 in
set_option maxHeartbeats 0 in
theorem K47.pre (hl : ∀ {P : Program} {w : World} {K : PySem.W.Frag} {mg : Str → Option Value} {base : Heap} {φ : K47.Fds} (T : K47.Txt K mg φ), L2.FnOk P w K mg base L2.CX0 9 (He.fAd K ("law", none)) φ.law K47.p_law (K47.sp_law K)) : PySem.Challenge.rw_sizeladders_k47_grids_made_or_refused.Holds := by
  w_on; o_law
  refine HandSHeadRun.head_any (r := OpenLaw.row PySem.Challenge.rw_sizeladders_k47_grids_made_or_refused) (q := view (OpenLaw.row PySem.Challenge.rw_sizeladders_k47_grids_made_or_refused).prog [58]) (H := K47.hk) (ob := K47.ob) (M := 20000) (loose := [("_wall" : PySem.Str), ("LadderError" : PySem.Str), ("NoMeasure" : PySem.Str), ("NoStretch" : PySem.Str), ("NoLadder" : PySem.Str), ("NoLine" : PySem.Str), ("Slip" : PySem.Str), ("NoText" : PySem.Str), ("LandError" : PySem.Str), ("NoSize" : PySem.Str), ("NoBottom" : PySem.Str), ("is_whole" : PySem.Str), ("common_part" : PySem.Str), ("written" : PySem.Str), ("Measure" : PySem.Str), ("is_measure_or_none" : PySem.Str), ("measure_or" : PySem.Str), ("slip_of" : PySem.Str), ("is_empty" : PySem.Str), ("end_text" : PySem.Str), ("cut_low" : PySem.Str), ("cut_high" : PySem.Str), ("Stretch" : PySem.Str), ("MOST_MARKS" : PySem.Str), ("RULES" : PySem.Str), ("are_marks" : PySem.Str), ("is_rule" : PySem.Str), ("is_span" : PySem.Str), ("midsts_of" : PySem.Str), ("size_by_rule" : PySem.Str), ("end_at" : PySem.Str), ("stretch_by_rule" : PySem.Str), ("has_size" : PySem.Str), ("bound_text" : PySem.Str), ("Ladder" : PySem.Str), ("Grid" : PySem.Str), ("_law_hand" : PySem.Str), ("_law_take" : PySem.Str), ("_law_pick" : PySem.Str), ("_law_plain" : PySem.Str), ("_law_sum" : PySem.Str), ("_law_measures" : PySem.Str), ("_law_part" : PySem.Str), ("_law_marks_of" : PySem.Str), ("_law_grades" : PySem.Str), ("_law_broad" : PySem.Str), ("_law_any_ladder" : PySem.Str), ("_law_deep" : PySem.Str), ("_law_refused" : PySem.Str), ("_law_is_grid" : PySem.Str)]) (d := HandSHeadRun.topDef (OpenLaw.row PySem.Challenge.rw_sizeladders_k47_grids_made_or_refused).prog 58) (kwd := []) K47.ob_eq
    (by kernel_rfl) (fun s => by kernel_rfl) K47.run (by kernel_rfl) (by kernel_rfl) (by kernel_rfl) (by rfl) (by first | assumption | decide +kernel) (by decide +kernel) ⟨rfl, rfl, rfl, rfl, rfl, by decide +kernel⟩ ?hw ?hc
  case hw => w_witness2
  case hc =>
    refine L2.walk_ofE (l := PySem.Challenge.rw_sizeladders_k47_grids_made_or_refused) (n := 63) (k := 9) (x := "_law_script") (CX := L2.CX0) rfl (by decide) (by kernel_rfl) ⟨rfl, by decide, by decide⟩ ?F (fun _ _ _ _ z => z)
    intro w mg fa h Y G hmg0
    obtain ⟨K, KX, c, cx⟩ := Y
    have hmg : mg ("law" : PySem.Str) = some (.ref fa) := by
      have e : (HandSHeadRun.topDef (OpenLaw.row PySem.Challenge.rw_sizeladders_k47_grids_made_or_refused).prog 58).name = ("law" : PySem.Str) := by kernel_rfl
      rw [← e]
      exact hmg0
    obtain ⟨φ, T⟩ := K47.facts KX G c cx
    have e := hmg.symm.trans T.g_law
    cases e
    have b := L2.FunD.bindsA (ps := K47.p_law) T.f_law fun _ _ _ _ _ _ us hl => match us, hl with | [_], _ => rfl
    exact ⟨K, φ.law, K47.sp_law K, KX, fun s v => b s [v] rfl, fun H a ns hl _ hS => ⟨a, ns, rfl, hS, hl, fun _ => rfl⟩, fun base _ _ => hl T⟩

namespace My
open PySem PySem.Spec PyProof.Rows L2
/-! ### enumerate of a tuple -/
section
variable {X : Cx}
/-! ### len of an own object -/
end
/-! ### max and min with a default -/
section
variable {X : Cx} {K : PySem.W.Frag}
/-! ### xs[::k] -/
def rTupL (K : PySem.W.Frag) : List V → Hp → VK → Prop := fun xs H Q => ∃ (p : Addr) (ys : List V), xs = [.ref p] ∧ SqL K H p ys ∧ ∀ l, H l = none → Q (.ref l) (upd H l (.tup ys))
theorem tupleL (hK : X.K = K := by rfl) : CallR X (.type "tuple") (rTupL K) := by
  subst hK
  intro pins s σ H xs us Q I r h
  obtain ⟨p, ys, e, h1, h2⟩ := h
  exact call_tuple_of pins s σ H xs us Q I r ⟨p, ys, e, .inl ⟨h1, h2⟩⟩
def rListOf (K : PySem.W.Frag) : List V → Hp → VK → Prop := fun xs H Q => ∃ (p : Addr) (ys : List V), xs = [.ref p] ∧ (SqL K H p ys ∨ SqT K H p ys) ∧ ∀ l, H l = none → Q (.ref l) (upd H l (.lst ys))
theorem listOf (hK : X.K = K := by rfl) : CallR X (.type "list") (rListOf K) := by
  subst hK
  exact call_list_of
end
theorem logS {m : Int} (h : m.natAbs < 2 ^ 60) : m.natAbs.log2 < 9000 := Nat.lt_of_lt_of_le (PySem.Flt.log2_lt_of (by decide) h) (by decide)
theorem szl {n : Nat} (h : n ≤ 1000) : n ≤ sizeLine := Nat.le_trans h (by decide)
theorem szb {n : Nat} (h : Nat.ble n 1000 = true) : n ≤ sizeLine := szl (Nat.le_of_ble_eq_true h)
theorem szs {n : Nat} (h : n < 1000) : n < sizeLine := Nat.lt_of_lt_of_le h (by decide)
theorem atI_end {xs : List V} {n : Nat} {v : V} (hn : n + 1 = xs.length) (h : xs[n]? = some v) : atI xs (-1) = some v := by
  have e : ixN xs.length (-1) = some n := by
    unfold ixN
    rw [if_neg (by decide), if_pos (by omega)]
    exact congrArg some (by omega)
  unfold atI
  rw [e]
  exact h
theorem qmk_pos {a b : Int} (h : 0 < b) : qmk a b = (a, b) := by
  have e : sgn b = 1 := by unfold sgn; rw [if_pos h]
  unfold qmk
  rw [e, Int.mul_one, Int.mul_one]
/-- a Measure is made -/
theorem q_made {C : Addr} {H : Hp} {Qa : Addr → Hp → Prop} {E : XK} {k : Nat} {a b : Int} (hb : 0 < b) (sa : Sz k a) (sb : Sz k b) (k0 : 0 < k) (k1 : k ≤ 8900) (f : ∀ (p : Addr) (H' : Hp), Same H H' → QAt C H' p k (a, b) → Qa p H') :
    ∀ x dx, H x = none → H dx = none → dx ≠ x → sp_minit C [.ref x, .int a, .int b] (upd (upd H dx (.own x)) x (.ins C dx [])) (fun v H2 => v = .non ∧ Qa x H2) E := by
  intro x dx nx nd ne
  refine ⟨x, dx, a, b, rfl, upd_same, by omega, Sz.log sb k0 (by omega), fun t u H' fr hx kp => ⟨rfl, ?_⟩⟩
  have q := q_mk (k := k) ⟨dx, hx⟩ fr (by omega) sa sb
  rw [qmk_pos hb] at q
  exact f x H' (made_same nx nd kp) q
/-! ### draws -/
/-- one of a list -/
def sp_of (K : PySem.W.Frag) : Sp := fun vs H Q _ => ∃ (h l : Addr) (n : Nat) (xs : List V), vs = [.ref h, .ref l] ∧ HandAt H h n ∧ n < 100000 ∧ SqL K H l xs ∧ l ≠ h ∧ 0 < xs.length ∧ xs.length ≤ 1000 ∧
  ∀ (i : Nat) (x : V) (H' : Hp), xs[i]? = some x → HandAt H' h (n + 1) → Kp h H H' → Q x H'
end My
namespace My
open PySem PySem.Spec PyProof.Rows L2
theorem HandAt.put {H : Hp} {h l : Addr} {u : HO} {n : Nat} (a : HandAt H h n) (ne : l ≠ h) : HandAt (upd H l u) h n := by
  obtain ⟨x, y, z, h1, h2⟩ := a
  exact ⟨x, y, z, by rw [upd_ne ne.symm]; exact h1, h2⟩
theorem Kp.fresh {h l : Addr} {H H1 : Hp} (k : Kp h H H1) (hn : H1 l = none) (ne : l ≠ h) : H l = none := by
  cases e : H l with
  | none => rfl
  | some o => rw [k l o e ne] at hn; cases hn
theorem Kp.putN {h l : Addr} {H H1 : Hp} {u : HO} (k : Kp h H H1) (hn : H l = none) : Kp h H (upd H1 l u) := fun c o e n => by
  rw [upd_ne (ne_of_none e hn)]; exact k c o e n
theorem geI {n : Nat} {zs : List Int} (h : n < zs.length) : ∃ a, zs[n]? = some a := ⟨_, List.getElem?_eq_getElem h⟩
def optZ : Option Int → V
  | none => .non
  | some z => .int z
/-- a ladder in whole parts, as the laws draw it -/
structure LawL (H : Hp) (p : Addr) (part : Int) (ms : List Int) (r : Str) (lo hi : Option Int) : Prop where
  ob : ∃ T, H p = some (.tup [.int part, .ref T, .str r, optZ lo, optZ hi]) ∧ H T = some (.tup (ms.map V.int))
  p0 : 0 < part
  p1 : part ≤ 10007
  len0 : 0 < ms.length
  len1 : ms.length ≤ 24
  rise : ∀ (i : Nat) (a b : Int), ms[i]? = some a → ms[i + 1]? = some b → a < b
  four : ∀ m ∈ ms, m % 4 = 0
  bnd : ∀ m ∈ ms, -4000000 ≤ m ∧ m ≤ 4000000
  blo : ∀ z, lo = some z → -4000040 ≤ z ∧ z ≤ 4000040
  bhi : ∀ z, hi = some z → -4000040 ≤ z ∧ z ≤ 4000040
  rule : IsRule r
  span : ∀ a b, lo = some a → hi = some b → a ≤ b
section
variable {H H' : Hp} {p : Addr} {part : Int} {ms : List Int} {r : Str} {lo hi : Option Int}
theorem LawL.same (a : LawL H p part ms r lo hi) (s : Same H H') : LawL H' p part ms r lo hi := by
  obtain ⟨⟨T, h1, h2⟩, a1⟩ := a
  exact ⟨⟨T, s _ _ h1, s _ _ h2⟩, by assumption, by assumption, by assumption, by assumption, by assumption, by assumption, by assumption, by assumption, by assumption, by assumption, by assumption⟩
/-- the parts as fractions -/
def zq (d : Int) (ms : List Int) : List Q2 := ms.map fun m => (m, d)
def oq (d : Int) (o : Option Int) : Option Q2 := o.map fun m => (m, d)
end
/-- whole numbers within a bound -/
def IntsB (B : Int) (xs : List V) : Prop := ∀ x ∈ xs, ∃ z : Int, x = .int z ∧ -B ≤ z ∧ z ≤ B
theorem IntsB.mono {B B' : Int} {xs : List V} (a : IntsB B xs) (l : B ≤ B') : IntsB B' xs := fun x h => by
  obtain ⟨z, e, h1, h2⟩ := a x h
  exact ⟨z, e, by omega, by omega⟩
theorem IntsB.ints {B : Int} : ∀ {xs : List V}, IntsB B xs → ∃ ys : List Int, xs = ys.map V.int ∧ ∀ y ∈ ys, -B ≤ y ∧ y ≤ B
  | [], _ => ⟨[], rfl, fun y h => by simp at h⟩
  | x :: xs, a => by
    obtain ⟨z, rfl, h1⟩ := a x (by simp)
    obtain ⟨ys, e, h2⟩ := IntsB.ints (xs := xs) fun w hw => a w (by simp [hw])
    refine ⟨z :: ys, by rw [e]; rfl, fun y hy => ?_⟩
    rcases List.mem_cons.mp hy with e | e
    · rw [e]; exact h1
    · exact h2 y e
theorem IntsB.of {B : Int} {ms : List Int} (h : ∀ m ∈ ms, -B ≤ m ∧ m ≤ B) : IntsB B (ms.map V.int) := fun x hx => by
  obtain ⟨m, hm, rfl⟩ := List.mem_map.mp hx
  exact ⟨m, rfl, h m hm⟩
/-! ### sizes by whole numbers -/
abbrev RiseI (ms : List Int) : Prop := ∀ (i : Nat) (a b : Int), ms[i]? = some a → ms[i + 1]? = some b → a < b
theorem RiseI.tail {x : Int} {ms : List Int} (h : RiseI (x :: ms)) : RiseI ms := fun i a b h1 h2 => h (i + 1) a b (by simpa using h1) (by simpa using h2)
theorem RiseI.head : ∀ {ms : List Int} {x : Int}, RiseI (x :: ms) → ∀ m ∈ ms, x < m
  | [], _, _, m, hm => by simp at hm
  | y :: ms, x, h, m, hm => by
    have h0 : x < y := h 0 x y rfl rfl
    rcases List.mem_cons.mp hm with e | e
    · rw [e]; exact h0
    · have := RiseI.head h.tail m e
      omega
theorem RiseI.lt {ms : List Int} (h : RiseI ms) : ∀ {j : Nat} {i : Nat} {a b : Int}, i < j → ms[i]? = some a → ms[j]? = some b → a < b
  | 0, _, _, _, hi, _, _ => by omega
  | j + 1, i, a, b, hi, ha, hb => by
    obtain ⟨c, hc⟩ := geI (zs := ms) (n := j) (by have := (List.getElem?_eq_some_iff.mp hb).1; omega)
    have h1 := h j c b hc hb
    by_cases e : i = j
    · subst e
      rw [ha] at hc
      cases hc
      exact h1
    · have := RiseI.lt h (show i < j by omega) ha hc
      omega
section
variable {ms : List Int} {d z : Int} {lo hi : Option Q2}
end
/-! ### what the laws' own defs promise -/
end My
namespace My
open PySem PySem.Spec PyProof.Rows L2
/-! ### the stretches of a ladder's sizes -/
section
variable {X : Cx} {K : PySem.W.Frag}
end
def endQ (zs : List Q2) (i : Int) : Option Q2 := if 0 ≤ i ∧ i < zs.length then zs[i.toNat]? else none
/-- both ends of a size by the rule alone, and whether they are in -/
def rulE (zs : List Q2) (r : Str) (n : Nat) : (Option Q2 × Bool) × (Option Q2 × Bool) :=
  if r = "up" then ((endQ zs ((n : Int) - 1), false), (zs[n]?, true)) else if r = "down" then ((zs[n]?, true), (endQ zs ((n : Int) + 1), false)) else ((endQ (midq zs) ((n : Int) - 1), true), (endQ (midq zs) n, false))
/-- a Stretch whose ends are these fractions -/
def StQ (CM CS : Addr) (H : Hp) (p : Addr) (x y : Option Q2 × Bool) : Prop := ∃ lo hi, StAt CM CS H p lo hi (x.2 && x.1.isSome) (y.2 && y.1.isSome) ∧ ReO lo x.1 ∧ ReO hi y.1
theorem StQ.same {CM CS p : Addr} {H H' : Hp} {x y : Option Q2 × Bool} (a : StQ CM CS H p x y) (s : Same H H') : StQ CM CS H' p x y := by
  obtain ⟨lo, hi, h1, h2, h3⟩ := a
  exact ⟨lo, hi, h1.same s, h2, h3⟩
def CutQ (CM CS : Addr) (H : Hp) (v : V) (x y : Option Q2 × Bool) : Prop := ∃ x' y', CutV CM CS H v x' y' ∧ Alike x' x ∧ Alike y' y
theorem CutQ.same {CM CS : Addr} {H H' : Hp} {v : V} {x y : Option Q2 × Bool} (a : CutQ CM CS H v x y) (s : Same H H') : CutQ CM CS H' v x y := by
  obtain ⟨x', y', h1, h2, h3⟩ := a
  exact ⟨x', y', h1.same s, h2, h3⟩
/-- both ends of a size's stretch -/
def sizE (zs : List Q2) (r : Str) (lo hi : Option Q2) (n : Nat) : (Option Q2 × Bool) × (Option Q2 × Bool) :=
  (cutLo (rulE zs r n).1.1 (rulE zs r n).1.2 lo true, cutHi (rulE zs r n).2.1 (rulE zs r n).2.2 hi true)
/-! between neighbours there is something -/
/-- the fractions' bottoms are above nought -/
def PosL (zs : List Q2) : Prop := ∀ z ∈ zs, 0 < z.2
theorem Mks.posL {C : Addr} {H : Hp} {k : Nat} {ps : List V} {zs : List Q2} (m : Mks C H k ps zs) : PosL zs := fun z hz => by
  obtain ⟨i, hi⟩ := List.mem_iff_getElem?.mp hz
  obtain ⟨p, _, q⟩ := m.at hi
  exact q.pos
end My
namespace My
open PySem PySem.Spec PyProof.Rows L2
/-! ### defs that are called where no text of a list or tuple is under way -/
section
variable {P : Program} {w : World} {K : PySem.W.Frag} {mg : Str → Option Value} {base : Heap} {x qual : Str} {params : Arguments} {body : List Stmt} {scope : Scope} {dvs : List V} {kws : List (Str × V)} {f : Addr} {fd : FuncData}
end
section
variable {X : Cx} {CX : CXT} {k : Nat} {f : Addr} {fd : FuncData} {ps : List Str} {sp : Sp} {dvs : List V} {ds : List Value} {E : XK} {x : Str} {p pos : Pos} {e : Expr} {es : List Expr} {t : TA}
end
/-! ### the law is called where none is under way -/
end My
namespace My
open PySem PySem.Spec PyProof.Rows L2
/-! ### tuples: sums and slices, whatever their lengths -/
section
variable {X : Cx} {K : PySem.W.Frag}
end
/-! ### rows, as the laws draw them -/
structure RowsL (H : Hp) (p : Addr) (part : Int) (ts : List Int) : Prop where
  ob : ∃ T, H p = some (.tup [.int part, .ref T]) ∧ H T = some (.tup (ts.map V.int))
  p0 : 0 < part
  p1 : part ≤ 10007
  len0 : 0 < ts.length
  len1 : ts.length ≤ 24
  bnd : ∀ t ∈ ts, -2000000 ≤ t ∧ t ≤ 2000000
theorem RowsL.same {H H' : Hp} {p : Addr} {part : Int} {ts : List Int} (a : RowsL H p part ts) (s : Same H H') : RowsL H' p part ts := by
  obtain ⟨⟨T, h1, h2⟩, a1, a2, a3, a4, a5⟩ := a
  exact ⟨⟨T, s _ _ h1, s _ _ h2⟩, a1, a2, a3, a4, a5⟩
/-! ### tuples of whole numbers as data -/
def intsD (zs : List Int) : PyData := .tuple (zs.map PyData.int)
theorem dpI {K : PySem.W.Frag} {H : Hp} : ∀ zs : List Int, DpAll K H (zs.map V.int) (zs.map PyData.int)
  | [] => .nil
  | z :: zs => .cons (.int z) (dpI zs)
theorem dpT {K : PySem.W.Frag} {H : Hp} {p : Addr} {zs : List Int} (h : H p = some (.tup (zs.map V.int))) : Dp K H (.ref p) (intsD zs) := .tup (SqT.of h) (dpI zs)
end My
namespace My
open PySem PySem.Spec PyProof.Rows L2
/-! ### a list or a tuple, walked -/
section
variable {X : Cx} {tg : Expr}
def iSeq (K : PySem.W.Frag) (tl : TE) : TI := fun σ H R => tl σ H fun x H1 => ∃ a, x = .ref a ∧ (((∃ xs, SqL K H1 a xs) ∧ R (Itl K a) H1) ∨ ((∃ xs, SqT K H1 a xs) ∧ R (Itt K a) H1))
theorem pi_seq {l : Expr} {tl : TE} (hl : PE X l tl) : PI X tg l (iSeq X.K tl) := by
  refine ⟨fun pins s σ H R I h => ?_⟩
  refine thn (hl.run pins s σ H _ I h) fun v s1 ⟨x, H1, I1, r1, q1⟩ => ?_
  obtain ⟨a, e, q1⟩ := q1
  subst e
  cases r1
  have fresh : ∀ b ∈ [s1.heap.objs.size], FpOk X pins H1 b := fun b hb => by
    have e : b = s1.heap.objs.size := by simpa using hb
    subst e
    exact I1.fpOk (Nat.le_refl _) (I1.hok.fresh (Nat.le_refl _))
  rcases q1 with ⟨⟨xs, hq⟩, q⟩ | ⟨⟨xs, hq⟩, q⟩
  · obtain ⟨its, rv, p, hz⟩ := I1.list hq
    refine wpAny_pyIter_list p.isList ?_
    exact ⟨s1.heap.objs.size, [s1.heap.objs.size], _, _, H1, rfl, I1.kept (t' := s1.toks) fun b o e => Heap.get?_push_of_some _ e, turn_list a _, ⟨_, Heap.get?_push_size _ rfl, rfl, rfl⟩, fresh, q⟩
  · obtain ⟨its, rv, p, hz⟩ := I1.tuple hq
    refine wpAny_pyIter_tuple (show s1.heap.IsTuple a its.toArray from p) ?_
    exact ⟨s1.heap.objs.size, [s1.heap.objs.size], _, _, H1, rfl, I1.kept (t' := s1.toks) fun b o e => Heap.get?_push_of_some _ e, turn_tuple a _, ⟨_, Heap.get?_push_size _ rfl, rfl, rfl⟩, fresh, q⟩
end
/-- a def that calls itself, ahead of its own promise -/
theorem fn_never {P : Program} {w : World} {K : PySem.W.Frag} {mg : Str → Option Value} {base : Heap} {CX : CXT} {k : Nat} {f : Addr} {fd : FuncData} {ps : List Str} : FnOk P w K mg base CX k f fd ps (fun _ _ _ _ => False) :=
  ⟨fun _ _ _ _ h => h.elim, fun _ _ _ _ _ _ _ _ _ _ _ _ _ h => h.elim⟩
/-! ### fractions as pairs of whole numbers -/
def TQ (H : Hp) (v : V) (k : Nat) (z : Q2) : Prop := ∃ p, v = .ref p ∧ H p = some (.tup [.int z.1, .int z.2]) ∧ 0 < z.2 ∧ Sz k z.1 ∧ Sz k z.2
section
variable {H H' : Hp} {v : V} {k j : Nat} {z : Q2}
theorem TQ.same (a : TQ H v k z) (s : Same H H') : TQ H' v k z := by
  obtain ⟨p, h1, h2, h3⟩ := a
  exact ⟨p, h1, s _ _ h2, h3⟩
theorem TQ.nl (a : TQ H v k z) (s : Nl H H') : TQ H' v k z := by
  obtain ⟨p, h1, h2, h3⟩ := a
  exact ⟨p, h1, s _ _ h2 rfl, h3⟩
theorem TQ.kp {h : Addr} {n : Nat} (a : TQ H v k z) (hh : HandAt H h n) (s : Kp h H H') : TQ H' v k z := by
  obtain ⟨p, h1, h2, h3⟩ := a
  exact ⟨p, h1, s.get hh h2 rfl, h3⟩
theorem TQ.mono (a : TQ H v k z) (l : k ≤ j) : TQ H v j z := by
  obtain ⟨p, h1, h2, h3, h4, h5⟩ := a
  exact ⟨p, h1, h2, h3, h4.mono l, h5.mono l⟩
theorem TQ.pos (a : TQ H v k z) : 0 < z.2 := by
  obtain ⟨p, h1, h2, h3, h4, h5⟩ := a
  exact h3
theorem TQ.mk {p : Addr} {a b : Int} (h : H p = some (.tup [.int a, .int b])) (hb : 0 < b) (s1 : Sz k a) (s2 : Sz k b) : TQ H (.ref p) k (a, b) := ⟨p, rfl, h, hb, s1, s2⟩
end
structure Tqs (H : Hp) (k : Nat) (vs : List V) (zs : List Q2) : Prop where
  len : vs.length = zs.length
  all : ∀ (i : Nat) (v : V) (z : Q2), vs[i]? = some v → zs[i]? = some z → TQ H v k z
section
variable {H H' : Hp} {k j : Nat} {vs : List V} {zs : List Q2}
theorem Tqs.same (m : Tqs H k vs zs) (s : Same H H') : Tqs H' k vs zs := ⟨m.len, fun i v z h1 h2 => (m.all i v z h1 h2).same s⟩
theorem Tqs.nl (m : Tqs H k vs zs) (s : Nl H H') : Tqs H' k vs zs := ⟨m.len, fun i v z h1 h2 => (m.all i v z h1 h2).nl s⟩
theorem Tqs.kp {h : Addr} {n : Nat} (m : Tqs H k vs zs) (hh : HandAt H h n) (s : Kp h H H') : Tqs H' k vs zs := ⟨m.len, fun i v z h1 h2 => (m.all i v z h1 h2).kp hh s⟩
theorem Tqs.mono (m : Tqs H k vs zs) (l : k ≤ j) : Tqs H j vs zs := ⟨m.len, fun i v z h1 h2 => (m.all i v z h1 h2).mono l⟩
theorem Tqs.at (m : Tqs H k vs zs) {i : Nat} {z : Q2} (h : zs[i]? = some z) : ∃ v, vs[i]? = some v ∧ TQ H v k z := by
  have hi : i < vs.length := by rw [m.len]; exact (List.getElem?_eq_some_iff.mp h).1
  exact ⟨_, List.getElem?_eq_getElem hi, m.all i _ z (List.getElem?_eq_getElem hi) h⟩
theorem Tqs.of (m : Tqs H k vs zs) {i : Nat} {v : V} (h : vs[i]? = some v) : ∃ z, zs[i]? = some z ∧ TQ H v k z := by
  have hi : i < zs.length := by rw [← m.len]; exact (List.getElem?_eq_some_iff.mp h).1
  exact ⟨_, List.getElem?_eq_getElem hi, m.all i v _ h (List.getElem?_eq_getElem hi)⟩
theorem Tqs.snoc (m : Tqs H k vs zs) {v : V} {z : Q2} (t : TQ H v k z) : Tqs H k (vs ++ [v]) (zs ++ [z]) := by
  refine ⟨by rw [List.length_append, List.length_append, m.len]; rfl, fun i w y h1 h2 => ?_⟩
  by_cases hi : i < vs.length
  · rw [List.getElem?_append_left hi] at h1
    rw [List.getElem?_append_left (by rw [← m.len]; exact hi)] at h2
    exact m.all i w y h1 h2
  · have l1 := (List.getElem?_eq_some_iff.mp h1).1
    rw [List.length_append, List.length_singleton] at l1
    have e : i = vs.length := by omega
    rw [e, List.getElem?_append_right (Nat.le_refl _), Nat.sub_self] at h1
    rw [e, m.len, List.getElem?_append_right (Nat.le_refl _), Nat.sub_self] at h2
    cases h1; cases h2
    exact t
theorem Tqs.one {v : V} {z : Q2} (t : TQ H v k z) : Tqs H k [v] [z] := (⟨rfl, fun i w y h1 => by simp at h1⟩ : Tqs H k [] []).snoc t
theorem Tqs.cons (m : Tqs H k vs zs) {v : V} {z : Q2} (t : TQ H v k z) : Tqs H k (v :: vs) (z :: zs) := by
  refine ⟨by rw [List.length_cons, List.length_cons, m.len], fun i w y h1 h2 => ?_⟩
  cases i with
  | zero => cases h1; cases h2; exact t
  | succ i => exact m.all i w y (by simpa using h1) (by simpa using h2)
theorem Tqs.nil : Tqs H k [] [] := ⟨rfl, fun i w y h1 => by simp at h1⟩
theorem Mks.mono {C : Addr} {ps : List V} (m : Mks C H k ps zs) (l : k ≤ j) : Mks C H j ps zs := ⟨m.len, fun i v z h1 h2 => by
  obtain ⟨p, e, q⟩ := m.all i v z h1 h2
  exact ⟨p, e, q.mono l⟩⟩
theorem QO.mono {C : Addr} {v : V} (l : k ≤ j) : ∀ {e : Option Q2}, QO C H k v e → QO C H j v e
  | none, h => h
  | some _, ⟨p, h1, h2⟩ => ⟨p, h1, h2.mono l⟩
end
theorem rise_snocQ {zs : List Q2} {x : Q2} (h : RiseQ zs) (hx : ∀ n a, zs[n]? = some a → n + 1 = zs.length → ltq a x = true) : RiseQ (zs ++ [x]) := by
  intro i a b ha hb
  have l1 := (List.getElem?_eq_some_iff.mp hb).1
  rw [List.length_append, List.length_singleton] at l1
  rw [List.getElem?_append_left (by omega)] at ha
  by_cases hi : i + 1 < zs.length
  · rw [List.getElem?_append_left hi] at hb
    exact h i a b ha hb
  · have e : i + 1 = zs.length := by omega
    rw [e, List.getElem?_append_right (Nat.le_refl _), Nat.sub_self] at hb
    have eb : x = b := by simpa using hb
    rw [← eb]
    exact hx i a ha e
theorem ltq_more {x y : Q2} (hx : 0 < x.2) (hy : 0 < y.2) (h : 0 < y.1) : ltq x (qadd x y) = true := by
  unfold ltq qadd
  refine decide_eq_true ?_
  show x.1 * (x.2 * y.2) < (x.1 * y.2 + y.1 * x.2) * x.2
  have e : (x.1 * y.2 + y.1 * x.2) * x.2 = x.1 * (x.2 * y.2) + y.1 * (x.2 * x.2) := by grind
  have := Int.mul_pos h (Int.mul_pos hx hx)
  omega
theorem ltq_moreR {x y z : Q2} (hx : 0 < x.2) (hy : 0 < y.2) (h : 0 < y.1) (r : Re z (qadd x y)) : ltq x z = true := by
  rw [ltq_congr (Re.refl hx) r]
  exact ltq_more hx hy h
theorem Re.pos1 {z w : Q2} (r : Re z w) (h : 0 < w.1) : 0 < z.1 := by
  obtain ⟨h1, h2, e⟩ := r
  have p : 0 < w.1 * z.2 := Int.mul_pos h h1
  rw [← e] at p
  exact Int.pos_of_mul_pos_left p h2 |> fun q => q
theorem leq_not {a b : Q2} : leq a b = !ltq b a := by
  unfold leq ltq eqq
  rw [← Bool.decide_or, ← decide_not]
  exact decide_eq_decide.mpr ⟨fun h => by omega, fun h => by omega⟩
theorem span_leq (a b : Q2) : spanB (some a) (some b) = (ltq a b || eqq a b) := by
  show (!ltq b a) = leq a b
  rw [leq_not]
/-! ### what the defs of pairs promise -/
def sp_plain : Sp := fun vs H Q _ => ∃ (a b : Int) (k : Nat), vs = [.int a, .int b] ∧ 0 < b ∧ Sz k a ∧ Sz k b ∧ 0 < k ∧ k ≤ 8000 ∧ ∀ (v : V) (z : Q2) (H' : Hp), Same H H' → TQ H' v k z → Re z (a, b) → Q v H'
def sp_sum : Sp := fun vs H Q _ => ∃ (v w : V) (k j : Nat) (x y : Q2), vs = [v, w] ∧ TQ H v k x ∧ TQ H w j y ∧ 0 < k ∧ 0 < j ∧ k + j < 8000 ∧ ∀ (v' : V) (z : Q2) (H' : Hp), Same H H' → TQ H' v' (k + j + 1) z → Re z (qadd x y) → Q v' H'
def sp_meass (K : PySem.W.Frag) (CM : Addr) : Sp := fun vs H Q _ => ∃ (p : Addr) (k : Nat) (us : List V) (zs : List Q2), vs = [.ref p] ∧ (SqL K H p us ∨ SqT K H p us) ∧ Tqs H k us zs ∧ 0 < k ∧ k ≤ 4000 ∧ zs.length ≤ 24 ∧
  ∀ (T : Addr) (ps : List V) (H' : Hp), Same H H' → H' T = some (.tup ps) → Mks CM H' k ps zs → Q (.ref T) H'
def sp_lpart : Sp := fun vs H Q _ => ∃ (h : Addr) (n : Nat), vs = [.ref h] ∧ HandAt H h n ∧ n < 90000 ∧ ∀ (v : V) (z : Q2) (H' : Hp), HandAt H' h (n + 2) → Kp h H H' → TQ H' v 20 z → 0 < z.1 → Q v H'
def sp_marks : Sp := fun vs H Q _ => ∃ (h : Addr) (n m : Nat), vs = [.ref h, .int m] ∧ HandAt H h n ∧ n < 10000 ∧ 0 < m ∧ m ≤ 24 ∧
  ∀ (l : Addr) (us : List V) (zs : List Q2) (H' : Hp), HandAt H' h (n + 60) → Kp h H H' → l ≠ h → H' l = some (.lst us) → Tqs H' (12 + 21 * m) us zs → 0 < zs.length → zs.length ≤ m → RiseQ zs → Q (.ref l) H'
def sp_anyl (K : PySem.W.Frag) (CM CL : Addr) : Sp := fun vs H Q _ => ∃ (h l : Addr) (n k : Nat) (us : List V) (zs : List Q2), vs = [.ref h, .ref l] ∧ HandAt H h n ∧ n < 10000 ∧ l ≠ h ∧ H l = some (.lst us) ∧ Tqs H k us zs ∧ 0 < k ∧ k ≤ 1000 ∧ 0 < zs.length ∧ zs.length ≤ 24 ∧ RiseQ zs ∧
  ∀ (p : Addr) (r : Str) (lo hi : Option Q2) (H' : Hp), HandAt H' h (n + 3) → Kp h H H' → LadAt K CM CL H' p (k + 4) zs r lo hi → Q (.ref p) H'
/-- None, or a Measure, or another one where it is None -/
def sp_mor (CM : Addr) : Sp := fun vs H Q _ => ∃ (v : V) (k : Nat) (e : Option Q2), vs = [v, .int 0] ∧ QO CM H k v e ∧ 0 < k ∧ k ≤ 8000 ∧ ∀ (p : Addr) (H' : Hp), Same H H' → QAt CM H' p k (e.getD (0, 1)) → Q (.ref p) H'
def sp_span (CM : Addr) : Sp := fun vs H Q _ => ∃ (l h : V) (k : Nat) (lo hi : Option Q2), vs = [l, h] ∧ QO CM H k l lo ∧ QO CM H k h hi ∧ k ≤ 9000 ∧ Q (.bl (spanB lo hi)) H
theorem rise_ltq {zs : List Q2} (h : RiseQ zs) (hp : ∀ z ∈ zs, 0 < z.2) : ∀ {j i : Nat} {a b : Q2}, i < j → zs[i]? = some a → zs[j]? = some b → ltq a b = true
  | 0, _, _, _, hi, _, _ => by omega
  | j + 1, i, a, b, hi, ha, hb => by
    obtain ⟨c, hc⟩ := ge2 (zs := zs) (n := j) (by have := (List.getElem?_eq_some_iff.mp hb).1; omega)
    have h1 := h j c b hc hb
    by_cases e : i = j
    · subst e
      rw [ha] at hc
      cases hc
      exact h1
    · exact ltq_trans (hp c (List.mem_of_getElem? hc)) (hp a (List.mem_of_getElem? ha)) (hp b (List.mem_of_getElem? hb)) (rise_ltq h hp (show i < j by omega) ha hc) h1
theorem ltq_asymm {a b : Q2} (h : ltq a b = true) : ltq b a = false := by
  have := of_decide_eq_true h
  exact decide_eq_false (by omega)
theorem ltq_irrefl (a : Q2) : ltq a a = false := decide_eq_false (by omega)
theorem Tqs.posL {H : Hp} {k : Nat} {vs : List V} {zs : List Q2} (m : Tqs H k vs zs) : ∀ z ∈ zs, 0 < z.2 := fun z hz => by
  obtain ⟨i, hi⟩ := List.mem_iff_getElem?.mp hz
  obtain ⟨v, _, t⟩ := m.at hi
  exact t.pos
theorem rise_ends {zs : List Q2} (h : RiseQ zs) (hp : ∀ z ∈ zs, 0 < z.2) {a b : Q2} {n : Nat} (h0 : zs[0]? = some a) (h1 : zs[n]? = some b) : ltq b a = false := by
  cases n with
  | zero =>
    rw [h0] at h1
    cases h1
    exact ltq_irrefl a
  | succ n => exact ltq_asymm (rise_ltq h hp (Nat.succ_pos n) h0 h1)
theorem ltq_notlt {a b c : Q2} (ha : 0 < a.2) (hb : 0 < b.2) (hc : 0 < c.2) (h1 : ltq a c = false) (h2 : ltq a b = true) : ltq b c = false := by
  cases e : ltq b c with
  | false => rfl
  | true =>
    rw [ltq_trans hb ha hc h2 e] at h1
    cases h1
/-- None, or a pair -/
def TOq (H : Hp) (k : Nat) (v : V) : Option Q2 → Prop
  | none => v = .non
  | some z => TQ H v k z
theorem TOq.same {H H' : Hp} {k : Nat} {v : V} : ∀ {e : Option Q2}, TOq H k v e → Same H H' → TOq H' k v e
  | none, h, _ => h
  | some _, h, s => TQ.same h s
theorem TOq.kp {H H' : Hp} {k n : Nat} {h : Addr} {v : V} : ∀ {e : Option Q2}, TOq H k v e → HandAt H h n → Kp h H H' → TOq H' k v e
  | none, h, _, _ => h
  | some _, h, hh, s => TQ.kp h hh s
theorem QO.nl {C : Addr} {H H' : Hp} {k : Nat} {v : V} (s : Nl H H') : ∀ {e : Option Q2}, QO C H k v e → QO C H' k v e
  | none, h => h
  | some _, ⟨p, h1, h2⟩ => ⟨p, h1, h2.nl s⟩
theorem geV {n : Nat} {xs : List V} (h : n < xs.length) : ∃ a, xs[n]? = some a := ⟨_, List.getElem?_eq_getElem h⟩
theorem sqt_kp {K : PySem.W.Frag} {H H' : Hp} {h a : Addr} {n : Nat} {xs : List V} (s : SqT K H a xs) (hh : HandAt H h n) (k : Kp h H H') : SqT K H' a xs := by
  rcases s with (s | ⟨o, s⟩) | s
  · exact .inl (.inl (k.get hh s rfl))
  · exact .inl (.inr ⟨o, k.get hh s rfl⟩)
  · exact .inr s
theorem LadAt.kp {K : PySem.W.Frag} {CM CL p h : Addr} {H H' : Hp} {k n : Nat} {zs : List Q2} {r : Str} {lo hi : Option Q2} (a : LadAt K CM CL H p k zs r lo hi) (hh : HandAt H h n) (s : Kp h H H') : LadAt K CM CL H' p k zs r lo hi := by
  obtain ⟨⟨dx, T, ps, l, u, h1, h2, h3, h4, h5⟩, a1, a2, a3, a4, a5⟩ := a
  exact ⟨⟨dx, T, ps, l, u, s.get hh h1 rfl, sqt_kp h2 hh s, h3.kp hh s, h4.kp hh s, h5.kp hh s⟩, a1, a2, a3, a4, a5⟩
end My
namespace My
open PySem PySem.Spec PyProof.Rows L2
/-! ### comprehensions that draw -/
theorem Kp.nlh {h : Addr} {H H' : Hp} {n : Nat} (k : Kp h H H') (hh : HandAt H h n) : Nl H H' := fun c o e no => k c o e (hh.apart e no)
/-! ### things that are the same, one within another -/
def AtomV (x : V) : Prop := (∃ z : Int, x = .int z) ∨ (∃ s : Str, x = .str s) ∨ x = .non ∨ ∃ b : Bool, x = .bl b
def SameV (K : PySem.W.Frag) (H : Hp) : Nat → V → V → Prop
  | 0, x, y => x = y ∧ AtomV x
  | n + 1, x, y => (x = y ∧ AtomV x) ∨ ∃ p q xs ys, x = .ref p ∧ y = .ref q ∧ SqT K H p xs ∧ SqT K H q ys ∧ xs.length = ys.length ∧ xs.length ≤ 900 ∧ ∀ (i : Nat) (a b : V), xs[i]? = some a → ys[i]? = some b → SameV K H n a b
theorem SameV.same {K : PySem.W.Frag} {H H' : Hp} (s : Same H H') : ∀ {n : Nat} {x y : V}, SameV K H n x y → SameV K H' n x y
  | 0, _, _, h => h
  | n + 1, _, _, .inl h => .inl h
  | n + 1, _, _, .inr ⟨p, q, xs, ys, h1, h2, h3, h4, h5, h6, h7⟩ => .inr ⟨p, q, xs, ys, h1, h2, s.sqt h3, s.sqt h4, h5, h6, fun i a b ha hb => SameV.same s (h7 i a b ha hb)⟩
theorem SameV.atom {K : PySem.W.Frag} {H : Hp} {x : V} (a : AtomV x) : ∀ n, SameV K H n x x
  | 0 => ⟨rfl, a⟩
  | _ + 1 => .inl ⟨rfl, a⟩
theorem SameV.ints {K : PySem.W.Frag} {H : Hp} {p q : Addr} {ss : List Int} (n : Nat) (hp : SqT K H p (ss.map V.int)) (hq : SqT K H q (ss.map V.int)) (l : ss.length ≤ 900) : SameV K H (n + 1) (.ref p) (.ref q) :=
  .inr ⟨p, q, _, _, rfl, rfl, hp, hq, rfl, by rw [List.length_map]; exact l, fun i a b ha hb => by
    rw [ha] at hb
    cases hb
    obtain ⟨s, _, rfl⟩ := List.mem_map.mp (List.mem_of_getElem? ha)
    exact SameV.atom (.inl ⟨s, rfl⟩) n⟩
/-! ### a Grid -/
def gf (a b c : V) : List (Str × V) := [("lengths", a), ("breadths", b), ("grade", c)]
theorem gf_put (a b c : V) : putF "grade" c (putF "breadths" b (putF "lengths" a [])) = gf a b c := by
  have e1 : putF ("breadths" : Str) b (putF ("lengths" : Str) a []) = ([("lengths", a), ("breadths", b)] : List (Str × V)) := by
    show (if ("lengths" : Str) = "breadths" then [(("lengths" : Str), b)] else (("lengths" : Str), a) :: putF "breadths" b []) = _
    rw [if_neg (by decide +kernel)] <;> rfl
  have e2 : putF ("grade" : Str) c [("lengths", a), ("breadths", b)] = gf a b c := by
    show (if ("lengths" : Str) = "grade" then _ else (("lengths" : Str), a) :: (if ("breadths" : Str) = "grade" then _ else (("breadths" : Str), b) :: putF "grade" c [])) = _
    rw [if_neg (by decide +kernel), if_neg (by decide +kernel)] <;> rfl
  rw [e1, e2]
section
variable (a b c : V)
theorem gf_lengths : (gf a b c).lookup ("lengths" : Str) = some a := by
  rw [← gf_put, lookup_putF, if_neg (by decide +kernel), lookup_putF, if_neg (by decide +kernel), lookup_putF, if_pos rfl]
theorem gf_breadths : (gf a b c).lookup ("breadths" : Str) = some b := by
  rw [← gf_put, lookup_putF, if_neg (by decide +kernel), lookup_putF, if_pos rfl]
theorem gf_grade : (gf a b c).lookup ("grade" : Str) = some c := by
  rw [← gf_put, lookup_putF, if_pos rfl]
end
/-- a ladder, whatever its rule and ends -/
def LadE (K : PySem.W.Frag) (CM CL : Addr) (H : Hp) (p : Addr) (k : Nat) (zs : List Q2) : Prop := ∃ r lo hi, LadAt K CM CL H p k zs r lo hi
structure GrdAt (K : PySem.W.Frag) (CM CL CG : Addr) (H : Hp) (p : Addr) (k : Nat) (L1 L2 : Addr) (g : Q2) : Prop where
  ob : ∃ dx q, H p = some (.ins CG dx (gf (.ref L1) (.ref L2) (.ref q))) ∧ QAt CM H q k g
theorem GrdAt.same {K : PySem.W.Frag} {CM CL CG : Addr} {H H' : Hp} {p : Addr} {k : Nat} {L1 L2 : Addr} {g : Q2} (a : GrdAt K CM CL CG H p k L1 L2 g) (s : Same H H') : GrdAt K CM CL CG H' p k L1 L2 g := by
  obtain ⟨dx, q, h1, h2⟩ := a.ob
  exact ⟨dx, q, s _ _ h1, h2.same s⟩
theorem GrdAt.kp {K : PySem.W.Frag} {CM CL CG : Addr} {H H' : Hp} {p h : Addr} {k n : Nat} {L1 L2 : Addr} {g : Q2} (a : GrdAt K CM CL CG H p k L1 L2 g) (hh : HandAt H h n) (s : Kp h H H') : GrdAt K CM CL CG H' p k L1 L2 g := by
  obtain ⟨dx, q, h1, h2⟩ := a.ob
  exact ⟨dx, q, s.get hh h1 rfl, h2.kp hh s⟩
def sp_ginit (K : PySem.W.Frag) (CM CL CG : Addr) : Sp := fun vs H Q _ => ∃ (p dx L1 L2 : Addr) (v : V) (k j : Nat) (zs ys : List Q2) (r1 r2 : Str) (lo1 hi1 lo2 hi2 e : Option Q2), vs = [.ref p, .ref L1, .ref L2, v] ∧ H p = some (.ins CG dx []) ∧ LadAt K CM CL H L1 k zs r1 lo1 hi1 ∧ LadAt K CM CL H L2 k ys r2 lo2 hi2 ∧ QO CM H j v e ∧ 0 < j ∧ j ≤ 4000 ∧
  ∀ (q : Addr) (H' : Hp), H' p = some (.ins CG dx (gf (.ref L1) (.ref L2) (.ref q))) → QAt CM H' q j (e.getD (0, 1)) → (∀ b o, H b = some o → b ≠ p → H' b = some o) → Q .non H'
theorem grd_made {K : PySem.W.Frag} {CM CL CG L1 L2 : Addr} {H : Hp} {Qa : Addr → Hp → Prop} {E : XK} {v : V} {k j : Nat} {zs ys : List Q2} {r1 r2 : Str} {lo1 hi1 lo2 hi2 e : Option Q2} (a1 : LadAt K CM CL H L1 k zs r1 lo1 hi1) (a2 : LadAt K CM CL H L2 k ys r2 lo2 hi2) (q1 : QO CM H j v e) (j0 : 0 < j) (j1 : j ≤ 4000)
    (f : ∀ (p : Addr) (H' : Hp), H p = none → Same H H' → GrdAt K CM CL CG H' p j L1 L2 (e.getD (0, 1)) → Qa p H') :
    ∀ x dx, H x = none → H dx = none → dx ≠ x → sp_ginit K CM CL CG [.ref x, .ref L1, .ref L2, v] (upd (upd H dx (.own x)) x (.ins CG dx [])) (fun v H2 => v = .non ∧ Qa x H2) E := by
  intro x dx nx nd ne
  have s0 : Same H (upd (upd H dx (.own x)) x (.ins CG dx [])) := fun c o e => by
    rw [upd_ne (ne_of_none e nx)]
    exact up1 nd e
  refine ⟨x, dx, L1, L2, v, k, j, zs, ys, r1, r2, lo1, hi1, lo2, hi2, e, rfl, upd_same, a1.same s0, a2.same s0, q1.same s0, j0, j1, fun q H' hx hq kp => ⟨rfl, ?_⟩⟩
  exact f x H' nx (made_same nx nd kp) ⟨⟨dx, q, hx, hq⟩⟩
/-- the i-th breadth's mark, graded -/
def grdQ (b g : Q2) (i : Nat) : Q2 := qadd b (qmul g ((i : Int), 1))
def sp_longm (K : PySem.W.Frag) (CM CL CG : Addr) : Sp := fun vs H Q _ => ∃ (p t L1 L2 : Addr) (i w k j : Nat) (g a : Q2) (zs : List Q2), vs = [.ref p, .ref t] ∧ GrdAt K CM CL CG H p j L1 L2 g ∧ LadE K CM CL H L1 k zs ∧ SqT K H t [.int (i : Int), .int (w : Int)] ∧ zs[i]? = some a ∧ ∀ q, QAt CM H q k a → Q (.ref q) H
def sp_graded (K : PySem.W.Frag) (CM CL CG : Addr) : Sp := fun vs H Q _ => ∃ (p L1 L2 : Addr) (i j : Nat) (g : Q2), vs = [.ref p, .int (i : Int)] ∧ GrdAt K CM CL CG H p j L1 L2 g ∧ i ≤ 24 ∧ 0 < j ∧ j ≤ 4000 ∧ ∀ (q : Addr) (H' : Hp), Same H H' → QAt CM H' q (j + 6 + 1) (qmul g ((i : Int), 1)) → Q (.ref q) H'
def sp_broadm (K : PySem.W.Frag) (CM CL CG : Addr) : Sp := fun vs H Q _ => ∃ (p t L1 L2 : Addr) (i w k j : Nat) (g b : Q2) (ys : List Q2), vs = [.ref p, .ref t] ∧ GrdAt K CM CL CG H p j L1 L2 g ∧ LadE K CM CL H L2 k ys ∧ SqT K H t [.int (i : Int), .int (w : Int)] ∧ ys[w]? = some b ∧ i ≤ 24 ∧ 0 < j ∧ j ≤ 1000 ∧ 0 < k ∧ k ≤ 1000 ∧ ∀ (q : Addr) (H' : Hp), Same H H' → QAt CM H' q (k + (j + 6 + 1) + 1) (grdQ b g i) → Q (.ref q) H'
theorem grdQ_eq (b g : Q2) (i : Nat) : grdQ b g i = qadd b ((i : Int) * g.1, g.2) := by
  unfold grdQ qmul
  show qadd b (g.1 * (i : Int), g.2 * 1) = _
  rw [Int.mul_one, Int.mul_comm]
/-! ### the laws' sides of a grid -/
structure SidesAt (H : Hp) (h p : Addr) (k : Nat) (zs ys : List Q2) (g : Q2) : Prop where
  ob : ∃ l1 l2 v us ws, H p = some (.lst [.ref l1, .ref l2, v]) ∧ H l1 = some (.lst us) ∧ H l2 = some (.lst ws) ∧ Tqs H k us zs ∧ Tqs H k ws ys ∧ TQ H v 20 g ∧ p ≠ h ∧ l1 ≠ h ∧ l2 ≠ h
  l0 : 0 < zs.length
  l1 : zs.length ≤ 8
  m0 : 0 < ys.length
  m1 : ys.length ≤ 8
theorem SidesAt.same {H H' : Hp} {h p : Addr} {k : Nat} {zs ys : List Q2} {g : Q2} (a : SidesAt H h p k zs ys g) (s : Same H H') : SidesAt H' h p k zs ys g := by
  obtain ⟨⟨l1, l2, v, us, ws, a1, a2, a3, a4, a5, a6, a7⟩, b1, b2, b3, b4⟩ := a
  exact ⟨⟨l1, l2, v, us, ws, s _ _ a1, s _ _ a2, s _ _ a3, a4.same s, a5.same s, a6.same s, a7⟩, b1, b2, b3, b4⟩
theorem SidesAt.kp {H H' : Hp} {h p : Addr} {k n : Nat} {zs ys : List Q2} {g : Q2} (a : SidesAt H h p k zs ys g) (hh : HandAt H h n) (s : Kp h H H') : SidesAt H' h p k zs ys g := by
  obtain ⟨⟨l1, l2, v, us, ws, a1, a2, a3, a4, a5, a6, a7, a8, a9⟩, b1, b2, b3, b4⟩ := a
  exact ⟨⟨l1, l2, v, us, ws, s _ _ a1 a7, s _ _ a2 a8, s _ _ a3 a9, a4.kp hh s, a5.kp hh s, a6.kp hh s, a7, a8, a9⟩, b1, b2, b3, b4⟩
def sp_gr : Sp := fun vs H Q _ => ∃ (h : Addr) (n : Nat), vs = [.ref h] ∧ HandAt H h n ∧ n < 90000 ∧ ∀ (v : V) (z : Q2) (H' : Hp), HandAt H' h (n + 3) → Kp h H H' → TQ H' v 20 z → Q v H'
def sp_lbroad : Sp := fun vs H Q _ => ∃ (h p : Addr) (i w k : Nat) (zs ys : List Q2) (g b : Q2), vs = [.ref p, .int (i : Int), .int (w : Int)] ∧ SidesAt H h p k zs ys g ∧ ys[w]? = some b ∧ i ≤ 24 ∧ 0 < k ∧ k ≤ 1000 ∧ ∀ (v : V) (z : Q2) (H' : Hp), Same H H' → TQ H' v (k + 26) z → Re z (grdQ b g i) → Q v H'
theorem ne_fields {H : Hp} {q p C D dq dp : Addr} {t u : Int} (hq : H q = some (.ins C dq (mf t u))) (hp : H p = some (.ins D dp [])) : q ≠ p := by
  intro e
  subst e
  rw [hq] at hp
  cases hp
theorem ne_fields2 {H : Hp} {q p C D dq dp : Addr} {t u : Int} {a b : V} (hq : H q = some (.ins C dq (mf t u))) (hp : H p = some (.ins D dp (putF "breadths" b (putF "lengths" a [])))) : q ≠ p := by
  intro e
  subst e
  rw [hq] at hp
  have e2 : mf t u = putF "breadths" b (putF "lengths" a []) := by cases hp
  have h1 := mf_top t u
  rw [e2, lookup_putF, if_neg (by decide +kernel), lookup_putF, if_neg (by decide +kernel)] at h1
  cases h1
end My
namespace My
open PySem PySem.Spec PyProof.Rows L2
/-! ### sizes by fractions -/
/-- f holds of the first ones alone -/
def DownQ (f : Q2 → Bool) (zs : List Q2) : Prop := ∀ (i j : Nat) (a b : Q2), i < j → zs[i]? = some a → zs[j]? = some b → f b = true → f a = true
theorem DownQ.tail {f : Q2 → Bool} {x : Q2} {zs : List Q2} (h : DownQ f (x :: zs)) : DownQ f zs := fun i j a b hij ha hb hf => h (i + 1) (j + 1) a b (by omega) (by simpa using ha) (by simpa using hb) hf
section
variable {zs : List Q2} {r : Str} {lo hi : Option Q2} {x : Q2}
end
end My
namespace My
open PySem PySem.Spec PyProof.Rows L2
/-! ### what stood ahead, wanted at a later heap: the step first -/
section
variable {K : PySem.W.Frag} {C CM CL CG p q h a L1 L2 : Addr} {H H' H1 : Hp} {v : V} {k j n : Nat} {z : Q2} {vs : List V} {zs ys : List Q2} {o : HO} {e : Option Q2} {r : Str} {lo hi : Option Q2}
theorem TQ.s (s : Same H H') (t : TQ H v k z) : TQ H' v k z := t.same s
theorem TQ.nq (s : Nl H H') (t : TQ H v k z) : TQ H' v k z := t.nl s
theorem Tqs.s (s : Same H H') (t : Tqs H k vs zs) : Tqs H' k vs zs := t.same s
theorem QAt.s (s : Same H H') (t : QAt C H p k z) : QAt C H' p k z := t.same s
theorem Mks.s (s : Same H H') (t : Mks C H k vs zs) : Mks C H' k vs zs := t.same s
theorem QO.s (s : Same H H') (t : QO C H k v e) : QO C H' k v e := t.same s
theorem TOq.s (s : Same H H') (t : TOq H k v e) : TOq H' k v e := t.same s
theorem TOq.mono (l : k ≤ j) : ∀ {e : Option Q2}, TOq H k v e → TOq H j v e
  | none, h => h
  | some _, h => TQ.mono h l
theorem LadAt.s (s : Same H H') (t : LadAt K CM CL H p k zs r lo hi) : LadAt K CM CL H' p k zs r lo hi := t.same s
theorem LadAt.mono (t : LadAt K CM CL H p k zs r lo hi) (l : k ≤ j) : LadAt K CM CL H p j zs r lo hi := by
  obtain ⟨⟨dx, T, ps, u, w, h1, h2, h3, h4, h5⟩, a1, a2, a3, a4, a5⟩ := t
  exact ⟨⟨dx, T, ps, u, w, h1, h2, h3.mono l, h4.mono l, h5.mono l⟩, a1, a2, a3, a4, a5⟩
theorem GrdAt.s (s : Same H H') (t : GrdAt K CM CL CG H p k L1 L2 z) : GrdAt K CM CL CG H' p k L1 L2 z := t.same s
theorem SidesAt.s (s : Same H H') (t : SidesAt H h p k zs ys z) : SidesAt H' h p k zs ys z := t.same s
theorem HandAt.s (s : Same H H') (t : HandAt H h n) : HandAt H' h n := t.same s
theorem TQ.u {u : HO} {b : Addr} (np : H b = none) (t : TQ H v k z) : TQ (upd H b u) v k z := t.same (same1 np)
theorem Tqs.u {u : HO} {b : Addr} (np : H b = none) (t : Tqs H k vs zs) : Tqs (upd H b u) k vs zs := t.same (same1 np)
theorem QAt.u {u : HO} {b : Addr} (np : H b = none) (t : QAt C H p k z) : QAt C (upd H b u) p k z := t.same (same1 np)
theorem Mks.u {u : HO} {b : Addr} (np : H b = none) (t : Mks C H k vs zs) : Mks C (upd H b u) k vs zs := t.same (same1 np)
theorem QO.u {u : HO} {b : Addr} (np : H b = none) (t : QO C H k v e) : QO C (upd H b u) k v e := t.same (same1 np)
theorem TOq.u {u : HO} {b : Addr} (np : H b = none) (t : TOq H k v e) : TOq (upd H b u) k v e := t.same (same1 np)
theorem LadAt.u {u : HO} {b : Addr} (np : H b = none) (t : LadAt K CM CL H p k zs r lo hi) : LadAt K CM CL (upd H b u) p k zs r lo hi := t.same (same1 np)
theorem GrdAt.u {u : HO} {b : Addr} (np : H b = none) (t : GrdAt K CM CL CG H p k L1 L2 z) : GrdAt K CM CL CG (upd H b u) p k L1 L2 z := t.same (same1 np)
theorem SidesAt.u {u : HO} {b : Addr} (np : H b = none) (t : SidesAt H h p k zs ys z) : SidesAt (upd H b u) h p k zs ys z := t.same (same1 np)
theorem HandAt.u {u : HO} {b : Addr} (np : H b = none) (t : HandAt H h n) : HandAt (upd H b u) h n := t.same (same1 np)
end
/-- each of these values is a fraction -/
def AllTQ (H : Hp) (k : Nat) (vs : List V) : Prop := ∀ x ∈ vs, ∃ z, TQ H x k z
theorem AllTQ.nil {H : Hp} {k : Nat} : AllTQ H k [] := fun x hx => by simp at hx
theorem AllTQ.cons {H : Hp} {k : Nat} {v : V} {z : Q2} {vs : List V} (t : TQ H v k z) (m : AllTQ H k vs) : AllTQ H k (v :: vs) := fun x hx => by
  rcases List.mem_cons.mp hx with e | e
  · rw [e]; exact ⟨z, t⟩
  · exact m x e
/-! ### a rule, a least and a most, as the laws draw them in fractions -/
structure ChartAt (H : Hp) (T : Addr) (k : Nat) (r : Str) (lo hi : Option Q2) : Prop where
  ob : ∃ u w, H T = some (.tup [.str r, u, w]) ∧ TOq H k u lo ∧ TOq H k w hi
  rule : IsRule r
  span : spanB lo hi = true
section
variable {H H' : Hp} {T h : Addr} {k n : Nat} {r : Str} {lo hi : Option Q2}
theorem ChartAt.same (c : ChartAt H T k r lo hi) (s : Same H H') : ChartAt H' T k r lo hi := by
  obtain ⟨⟨u, w, h1, h2, h3⟩, h4, h5⟩ := c
  exact ⟨⟨u, w, s _ _ h1, h2.same s, h3.same s⟩, h4, h5⟩
theorem ChartAt.kp (c : ChartAt H T k r lo hi) (hh : HandAt H h n) (s : Kp h H H') : ChartAt H' T k r lo hi := by
  obtain ⟨⟨u, w, h1, h2, h3⟩, h4, h5⟩ := c
  exact ⟨⟨u, w, s.get hh h1 rfl, h2.kp hh s, h3.kp hh s⟩, h4, h5⟩
theorem ChartAt.u {u : HO} {b : Addr} (np : H b = none) (c : ChartAt H T k r lo hi) : ChartAt (upd H b u) T k r lo hi := c.same (same1 np)
theorem ChartAt.s (s : Same H H') (c : ChartAt H T k r lo hi) : ChartAt H' T k r lo hi := c.same s
end
/-- a pair of sizes, or None -/
def OwnV (H : Hp) (v : V) : Option (Nat × Nat) → Prop
  | none => v = .non
  | some x => ∃ T, v = .ref T ∧ H T = some (.tup [.int (x.1 : Int), .int (x.2 : Int)])
theorem OwnV.s {H H' : Hp} {v : V} (s : Same H H') : ∀ {o : Option (Nat × Nat)}, OwnV H v o → OwnV H' v o
  | none, h => h
  | some _, ⟨T, h1, h2⟩ => ⟨T, h1, s _ _ h2⟩
theorem OwnV.alike {K : PySem.W.Frag} {H : Hp} {v w : V} : ∀ {o : Option (Nat × Nat)}, OwnV H v o → OwnV H w o → SameV K H 1 v w
  | none, h, g => by
    cases h; cases g
    exact SameV.atom (.inr (.inr (.inl rfl))) 1
  | some x, ⟨T, h1, h2⟩, ⟨T', g1, g2⟩ => by
    subst h1 g1
    exact SameV.ints (ss := [(x.1 : Int), (x.2 : Int)]) 0 (SqT.of h2) (SqT.of g2) (Nat.le_of_ble_eq_true rfl)
/-! ### the numbers of the marks, first and last -/
end My
namespace My
open PySem PySem.Spec PyProof.Rows L2
/-! ### cuts of three stretches -/
theorem Alike.of {x y : Q2} {i j : Bool} (h : Re x y) (e : i = j) : Alike (some x, i) (some y, j) := ⟨h, fun _ => e⟩
theorem Alike.refl {x : Option Q2 × Bool} (h : PosO x.1) : Alike x x := ⟨ReO.refl h, fun _ => rfl⟩
theorem Alike.symm {x y : Option Q2 × Bool} (h : Alike x y) : Alike y x := ⟨h.1.symm, fun e => (h.2 (by rw [h.1.isS]; exact e)).symm⟩

/-- a Measure whose numbers are not too great -/
def PtM (CM : Addr) (H : Hp) (y : V) : Prop := ∃ (q : Addr) (x : Q2), y = .ref q ∧ MAt CM H q x.1 x.2 ∧ 0 < x.2 ∧ Sz 20000 x.1 ∧ Sz 20000 x.2
theorem PtM.nl {CM : Addr} {H H' : Hp} {y : V} (h : PtM CM H y) (s : Nl H H') : PtM CM H' y := by
  obtain ⟨q, x, e, ⟨d, m⟩, r⟩ := h
  exact ⟨q, x, e, ⟨d, s _ _ m rfl⟩, r⟩
theorem PtM.same {CM : Addr} {H H' : Hp} {y : V} (h : PtM CM H y) (s : Same H H') : PtM CM H' y := h.nl (Nl.of s)
end My
namespace My
open PySem PySem.Spec PyProof.Rows L2
/-! ### which measures a size's stretch holds -/
/-- whether there is such a stretch -/
def sizB (zs : List Q2) (r : Str) (lo hi : Option Q2) (n : Nat) : Bool := someB (sizE zs r lo hi n).1.1 (sizE zs r lo hi n).2.1 (sizE zs r lo hi n).1.2 (sizE zs r lo hi n).2.2
end My
namespace My
open PySem PySem.Spec PyProof.Rows L2
/-! ### lists of numbers -/
/-! ### the sizes that fit some feet -/
structure FitsL (H : Hp) (D : Addr) (ls : List (List Int)) : Prop where
  ob : ∃ ts : List V, H D = some (.lst ts) ∧ ts.length = ls.length ∧ ∀ (i : Nat) (v : V) (l : List Int), ts[i]? = some v → ls[i]? = some l → ∃ T, v = .ref T ∧ H T = some (.tup (l.map V.int))
theorem FitsL.same {H H' : Hp} {D : Addr} {ls : List (List Int)} (a : FitsL H D ls) (s : Same H H') : FitsL H' D ls := by
  obtain ⟨ts, h1, h2, h3⟩ := a.ob
  refine ⟨ts, s _ _ h1, h2, fun i v l e1 e2 => ?_⟩
  obtain ⟨T, e, h⟩ := h3 i v l e1 e2
  exact ⟨T, e, s _ _ h⟩
theorem FitsL.at {H : Hp} {D : Addr} {ls : List (List Int)} {ts : List V} (h2 : ts.length = ls.length) (h3 : ∀ (i : Nat) (v : V) (l : List Int), ts[i]? = some v → ls[i]? = some l → ∃ T, v = .ref T ∧ H T = some (.tup (l.map V.int))) {i : Nat} {l : List Int} (h : ls[i]? = some l) : ∃ T, ts[i]? = some (.ref T) ∧ H T = some (.tup (l.map V.int)) := by
  have hi : i < ts.length := by rw [h2]; exact (List.getElem?_eq_some_iff.mp h).1
  obtain ⟨T, e, k⟩ := h3 i _ l (List.getElem?_eq_getElem hi) h
  exact ⟨T, by rw [List.getElem?_eq_getElem hi, e], k⟩
/-- the first one of which there is none -/
def BareAt (ls : List (List Int)) : Option Nat → Prop
  | none => ∀ l ∈ ls, l ≠ []
  | some n => ls[n]? = some [] ∧ ∀ j l, j < n → ls[j]? = some l → l ≠ []
theorem BareAt.uniq {ls : List (List Int)} : ∀ {o o' : Option Nat}, BareAt ls o → BareAt ls o' → o = o'
  | none, none, _, _ => rfl
  | none, some n, h, g => absurd rfl (h _ (List.mem_of_getElem? g.1))
  | some n, none, h, g => absurd rfl (g _ (List.mem_of_getElem? h.1))
  | some n, some m, h, g => by
    rcases Nat.lt_trichotomy n m with q | q | q
    · exact absurd rfl (g.2 n _ q h.1)
    · rw [q]
    · exact absurd rfl (h.2 m _ q g.1)
def firstI (ls : List (List Int)) (a : Int) : Int := ((ls.getD a.toNat []).head?).getD 0
def lastI (ls : List (List Int)) (a : Int) : Int := ((ls.getD a.toNat []).getLast?).getD 0
/-- runs: none is bare, each begins no later than it ends -/
def RunsI (ls : List (List Int)) : Prop := ∀ i : Nat, i < ls.length → ls.getD i [] ≠ [] ∧ firstI ls i ≤ lastI ls i
structure GInv (ls : List (List Int)) (done : List (Int × Int)) (ss as : List Int) : Prop where
  len : ss.length = as.length
  hits : ∀ q ∈ done, ∃ s ∈ ss, firstI ls q.2 ≤ s ∧ s ≤ q.1
  own : ∀ (j : Nat) (s a : Int), ss[j]? = some s → as[j]? = some a → (s, a) ∈ done
  ap : ∀ (j j' : Nat) (s a : Int), j < j' → ss[j]? = some s → as[j']? = some a → s < firstI ls a
theorem GInv.nil {ls : List (List Int)} : GInv ls [] [] [] := ⟨rfl, fun q h => by simp at h, fun j s a h => by simp at h, fun j j' s a _ h => by simp at h⟩
/-- the pairs of last sizes and numbers -/
structure PairsOf (ls : List (List Int)) (ps : List (Int × Int)) : Prop where
  perm : ps.Perm ((List.range ls.length).map fun i : Nat => (lastI ls i, (i : Int)))
  srt : ∀ (i j : Nat) (p q : Int × Int), i < j → ps[i]? = some p → ps[j]? = some q → p.1 ≤ q.1
theorem PairsOf.mem {ls : List (List Int)} {ps : List (Int × Int)} (h : PairsOf ls ps) {q : Int × Int} : q ∈ ps ↔ ∃ i : Nat, i < ls.length ∧ q = (lastI ls i, (i : Int)) := by
  rw [h.perm.mem_iff, List.mem_map]
  constructor
  · rintro ⟨i, hi, e⟩; exact ⟨i, List.mem_range.mp hi, e.symm⟩
  · rintro ⟨i, hi, e⟩; exact ⟨i, List.mem_range.mpr hi, e.symm⟩
theorem GInv.rise {ls : List (List Int)} {ps : List (Int × Int)} {k : Nat} {ss as : List Int} (P : PairsOf ls ps) (R : RunsI ls) (g : GInv ls (ps.take k) ss as) : ∀ (j j' : Nat) (s s' : Int), j < j' → ss[j]? = some s → ss[j']? = some s' → s < s' := fun j j' s s' hj h h' => by
  have l := (List.getElem?_eq_some_iff.mp h').1
  obtain ⟨a', ha'⟩ := geI (zs := as) (n := j') (by rw [← g.len]; exact l)
  have h1 := g.ap j j' s a' hj h ha'
  have h2 := g.own j' s' a' h' ha'
  obtain ⟨i, hi, e⟩ := P.mem.mp (List.mem_of_mem_take h2)
  obtain ⟨rfl, rfl⟩ := Prod.mk.inj e
  have := (R i hi).2
  omega
theorem GInv.skip {ls : List (List Int)} {ps : List (Int × Int)} {k : Nat} {ss as : List Int} {b n s : Int} (P : PairsOf ls ps) (R : RunsI ls) (hk : ps[k]? = some (b, n)) (g : GInv ls (ps.take k) ss as) (hl : ss.getLast? = some s) (h : firstI ls n ≤ s) : GInv ls (ps.take (k + 1)) ss as := by
  have e : ps.take (k + 1) = ps.take k ++ [(b, n)] := by rw [List.take_add_one, hk]; rfl
  refine ⟨g.len, fun q hq => ?_, fun j s' a h1 h2 => ?_, g.ap⟩
  · rw [e] at hq
    rcases List.mem_append.mp hq with hq | hq
    · exact g.hits q hq
    · have : q = (b, n) := by simpa using hq
      subst this
      refine ⟨s, List.mem_of_getLast? hl, h, ?_⟩
      have l0 : 0 < ss.length := by cases ss with | nil => simp at hl | cons => simp
      have hs : ss[ss.length - 1]? = some s := by rw [← List.getLast?_eq_getElem?]; exact hl
      obtain ⟨a, ha⟩ := geI (zs := as) (n := ss.length - 1) (by rw [← g.len]; omega)
      have hm := g.own _ s a hs ha
      obtain ⟨i, hi⟩ := List.mem_iff_getElem?.mp hm
      have li := (List.getElem?_eq_some_iff.mp hi).1
      rw [List.length_take] at li
      rw [List.getElem?_take_of_lt (by omega)] at hi
      exact P.srt i k (s, a) (b, n) (by omega) hi hk
  · rw [e]
    exact List.mem_append.mpr (.inl (g.own j s' a h1 h2))
theorem GInv.take {ls : List (List Int)} {ps : List (Int × Int)} {k : Nat} {ss as : List Int} {b n : Int} (P : PairsOf ls ps) (R : RunsI ls) (hk : ps[k]? = some (b, n)) (g : GInv ls (ps.take k) ss as) (h : ∀ s, ss.getLast? = some s → s < firstI ls n) : GInv ls (ps.take (k + 1)) (ss ++ [b]) (as ++ [n]) := by
  have e : ps.take (k + 1) = ps.take k ++ [(b, n)] := by rw [List.take_add_one, hk]; rfl
  obtain ⟨i, hi, ei⟩ := P.mem.mp (List.mem_of_getElem? hk)
  obtain ⟨rfl, rfl⟩ := Prod.mk.inj ei
  refine ⟨by rw [List.length_append, List.length_append, g.len]; rfl, fun q hq => ?_, fun j s' a h1 h2 => ?_, fun j j' s' a hj h1 h2 => ?_⟩
  · rw [e] at hq
    rcases List.mem_append.mp hq with hq | hq
    · obtain ⟨s, hs, q1⟩ := g.hits q hq
      exact ⟨s, List.mem_append.mpr (.inl hs), q1⟩
    · have : q = (lastI ls (i : Int), (i : Int)) := by simpa using hq
      subst this
      exact ⟨lastI ls i, by simp, (R i hi).2, Int.le_refl _⟩
  · rw [e]
    by_cases hlt : j < ss.length
    · rw [List.getElem?_append_left hlt] at h1
      rw [List.getElem?_append_left (by rw [← g.len]; exact hlt)] at h2
      exact List.mem_append.mpr (.inl (g.own j s' a h1 h2))
    · have l1 := (List.getElem?_eq_some_iff.mp h1).1
      rw [List.length_append, List.length_singleton] at l1
      have ej : j = ss.length := by omega
      rw [ej, List.getElem?_append_right (Nat.le_refl _), Nat.sub_self] at h1
      rw [ej, g.len, List.getElem?_append_right (Nat.le_refl _), Nat.sub_self] at h2
      have h1 : lastI ls i = s' := by simpa using h1
      have h2 : (i : Int) = a := by simpa using h2
      rw [← h1, ← h2]
      simp
  · have l2 := (List.getElem?_eq_some_iff.mp h2).1
    rw [List.length_append, List.length_singleton, ← g.len] at l2
    have h1' : ss[j]? = some s' := by
      rw [List.getElem?_append_left (by omega)] at h1; exact h1
    by_cases hlt : j' < ss.length
    · rw [List.getElem?_append_left (by rw [← g.len]; exact hlt)] at h2
      exact g.ap j j' s' a hj h1' h2
    · have ej : j' = ss.length := by omega
      rw [ej, g.len, List.getElem?_append_right (Nat.le_refl _), Nat.sub_self] at h2
      have h2 : (i : Int) = a := by simpa using h2
      rw [← h2]
      have hs : ss[ss.length - 1]? = ss.getLast? := List.getLast?_eq_getElem?.symm
      obtain ⟨s, hs2⟩ := geI (zs := ss) (n := ss.length - 1) (by omega)
      have hlast := h s (by rw [← hs]; exact hs2)
      by_cases q : j = ss.length - 1
      · rw [q, hs2] at h1'
        cases h1'
        exact hlast
      · have := g.rise P R j (ss.length - 1) s' s (by omega) h1' hs2
        omega
/-! ### tuples of the heap: sums and slices -/
section
variable {X : Cx}
end
/-! ### fractions as rational numbers -/
def toR (z : Q2) : Rat := (z.1 : Rat) / (z.2 : Rat)
theorem posR {n : Int} (h : 0 < n) : (0 : Rat) < (n : Rat) := by
  have := Rat.intCast_lt_intCast.mpr h
  simpa using this
section
variable {a b z w x y : Q2}
theorem div_ltR {a b c d : Int} (hb : 0 < b) (hd : 0 < d) : ((a : Rat) / b < (c : Rat) / d) ↔ (a : Rat) * d < c * b := by
  have hb := posR hb
  have hd := posR hd
  constructor
  · intro h
    have e1 : (a : Rat) * d = (a / b) * (b * d) := by grind
    have e2 : (c : Rat) * b = (c / d) * (b * d) := by grind
    rw [e1, e2]
    exact Rat.mul_lt_mul_of_pos_right h (Rat.mul_pos hb hd)
  · intro h
    by_cases g : (c : Rat) / d ≤ (a : Rat) / b
    · have := Rat.mul_le_mul_of_nonneg_right g (Rat.le_of_lt (Rat.mul_pos hb hd))
      have e1 : (a : Rat) * d = (a / b) * (b * d) := by grind
      have e2 : (c : Rat) * b = (c / d) * (b * d) := by grind
      grind
    · grind
theorem ltq_R (ha : 0 < a.2) (hb : 0 < b.2) : ltq a b = true ↔ toR a < toR b := by
  unfold toR
  rw [div_ltR ha hb]
  unfold ltq
  rw [decide_eq_true_iff, ← Rat.intCast_mul, ← Rat.intCast_mul, Rat.intCast_lt_intCast]
theorem leq_R (ha : 0 < a.2) (hb : 0 < b.2) : leq a b = true ↔ toR a ≤ toR b := by
  rw [leq_not]
  cases e : ltq b a with
  | true =>
    have := (ltq_R hb ha).mp e
    constructor
    · intro h; simp at h
    · intro h; grind
  | false =>
    have : ¬ toR b < toR a := fun q => by rw [(ltq_R hb ha).mpr q] at e; cases e
    constructor
    · intro _; grind
    · intro _; rfl
theorem re_R (h : Re z w) : toR z = toR w := by
  obtain ⟨h1, h2, h3⟩ := h
  unfold toR
  have p1 := posR h1
  have p2 := posR h2
  have e : (z.1 : Rat) * (w.2 : Rat) = (w.1 : Rat) * (z.2 : Rat) := by rw [← Rat.intCast_mul, ← Rat.intCast_mul, h3]
  grind
theorem nn_R (ha : 0 < a.2) : 0 ≤ a.1 ↔ 0 ≤ toR a := by
  have p : 0 < ((0, 1) : Q2).2 := by decide
  have h := leq_R (a := (0, 1)) (b := a) p ha
  have e : toR (0, 1) = 0 := by unfold toR; grind
  rw [e] at h
  rw [← h, leq_not]
  unfold ltq
  simp
end
theorem Re.nn {z w : Q2} (r : Re z w) (h : 0 ≤ w.1) : 0 ≤ z.1 := by
  rw [nn_R r.1, re_R r]
  exact (nn_R r.2.1).mp h
section
variable {zs : List Q2} {a z x y e w : Q2} {i : Nat}
end
/-! ### lists of tuples of numbers as data -/
section
variable {X : Cx} {K : PySem.W.Frag}
end
theorem dpAll_of {α : Type} {K : PySem.W.Frag} {H : Hp} (f : α → PyData) : ∀ {ts : List V} {ls : List α}, ts.length = ls.length → (∀ (i : Nat) (v : V) (l : α), ts[i]? = some v → ls[i]? = some l → Dp K H v (f l)) → DpAll K H ts (ls.map f)
  | [], [], _, _ => .nil
  | [], _ :: _, h, _ => by simp at h
  | _ :: _, [], h, _ => by simp at h
  | t :: ts, l :: ls, h, g => .cons (g 0 t l rfl rfl) (dpAll_of f (by simpa using h) fun i v l' h1 h2 => g (i + 1) v l' (by simpa using h1) (by simpa using h2))
theorem FitsL.dp {K : PySem.W.Frag} {H : Hp} {D : Addr} {ls : List (List Int)} (a : FitsL H D ls) : Dp K H (.ref D) (.list (ls.map fun l => intsD l)) := by
  obtain ⟨ts, h1, h2, h3⟩ := a.ob
  refine .lst (SqL.of h1) (dpAll_of (fun l => intsD l) h2 fun i v l e1 e2 => ?_)
  obtain ⟨T, rfl, h⟩ := h3 i v l e1 e2
  exact dpT h
/-! ### a set of a tuple of numbers -/
/-! ### looked at ahead of a step (apply fails at once where exact, refine and show take seconds) -/
theorem eq_id {α : Sort _} {a b : α} (h : a = b) : a = b := h
theorem ile_id {a b : Int} (h : a ≤ b) : a ≤ b := h
theorem ilt_id {a b : Int} (h : a < b) : a < b := h
theorem nle_id {a b : Nat} (h : a ≤ b) : a ≤ b := h
theorem nlt_id {a b : Nat} (h : a < b) : a < b := h
section
variable {K : PySem.W.Frag} {C CM CL CG p h a L1 L2 : Addr} {H H' : Hp} {v : V} {k n : Nat} {z : Q2} {vs : List V} {zs ys : List Q2} {e : Option Q2} {r : Str} {lo hi : Option Q2} {o : Option HO} {x : HO} {P Q : Prop}
end
/-! ### what follows a statement, kept out of sight while it is read -/
/-! ### a comprehension over a list that draws, some left out -/
theorem AllTQ.nl {H H' : Hp} {k : Nat} {vs : List V} (m : AllTQ H k vs) (s : Nl H H') : AllTQ H' k vs := fun x hx => by
  obtain ⟨z, t⟩ := m x hx
  exact ⟨z, t.nl s⟩
theorem AllTQ.same {H H' : Hp} {k : Nat} {vs : List V} (m : AllTQ H k vs) (s : Same H H') : AllTQ H' k vs := m.nl (Nl.of s)
theorem AllTQ.mono {H : Hp} {k j : Nat} {vs : List V} (m : AllTQ H k vs) (l : k ≤ j) : AllTQ H j vs := fun x hx => by
  obtain ⟨z, t⟩ := m x hx
  exact ⟨z, t.mono l⟩
theorem Kp.up2 {h D : Addr} {H H1 : Hp} {u : HO} (k : Kp h H H1) (hD : H D = none) : Kp h H (upd H1 D u) := fun c o e n => by
  rw [upd_ne (ne_of_none e hD)]
  exact k c o e n
end My
namespace My
open PySem PySem.Spec PyProof.Rows L2
/-! ### the stretches of a ladder's sizes, held -/
theorem MAt.nl {C p : Addr} {H H' : Hp} {t u : Int} (a : MAt C H p t u) (s : Nl H H') : MAt C H' p t u := by
  obtain ⟨dx, h⟩ := a
  exact ⟨dx, s _ _ h rfl⟩
theorem MsV.nl {C : Addr} {H H' : Hp} {v : V} (s : Nl H H') : ∀ {e : Option Q2}, MsV C H v e → MsV C H' v e
  | none, h => h
  | some _, ⟨p, h1, h2⟩ => ⟨p, h1, h2.nl s⟩
theorem StAt.nl {CM CS p : Addr} {H H' : Hp} {lo hi : Option Q2} {li hj : Bool} (a : StAt CM CS H p lo hi li hj) (s : Nl H H') : StAt CM CS H' p lo hi li hj := by
  obtain ⟨⟨dx, l, h, h1, h2, h3⟩, a1, a2, a3, a4⟩ := a
  exact ⟨⟨dx, l, h, s _ _ h1 rfl, h2.nl s, h3.nl s⟩, a1, a2, a3, a4⟩
theorem StQ.nl {CM CS p : Addr} {H H' : Hp} {x y : Option Q2 × Bool} (a : StQ CM CS H p x y) (s : Nl H H') : StQ CM CS H' p x y := by
  obtain ⟨lo, hi, h1, h2, h3⟩ := a
  exact ⟨lo, hi, h1.nl s, h2, h3⟩
/-- the stretch of a size, or None -/
def RunV (CM CS : Addr) (H : Hp) (v : V) (zs : List Q2) (r : Str) (lo hi : Option Q2) (n : Nat) : Prop :=
  (sizB zs r lo hi n = true ∧ ∃ p, v = .ref p ∧ StQ CM CS H p (sizE zs r lo hi n).1 (sizE zs r lo hi n).2) ∨ (sizB zs r lo hi n = false ∧ v = .non)
section
variable {CM CS : Addr} {H H' : Hp} {v : V} {zs : List Q2} {r : Str} {lo hi : Option Q2} {n : Nat}
theorem RunV.same (a : RunV CM CS H v zs r lo hi n) (s : Same H H') : RunV CM CS H' v zs r lo hi n := by
  rcases a with ⟨h, p, e, q⟩ | h
  · exact .inl ⟨h, p, e, q.same s⟩
  · exact .inr h
theorem RunV.nl (a : RunV CM CS H v zs r lo hi n) (s : Nl H H') : RunV CM CS H' v zs r lo hi n := by
  rcases a with ⟨h, p, e, q⟩ | h
  · exact .inl ⟨h, p, e, q.nl s⟩
  · exact .inr h
end
section
variable {CM CS : Addr} {H : Hp} {p q : Addr} {x y x2 y2 : Option Q2 × Bool}
theorem StQ.raw (a : StQ CM CS H p x y) {m : Str} (h1 : ¬ m = "low") (h2 : ¬ m = "high") (h3 : ¬ m = "low_in") (h4 : ¬ m = "high_in") {R : Prop} (h : R) : ∃ a dx fs, V.ref p = .ref a ∧ H a = some (.ins CS dx fs) ∧ fs.lookup m = none ∧ R := by
  obtain ⟨lo, hi, s, _⟩ := a
  exact meth_s s h1 h2 h3 h4 h
/-- an end of so many bits -/
def SzE (k : Nat) : Option Q2 → Prop
  | none => True
  | some a => Sz k a.1 ∧ Sz k a.2
end
theorem SzE.mono {k j : Nat} (l : k ≤ j) : ∀ {o : Option Q2}, SzE k o → SzE j o
  | none, _ => trivial
  | some _, h => ⟨h.1.mono l, h.2.mono l⟩
def SzL (k : Nat) (zs : List Q2) : Prop := ∀ z ∈ zs, Sz k z.1 ∧ Sz k z.2
theorem SzL.get {k : Nat} {zs : List Q2} (h : SzL k zs) (i : Nat) : SzE k zs[i]? := by
  cases e : zs[i]? with
  | none => trivial
  | some a => exact h a (List.mem_of_getElem? e)
theorem SzL.end {k : Nat} {zs : List Q2} (h : SzL k zs) (i : Int) : SzE k (endQ zs i) := by
  unfold endQ
  split
  · exact h.get _
  · trivial
theorem LawL.szs {H : Hp} {p : Addr} {part : Int} {ms : List Int} {r : Str} {lo hi : Option Int} (a : LawL H p part ms r lo hi) : SzL 40 (zq (4 * part) ms) ∧ SzE 40 (oq (4 * part) lo) ∧ SzE 40 (oq (4 * part) hi) := by
  have p0 := a.p0
  have p1 := a.p1
  have sp : Sz 40 (4 * part) := by show (4 * part).natAbs < 2 ^ 40; omega
  have sz : ∀ z : Int, -4000040 ≤ z → z ≤ 4000040 → Sz 40 z := fun z h1 h2 => by show z.natAbs < 2 ^ 40; omega
  refine ⟨fun z hz => ?_, ?_, ?_⟩
  · obtain ⟨m, hm, rfl⟩ := List.mem_map.mp hz
    have := a.bnd m hm
    exact ⟨sz m (by omega) (by omega), sp⟩
  · cases lo with
    | none => trivial
    | some z => have := a.blo z rfl; exact ⟨sz z this.1 this.2, sp⟩
  · cases hi with
    | none => trivial
    | some z => have := a.bhi z rfl; exact ⟨sz z this.1 this.2, sp⟩
theorem LadAt.up {K : PySem.W.Frag} {CM CL : Addr} {H : Hp} {p : Addr} {k j : Nat} {zs : List Q2} {r : Str} {lo hi : Option Q2} (a : LadAt K CM CL H p k zs r lo hi) (l : k ≤ j) : LadAt K CM CL H p j zs r lo hi := a.mono l
/-! ### measures that a stretch holds -/
def GoodM (CM : Addr) (x y : Option Q2 × Bool) (H : Hp) (ys : List V) : Prop := ∀ v ∈ ys, ∃ q z, v = .ref q ∧ QAt CM H q 300 z ∧ (loIn x.1 x.2 z && hiIn y.1 y.2 z) = true
theorem GoodM.nl {CM : Addr} {x y : Option Q2 × Bool} {H H' : Hp} {ys : List V} (g : GoodM CM x y H ys) (s : Nl H H') : GoodM CM x y H' ys := fun v hv => by
  obtain ⟨q, z, e, a, h⟩ := g v hv
  exact ⟨q, z, e, a.nl s, h⟩
theorem GoodM.snoc {CM : Addr} {x y : Option Q2 × Bool} {H : Hp} {ys : List V} {q : Addr} {z : Q2} (g : GoodM CM x y H ys) (a : QAt CM H q 300 z) (h : (loIn x.1 x.2 z && hiIn y.1 y.2 z) = true) : GoodM CM x y H (ys ++ [.ref q]) := fun v hv => by
  rcases List.mem_append.mp hv with hv | hv
  · exact g v hv
  · have : v = .ref q := by simpa using hv
    exact ⟨q, z, this, a, h⟩
section
variable {a b : Q2} {i j : Bool} {yo xo : Option Q2}
end
end My
namespace My
open PySem PySem.Spec PyProof.Rows L2
/-! ### comprehensions within comprehensions: the readings of the inner ones are found ahead -/
section
variable {X : Cx}
end
end My
namespace My
open PySem PySem.Spec PyProof.Rows L2
theorem zLen {n : Nat} (h : n ≤ 16777216) : n ≤ sizeLine := by rw [sizeLine_eq]; exact h
/-! ### repr of a tuple that holds own objects -/
def leafD : PyData → Bool
  | .none => true
  | .bool _ => true
  | .int i => decide (i.natAbs.log2 < 1920)
  | .str s => true
  | _ => false
def leafS : PyData → Str
  | .none => "None"
  | .bool b => if b then "True" else "False"
  | .int i => toString i
  | .str s => reprText s
  | _ => ""
/-- what is asked of the values one by one -/
def tShow (K : PySem.W.Frag) (C : Addr) (sp : Sp) (E : XK) : List V → List Str → Hp → (List Str → Hp → Prop) → Prop
  | [], acc, H, Q => Q acc H
  | x :: xs, acc, H, Q => (∃ d, Dp K H x d ∧ leafD d = true ∧ (leafS d).length ≤ 10000 ∧ tShow K C sp E xs (acc ++ [leafS d]) H Q) ∨
      tOwn C sp E x H (fun v H2 => ∃ z : Str, v = .str z ∧ z.length ≤ 10000 ∧ tShow K C sp E xs (acc ++ [z]) H2 Q)
section
variable {X : Cx} {n : Nat} {CX : CXT} {C f : Addr} {fd : FuncData} {ps : List Str} {sp : Sp} {E : XK}
end
/-! ### == of tuples, item by item -/
section
open GQ
open AutoSeq1 (wpAny_loadPart')
variable {prog : Program} {w : World} {A : Around} {R : Result → Shared → Prop}
theorem tuple_eqB (l b : Addr) (items items2 : Array Value) (n n2 : Nat) (dd dd2 : Option Addr) (sl sl2 : Array (Option Value)) (bs : List Bool) (lb : bs.length = min items.size items2.size) (J : Shared → Prop)
    (turn : ∀ i (h1 : i < items.size) (h2 : i < items2.size) s, J s → wpAny (model prog w) A.in1 (eqBool items[i] items2[i]) (fun r s' => bs[i]? = some r ∧ J s') (fun e s' => R (.error e) s') s)
    (fin : ∀ s, J s → R (.ok (.ret (.bool (bs.all _root_.id && decide (items.size = items2.size))))) s) {s : Shared} (hl1 : s.heap.get? l = some { cls := .type "tuple", dict := dd, data := .seq items n, slots := sl }) (hb1 : s.heap.get? b = some { cls := .type "tuple", dict := dd2, data := .seq items2 n2, slots := sl2 }) (h : J s) :
    wpAny (model prog w) A.in1 (Builtin.«tuple.__eq__» ⟨[.ref l, .ref b], []⟩) (GQ.FinOf prog w A R) (fun e s' => R (.error e) s') s := by
  have f2 := AutoSeq1.sub_tuple_tuple
  have hZ : (items.toList.zip items2.toList).length = min items.size items2.size := by simp
  have h0 := h
  obtain ⟨hp, g, d, tk, os⟩ := s
  wp_walk using wpAny_loadPart' hl1, wpAny_loadPart' hb1, wpAny_forIn_list _ (fun rest b s' => b.1 = none ∧ ∃ i, rest = (items.toList.zip items2.toList).drop i ∧ i ≤ min items.size items2.size ∧ (bs.take i).all _root_.id = true ∧ J s') _
  case turn =>
    rintro ⟨y, x⟩ rest b s' ⟨hb', i, hz, hi, ht, hI⟩
    have hlt : i < (items.toList.zip items2.toList).length := by
      rcases Nat.lt_or_ge i (items.toList.zip items2.toList).length with h' | h'
      · exact h'
      · rw [List.drop_of_length_le h'] at hz; cases hz
    have h1 : i < items.size := by omega
    have h2 : i < items2.size := by omega
    rw [List.drop_eq_getElem_cons hlt] at hz
    injection hz with hyx hrest
    have hy : y = items[i] := by have := congrArg Prod.fst hyx; simpa using this
    have hx : x = items2[i] := by have := congrArg Prod.snd hyx; simpa using this
    subst hy hx
    refine wpAny_bind (wpAny_mono (turn i h1 h2 s' hI) (fun r s2 q2 => ?_) fun _ _ x => x)
    obtain ⟨hr, q2⟩ := q2
    cases r with
    | true =>
      wp_walk
      refine ⟨rfl, i + 1, hrest, by omega, ?_, q2⟩
      rw [List.take_add_one, hr, List.all_append, ht]
      rfl
    | false =>
      have hf : bs.all _root_.id = false := by
        rw [List.all_eq_false]
        exact ⟨false, List.mem_of_getElem? hr, by simp⟩
      have hR := fin s2 q2
      rw [hf, Bool.false_and] at hR
      wp_walk
      exact hR
  case fin =>
    rintro ⟨b1, b2⟩ s' ⟨hb', i, hz, hi, ht, hI⟩
    simp only at hb'
    subst hb'
    have hge : min items.size items2.size ≤ i := by
      rcases Nat.lt_or_ge i (items.toList.zip items2.toList).length with h' | h'
      · rw [List.drop_eq_getElem_cons h'] at hz; cases hz
      · exact hZ ▸ h'
    have hall : bs.all _root_.id = true := by rwa [List.take_of_length_le (by omega)] at ht
    have hR := fin s' hI
    rw [hall, Bool.true_and] at hR
    wp_walk
    have e : (items.size == items2.size) = decide (items.size = items2.size) := by rw [Bool.eq_iff_iff]; simp
    show R (.ok (.ret (.bool (items.size == items2.size)))) _
    rw [e]
    exact hR
  case h =>
    exact ⟨rfl, 0, rfl, Nat.zero_le _, rfl, h0⟩
end
section
variable {X : Cx} {n : Nat} {D : Eqb}
def DTupB (K : PySem.W.Frag) (D : Eqb) : Eqb := fun x y H b => ∃ (a c : Addr) (xs ys : List V) (bs : List Bool), x = .ref a ∧ y = .ref c ∧ SqT K H a xs ∧ SqT K H c ys ∧ bs.length = min xs.length ys.length ∧ (∀ (i : Nat) (p q : V) (b : Bool), xs[i]? = some p → ys[i]? = some q → bs[i]? = some b → D p q H b) ∧ b = (bs.all _root_.id && decide (xs.length = ys.length))
theorem rcB_tup (h : EqB X n D) : RcB X (n + 1) (DTupB X.K D) := by
  intro A pins s σ H x y u v b sb I rx ry d
  obtain ⟨a, c, xs, ys, bs, rfl, rfl, ha, hc, lb, hd, rfl⟩ := d
  cases rx
  cases ry
  obtain ⟨its, r, e, z⟩ := I.tuple ha
  obtain ⟨its2, r2, e2, z2⟩ := I.tuple hc
  have l1 := r.length
  have l2 := r2.length
  obtain ⟨⟨cls, dd, data, sl⟩, ho, hcl, m, hdt⟩ := id e
  obtain ⟨⟨cls2, dd2, data2, sl2⟩, ho2, hcl2, m2, hdt2⟩ := id e2
  simp only at hcl hdt hcl2 hdt2
  subst hcl hdt hcl2 hdt2
  refine wpAny_richCompare_same_room (op := .Eq) ⟨_, ho, rfl⟩ ⟨_, ho2, rfl⟩ PySem.F.slot_tuple_eq (GQ.call_here PySem.F.slot_tuple_eq ⟨_, ho, rfl⟩ PySem.F.entry_tuple_eq (PySem.F.args_tuple_eq_2 _ _) ?_) sb.room.units0
  refine tuple_eqB (R := wants (fun v s' => v ≠ .notImplemented ∧ (v = .bool (bs.all _root_.id && decide (xs.length = ys.length)) ∧ Inv X pins σ H s')) X.xe) a c its.toArray its2.toArray m m2 dd dd2 sl sl2 bs (by rw [List.size_toArray, List.size_toArray, ← l1, ← l2]; exact lb) (fun s' => Inv X pins σ H s') (fun i h1 h2 s' I' => ?_) (fun s' I' => ⟨(fun x => nomatch x), ?_, I'⟩) ho ho2 I
  · have k1 : i < xs.length := by rw [l1]; simpa using h1
    have k2 : i < ys.length := by rw [l2]; simpa using h2
    obtain ⟨u, hu, ru⟩ := r.get (List.getElem?_eq_getElem k1)
    obtain ⟨v, hv, rv⟩ := r2.get (List.getElem?_eq_getElem k2)
    have g1 : its[i]? = some its.toArray[i] := by
      have h1' : i < its.length := by simpa using h1
      rw [List.getElem?_eq_getElem h1'] <;> simp
    have g2 : its2[i]? = some its2.toArray[i] := by
      have h2' : i < its2.length := by simpa using h2
      rw [List.getElem?_eq_getElem h2'] <;> simp
    rw [g1] at hu
    rw [g2] at hv
    rw [Option.some.inj hu, Option.some.inj hv]
    have hb : bs[i]? = some bs[i] := List.getElem?_eq_getElem (by omega)
    refine thn (h A.in1 pins s' σ H _ _ u v bs[i] sb.in1 I' ru rv (hd i _ _ _ (List.getElem?_eq_getElem k1) (List.getElem?_eq_getElem k2) hb)) fun r0 s2 q => ?_
    obtain ⟨rfl, I2⟩ := q
    exact ⟨hb, I2⟩
  · rw [List.size_toArray, List.size_toArray, ← l1, ← l2]
end
/-! ### {x} of an own object, repr of one whose own def shows a tuple -/
section
variable {X : Cx} {n : Nat} {CX : CXT} {C f : Addr} {fd : FuncData} {ps : List Str} {sp : Sp} {E : XK}
end
end My
namespace My
open PySem PySem.Spec PyProof.Rows L2
/-! ### signs of texts; dicts beside own == -/
/-! ### own == within comprehensions: K by name -/
theorem op_neBK {X : Cx} {n : Nat} {CX : CXT} {C f : Addr} {fd : FuncData} {ps : List Str} {R : Eqb} {E : XK} {K : PySem.W.Frag} (F : FnOk X.prog X.w X.K X.mg X.base CX n f fd ps (spEqB R)) (hm : Meth X.K C "__eq__" f) (c : EqC X.K C) (hb : Binds X.K fd ps []) (hx : Passes CX X E) (hr : Room (n + 1) X.A) (hK : X.K = K := by rfl) :
    OpR X (compareOp .NotEq) (fun x y H Q => ∃ b, DOwn K C R x y H b ∧ Q (.bl (!b)) H) := by
  subst hK
  exact op_neB F hm c hb hx hr
end My
/-! ### own errors whose __init__ calls super().__init__(..): over any built-in base -/
namespace My
open PySem PySem.Spec PyProof.Rows L2 NdefX Builtin Builtin.ObjectAttr
/-- own classes, then T -/
def refsT (T : List Value) : List Value → Bool
  | .ref _ :: r => refsT T r
  | l => l == T
/-- what is asked of the built-in base -/
structure BaseX (B newId initId : String) (T : List Value) : Prop where
  F : ExcBaseFacts B newId initId T
  KF : PySem.W.KxsFacts B initId
  pass : ∀ self, refuseLoop self "__setattr__" T = pure ()
  ob : T.contains (.type "object") = true
  ne : T ≠ []
  nr : ∀ c r, T ≠ .ref c :: r
theorem refsT_cases {T : List Value} : ∀ l : List Value, refsT T l = true → (∃ c r, l = .ref c :: r ∧ refsT T r = true) ∨ l = T
  | [], e => .inr (beq_iff_eq.mp e)
  | .ref c :: r, e => .inl ⟨c, r, rfl, e⟩
  | .none :: _, e => .inr (beq_iff_eq.mp e)
  | .ellipsis :: _, e => .inr (beq_iff_eq.mp e)
  | .notImplemented :: _, e => .inr (beq_iff_eq.mp e)
  | .bool _ :: _, e => .inr (beq_iff_eq.mp e)
  | .int _ _ :: _, e => .inr (beq_iff_eq.mp e)
  | .float _ _ :: _, e => .inr (beq_iff_eq.mp e)
  | .str _ _ :: _, e => .inr (beq_iff_eq.mp e)
  | .bytes _ _ :: _, e => .inr (beq_iff_eq.mp e)
  | .type _ :: _, e => .inr (beq_iff_eq.mp e)
  | .builtin _ :: _, e => .inr (beq_iff_eq.mp e)
section
variable {B newId initId : String} {T : List Value} (bx : BaseX B newId initId T)
include bx
theorem BaseX.contains (X : String) : ∀ l : List Value, refsT T l = true → l.contains (.type X) = T.contains (.type X) := by
  intro l
  induction l with
  | nil => intro e; exact absurd (beq_iff_eq.mp e).symm bx.ne
  | cons a r ih =>
    intro e
    rcases refsT_cases (a :: r) e with ⟨c, r', q, h⟩ | q
    · obtain ⟨rfl, rfl⟩ := List.cons.inj q
      rw [List.contains_cons, ih h]; rfl
    · rw [q]
end
section
open PySem.HandSPX (store_in_new)
variable {prog : Program} {w : World} {A : Around} {E : Value → Shared → Prop} {R : Result → Shared → Prop} {hp : Heap} {g : Array GenState} {d : Drawn} {t : Nat} {os : OsState}
end
section
variable {Bn newId initId : String} {T : List Value} (bx : BaseX Bn newId initId T) {X : Cx} {pins : List (Addr × Obj)} {σ : L2.St} {H : Hp} {s : Shared} {a C dx : Addr} {f : Str} {y : V} {u : Value} {fs : List (Str × V)} {Q : Unit → Shared → Prop} {E : Value → Shared → Prop} {A : Around}
include bx
end
/-! ### super().__init__(..), then the fields -/
/-- an own __init__ as it stands behind the top: its closure one cell that holds its class; f its address, cc the cell, cda its code object, told by the file fl -/
structure SupD (K : PySem.W.Frag) (C : Addr) (name qual : Str) (params : Arguments) (body : List Stmt) (scope : Scope) (dvs : List V) (f cc cda : Addr) (fl : Str) (fd : FuncData) : Prop where
  ex : ∃ (oc : Value) (od : Option Addr) (dV kV doc pm : Value) (an : Option Addr) (ct : Value) (osl : Array (Option Value)),
    fd = PySem.W.fnX name qual params body scope [("__class__", cc)] dV kV doc pm an (.ref cda) ct ∧ K.lookup f = some ⟨oc, od, .func fd, osl⟩ ∧ DflV K dV dvs ∧ KwdV K kV []
  cell : ∃ (c0 : Value) (d0 : Option Addr) (s0 : Array (Option Value)), K.lookup cc = some ⟨c0, d0, .cell (some (.ref C)), s0⟩
  code : ∃ (c0 : Value) (d0 : Option Addr) (vs : Array Value) (s0 : Array (Option Value)) (tf : Tok), K.lookup cda = some ⟨c0, d0, .fields vs, s0⟩ ∧ vs[2]? = some (.str fl tf)
  cin : PySem.W.codeIn K (.ref cda) qual = true
  kp : PySem.W.keepIn K (.ref f) = true
section
variable {Bn newId initId : String} {T : List Value} (bx : BaseX Bn newId initId T) {X : Cx} {pins : List (Addr × Obj)} {σ : L2.St} {H : Hp} {s : Shared} {e C : Addr} {Q : Value → Shared → Prop}
include bx
end
/-- what is pinned besides -/
theorem pin_more {X : Cx} {pins : List (Addr × Obj)} {σ : L2.St} {H : Hp} {s : Shared} {u : Addr} {o : Obj} (I : Inv X pins σ H s) (hg : s.heap.get? u = some o) (hH : H u = none) (hl : u ≠ X.env.locals) (hf : u ∉ X.fs) (hc : ∀ v, o.data ≠ .cell v) : Inv X ((u, o) :: pins) σ H s := by
  refine ⟨I.ok, I.os, I.bare, I.base, I.loc, I.cell, I.free, I.freeC, fun p hp => ?_, I.hok, I.len⟩
  rcases List.mem_append.mp hp with h | h
  · exact I.pin p (List.mem_append_left _ h)
  · rcases List.mem_cons.mp h with rfl | h
    · exact ⟨hg, hH, hl, hf, hc⟩
    · exact I.pin p (List.mem_append_right _ h)
theorem unpin {X : Cx} {pins : List (Addr × Obj)} {σ : L2.St} {H : Hp} {s : Shared} {q : Addr × Obj} (I : Inv X (q :: pins) σ H s) : Inv X pins σ H s := by
  refine ⟨I.ok, I.os, I.bare, I.base, I.loc, I.cell, I.free, I.freeC, fun p hp => ?_, I.hok, I.len⟩
  rcases List.mem_append.mp hp with h | h
  · exact I.pin p (List.mem_append_left _ h)
  · exact I.pin p (List.mem_append_right _ (List.mem_cons_of_mem _ h))
section
variable {Bn newId initId : String} {T : List Value} (bx : BaseX Bn newId initId T) {X : Cx} {pins : List (Addr × Obj)} {σ : L2.St} {H : Hp} {s : Shared} {a C cc cda f : Addr}
include bx
end
section
variable {Bn newId initId : String} {T : List Value} (bx : BaseX Bn newId initId T) {CX : CXT} {P : Program} {w : World} {K : PySem.W.Frag} {mg : Str → Option Value} {base : Heap} {k : Nat} {C : Addr}
include bx
end
end My
/-! ### errors with fields: made, caught, kept -/
namespace My
open PySem PySem.Spec PyProof.Rows L2 NdefX
/-! #### what the top has written of them -/
/-! #### the head with such __init__ -/
theorem SupD.bindsA {K : PySem.W.Frag} {C : Addr} {name qual : Str} {params : Arguments} {body : List Stmt} {scope : Scope} {f cc cda : Addr} {fl : Str} {fd : FuncData} {ps : List Str} (D : SupD K C name qual params body scope [] f cc cda fl fd)
    (h : ∀ (kV doc pm : Value) (an : Option Addr) (ct : Value) (us : List Value), us.length = ps.length → bindArgs (PySem.W.fnX name qual params body scope [("__class__", cc)] .none kV doc pm an (.ref cda) ct) ⟨us, []⟩ = pure (ps.zip us)) : Binds K fd ps [] := by
  obtain ⟨oc, od, dV, kV, doc, pm, an, ct, osl, rfl, lk, hD, hK⟩ := D.ex
  rcases hD with ⟨_, rfl⟩ | ⟨e, _⟩
  · exact .all (h kV doc pm an ct)
  · exact absurd rfl e
/-! #### self.f = e -/
/-! #### C(e, ..) -/
section
variable {Bn newId initId : String} {T : List Value} {X : Cx} {e : Expr} {es : List Expr} {ta : TA} {p pos : Pos} {CX : CXT} {x : Str} {C fI : Addr} {k : Nat} {fd : FuncData} {ps : List Str} {ds : List Value} {dvs : List V} {f g : Str}
end
/-! #### an error that was caught and is kept -/
/-- at a: an error of the class cls, its dict d -/
def errO (cls : Value) (d : Option Addr) (a : Addr) : HO := .ext fun h => ∃ (oe : Obj) (vs : Array Value), h.get? a = some oe ∧ Zc cls d oe ∧ oe.data = .fields vs
theorem errO_ok {P : Program} {w : World} {H : Hp} {h : Heap} {a : Addr} {cls : Value} {d : Option Addr} {oe : Obj} {vs : Array Value} (e : h.get? a = some oe) (z : Zc cls d oe) (hd : oe.data = .fields vs) : ObjOk P w H h a (errO cls d a) :=
  ⟨⟨oe, vs, e, z, hd⟩, ⟨oe, e⟩, fun _ _ ⟨o, v, q, r⟩ k => ⟨o, v, k o q, r⟩⟩
theorem errO_at {P : Program} {w : World} {H : Hp} {h : Heap} {a : Addr} {cls : Value} {d : Option Addr} (hok : HOk P w H h) (he : H a = some (errO cls d a)) : ∃ (oe : Obj) (vs : Array Value), h.get? a = some oe ∧ Zc cls d oe ∧ oe.data = .fields vs := by
  obtain ⟨z, _, _⟩ := hok a _ he
  exact z
theorem Inv.err {X : Cx} {pins : List (Addr × Obj)} {σ τ : L2.St} {H G : Hp} {s sJ : Shared} {q : Addr} {cls : Value} {d : Option Addr} {oe : Obj} {vs : Array Value} (I : Inv X pins σ H s) (J : Inv X pins τ G sJ) (hx : X.ex = []) (nq : G q = none) (nJ : sJ.heap.get? q = none)
    (hq : s.heap.get? q = some oe) (z : Zc cls d oe) (hd : oe.data = .fields vs) (nH : H q = none) : Inv X pins σ (upd H q (errO cls d q)) s := by
  have neJ : ∀ {b : Addr} {o : Obj}, sJ.heap.get? b = some o → b ≠ q := fun {b o} e z => by
    rw [z, nJ] at e; cases e
  have neG : ∀ {b : Addr} {o : HO}, G b = some o → b ≠ q := fun {b o} e z => by
    rw [z, nq] at e; cases e
  refine ⟨I.ok, I.os, I.bare, ⟨I.base.keep, I.base.slot, fun b o e n hb => ?_, I.base.there, fun b xs e => ?_, fun b o u e => ?_, fun b ps e => ?_⟩, I.loc, I.cell, ?_, fun y c e => ?_, fun p hp => ?_, ?_, I.len⟩
  · obtain ⟨o', e'⟩ := J.base.there b o e (by rw [hx]; exact fun z => nomatch z)
    rw [upd_ne (neJ e')]
    exact I.base.free b o e n hb
  · rw [upd_ne (neG (J.base.tups b xs e))]
    exact I.base.tups b xs e
  · rw [upd_ne (neG (J.base.frzs b o u e))]
    exact I.base.frzs b o u e
  · obtain ⟨m, e'⟩ := J.base.tbls b ps e
    obtain ⟨m2, e2⟩ := I.base.tbls b ps e
    exact ⟨m2, by rw [upd_ne (neG e')]; exact e2⟩
  · obtain ⟨m, ⟨o, es, ep, ho, _⟩, _⟩ := J.loc
    rw [upd_ne (neJ ho)]
    exact I.free
  · obtain ⟨v, o, ho, _⟩ := J.cell y c e
    rw [upd_ne (neJ ho)]
    exact I.freeC y c e
  · obtain ⟨e, n, r⟩ := I.pin p hp
    exact ⟨e, by rw [upd_ne (neJ (J.pin p hp).1)]; exact n, r⟩
  · exact I.hok.laidN (fun _ _ e => e) nH (errO_ok hq z hd)
/-- behind a suite: the name is gone, the error is known -/
def endsK (i : Nat) (q : Addr) (cls : Value) (d : Option Addr) (D : Ends) : Ends where
  nx := fun τ G => G q = none → D.nx (τ.set i none) (upd G q (errO cls d q))
  rt := fun v G => G q = none → D.rt v (upd G q (errO cls d q))
  bk := fun τ G => G q = none → D.bk (τ.set i none) (upd G q (errO cls d q))
  ct := fun τ G => G q = none → D.ct (τ.set i none) (upd G q (errO cls d q))
def wK (K : PySem.W.Frag) (i : Nat) (D : Ends) : List (Bool × Value × (Addr → Value → Option Addr → TS)) → WX
  | [] => fun _ _ _ _ => False
  | (true, c, ts) :: r => fun cls d τ G => ∃ b, PySem.W.exmOne K cls c = some b ∧ (b = true → ∀ q, G q = none → ts q cls d (endsK i q cls d D) (τ.set i (some (.ref q))) G) ∧ (b = false → wK K i D r cls d τ G)
  | (false, c, ts) :: r => fun cls d τ G => ∃ b, PySem.W.exmOne K cls c = some b ∧ (b = true → ∀ q, G q = none → ts q cls d D τ G) ∧ (b = false → wK K i D r cls d τ G)
/-- clauses, with the error's name or without -/
inductive KClauses (X : Cx) (n : Str) : List ExceptHandler → List (Bool × Value × (Addr → Value → Option Addr → TS)) → Prop
  | none : KClauses X n [] []
  | named {x : Str} {c : Value} {ts : Addr → Value → Option Addr → TS} {b : Stmt} {bs : List Stmt} {px ph : Pos} {hs : List ExceptHandler} {l : List (Bool × Value × (Addr → Value → Option Addr → TS))} (nm : Names X x c)
      (su : ∀ (q : Addr) (oq : Obj) (cls : Value) (d : Option Addr) (pn : List (Addr × Obj)), Zc cls d oq → (∃ vs, oq.data = .fields vs) → PSs (X.suite q ((q, oq) :: pn)) (b :: bs) (ts q cls d)) (r : KClauses X n hs l) :
      KClauses X n (.ExceptHandler (some (.Name x px)) (some n) (b :: bs) ph :: hs) ((true, c, ts) :: l)
  | bare {x : Str} {c : Value} {ts : Addr → Value → Option Addr → TS} {b : Stmt} {bs : List Stmt} {px ph : Pos} {hs : List ExceptHandler} {l : List (Bool × Value × (Addr → Value → Option Addr → TS))} (nm : Names X x c)
      (su : ∀ (q : Addr) (oq : Obj) (cls : Value) (d : Option Addr) (pn : List (Addr × Obj)), Zc cls d oq → (∃ vs, oq.data = .fields vs) → PSs (X.suite q ((q, oq) :: pn)) (b :: bs) (ts q cls d)) (r : KClauses X n hs l) :
      KClauses X n (.ExceptHandler (some (.Name x px)) Option.none (b :: bs) ph :: hs) ((false, c, ts) :: l)
theorem ps_tryK {X : Cx} {n : Str} {i : Nat} {body : List Stmt} {h0 : ExceptHandler} {hs : List ExceptHandler} {l : List (Bool × Value × (Addr → Value → Option Addr → TS))} {pos : Pos} {tb : WX → TS}
    (stk : X.stack = X.env :: X.outer) (frm : X.env.frame = some X.env.locals) (nd : X.N.Nodup) (at_ : X.N[i]? = some n) (loc : X.env.kindOf n = some .local) (hex : X.ex = [])
    (bd : ∀ (W : WX) (pn : List (Addr × Obj)) (xe : Value → Shared → Prop), Takes (X.tr pn xe) W → PassesOwn (model X.prog X.w) X.A X.env xe → PSs (X.tr pn xe) body (tb W)) (cl : KClauses X n (h0 :: hs) l) :
    PS X (.Try body (h0 :: hs) [] [] pos) (fun D σ H => tb (wK X.K i D l) D σ H) := by
  refine ⟨fun pz s σ H D I hw => ?_⟩
  have okX := I.ok
  have frs_ : X.A.frames = some (X.env :: X.outer) := by rw [okX.frames, stk]
  have lc : Loc X.env.scope n := .inl loc
  refine wpAny_Try_except (wpAny_mono ((bd (wK X.K i D l) (X.pn ++ pz) (fun e z => wpAny (model X.prog X.w) X.A (noteFrame e X.env) (fun _ z2 => wpAny (model X.prog X.w) X.A (setFlight e none)
    (fun _ z3 => wpAny (model X.prog X.w) X.A (handleBy e X.env (h0 :: hs)) (SP X pz D) X.xe z3) X.xe z2) X.xe z) (fun u z xx => ?_) PassesOwn.looking).run [] s σ H D (I.toTry _) hw) (fun fl z q => ?_) fun _ _ z => z)
  · obtain ⟨q, G0, sJ, pz', τ, G, cls, d, rfl, J', nb, up, sky, nq, os, ag, w⟩ := xx
    have J : Inv X pz τ G sJ := J'.ofTry okX
    have sk2 : Sky G0 (X.env :: X.outer) q (Zc cls d) X.env.locals z.heap := stk ▸ sky
    refine Sky.land Zc.steady frs_ frm sk2 fun g3 f3 u3 => ?_
    have J3 : Inv X pz τ G { z with heap := g3 } := J.landed nb f3.1 (up.trans u3) os ag
    obtain ⟨o3, v3, e3, z3, d3⟩ := f3.there
    have out : q ∉ frs (X.env :: X.outer) := fun hm => by
      obtain ⟨_, o', e', no⟩ := f3.2.2.1.mem hm
      rw [e3] at e'; cases e'; exact no _ d3
    have nJ : sJ.heap.get? q = none := by
      cases e : sJ.heap.get? q with
      | none => rfl
      | some o =>
        have y := nb q o e (by rw [stk]; exact out)
        rw [f3.2.1] at y
        cases y
    have nL : q ≠ X.env.locals := fun e => out (List.mem_filterMap.mpr ⟨X.env, List.mem_cons_self, by rw [frm, e]⟩)
    have nF : q ∉ X.fs := fun hm => by
      obtain ⟨e, he, e2⟩ := List.mem_filterMap.mp hm; exact out (List.mem_filterMap.mpr ⟨e, List.mem_cons_of_mem _ he, e2⟩)
    have S3 := J3.suite e3 d3 nq nL nF
    have LT : PySem.W.Looks (model X.prog X.w) g3 (typeOf (.ref q)) cls := fun _ _ _ _ k r => wpAny_typeOf_ref (k _ _ e3) (by rw [z3.1]; exact r)
    have go : ∀ {hs2 : List ExceptHandler} {l2 : List (Bool × Value × (Addr → Value → Option Addr → TS))}, KClauses X n hs2 l2 → wK X.K i D l2 cls d τ G → wpAny (model X.prog X.w) X.A (handleBy (.ref q) X.env hs2) (SP X pz D) X.xe { z with heap := g3 } := by
      intro hs2 l2 ck
      induction ck with
      | none => exact fun w => w.elim
      | @named x c ts b bs px ph hs3 l3 nm su r ih =>
        rintro ⟨ans, ea, yes, no⟩
        refine wpAny_handleBy_cons (codeAny_handlers_test ?_) (fun k => nomatch k)
        have LM := PySem.W.exm_one (M := model X.prog X.w) J3.kIn LT ea
        have nameIs : ∀ {R F : Value → Shared → Prop}, R c { z with heap := g3 } → wpAny (model X.prog X.w) (X.A.mark (some (.ref q))) (eval (.Name x px) X.env) R F { z with heap := g3 } := fun {R F} k => by
          obtain ⟨gl, db, m1 | ⟨m1, m2, m3⟩⟩ := nm
          · exact ld_glob (X := X.suite q ((q, o3) :: (X.pn ++ pz))) S3 gl m1 k db
          · exact ld_blt (X := X.suite q ((q, o3) :: (X.pn ++ pz))) S3 gl m1 m2 k m3 db
        refine nameIs (LM.here ?_)
        cases ans with
        | false => exact ih (no rfl)
        | true =>
          refine codeAny_handlers_suite_as (HandSPX.lands_againZ f3 fun g4 f4 u4 => ?_)
          have J4 : Inv X pz τ G { z with heap := g4 } := J.landed nb f4.1 ((up.trans u3).trans u4) os ag
          obtain ⟨o4, v4, e4, z4, d4⟩ := f4.there
          refine store_ok (X := X.suite q ((q, o4) :: (X.pn ++ pz))) (v := .ref q) (J4.suite e4 d4 nq nL nF) nd at_ lc rfl (fun s5 S5 => ?_) (.inr loc)
          refine wpAny_mono ((su q o4 cls d (X.pn ++ pz) z4 ⟨_, d4⟩).run [] s5 _ G _ S5 (yes rfl q nq)) (fun fl s6 k => ?_) fun _ _ k => k.elim
          have bye : ∀ {τ6 : L2.St} {G6 : Hp} {R : Shared → Prop}, Inv (X.suite q ((q, o4) :: (X.pn ++ pz))) [] τ6 G6 s6 → (G6 q = none → ∀ s7, Inv X pz (τ6.set i none) (upd G6 q (errO cls d q)) s7 → R s7) →
              wpAny (model X.prog X.w) X.A (do bindName X.env n .none; unbindBehindTheSuite X.env n ph) (fun _ s7 => R s7) X.xe s6 := fun {τ6 G6 R} S6 k => by
            obtain ⟨y1, y2, y3, y4, y5⟩ := S6.pin (q, o4) (List.mem_append_left _ List.mem_cons_self)
            refine gone_ok (pin_more (S6.unsuite okX) y1 y2 y3 y4 y5) nd at_ loc fun s7 J7 => k y2 s7 ?_
            obtain ⟨w1, w2, _⟩ := J7.pin (q, o4) (List.mem_append_right _ List.mem_cons_self)
            exact Inv.err (unpin J7) J hex nq nJ w1 z4 d4 w2
          cases fl with
          | next => obtain ⟨_, _, S6, k⟩ := k; exact bye S6 fun y s7 J7 => ⟨_, _, J7, k y⟩
          | brk => obtain ⟨_, _, S6, k⟩ := k; exact bye S6 fun y s7 J7 => ⟨_, _, J7, k y⟩
          | cont => obtain ⟨_, _, S6, k⟩ := k; exact bye S6 fun y s7 J7 => ⟨_, _, J7, k y⟩
          | ret u => obtain ⟨_, _, _, S6, r6, k⟩ := k; exact bye S6 fun y s7 J7 => ⟨_, _, _, J7, r6, k y⟩
      | @bare x c ts b bs px ph hs3 l3 nm su r ih =>
        rintro ⟨ans, ea, yes, no⟩
        refine wpAny_handleBy_cons (codeAny_handlers_test ?_) (fun k => nomatch k)
        have LM := PySem.W.exm_one (M := model X.prog X.w) J3.kIn LT ea
        have nameIs : ∀ {R F : Value → Shared → Prop}, R c { z with heap := g3 } → wpAny (model X.prog X.w) (X.A.mark (some (.ref q))) (eval (.Name x px) X.env) R F { z with heap := g3 } := fun {R F} k => by
          obtain ⟨gl, db, m1 | ⟨m1, m2, m3⟩⟩ := nm
          · exact ld_glob (X := X.suite q ((q, o3) :: (X.pn ++ pz))) S3 gl m1 k db
          · exact ld_blt (X := X.suite q ((q, o3) :: (X.pn ++ pz))) S3 gl m1 m2 k m3 db
        refine nameIs (LM.here ?_)
        cases ans with
        | false => exact ih (no rfl)
        | true =>
          refine codeAny_handlers_suite ?_
          refine HandSPX.lands_againZ f3 fun g4 f4 u4 => ?_
          have J4 : Inv X pz τ G { z with heap := g4 } := J.landed nb f4.1 ((up.trans u3).trans u4) os ag
          obtain ⟨o4, v4, e4, z4, d4⟩ := f4.there
          refine wpAny_mono ((su q o4 cls d (X.pn ++ pz) z4 ⟨_, d4⟩).run [] _ _ G _ (J4.suite e4 d4 nq nL nF) (yes rfl q nq)) (fun fl s6 k => ?_) fun _ _ k => k.elim
          cases fl with
          | next => obtain ⟨_, _, S6, k⟩ := k; exact ⟨_, _, S6.unsuite okX, k⟩
          | brk => obtain ⟨_, _, S6, k⟩ := k; exact ⟨_, _, S6.unsuite okX, k⟩
          | cont => obtain ⟨_, _, S6, k⟩ := k; exact ⟨_, _, S6.unsuite okX, k⟩
          | ret u => obtain ⟨_, _, _, S6, r6, k⟩ := k; exact ⟨_, _, _, S6.unsuite okX, r6, k⟩
    exact go cl w
  · cases fl with
    | next => obtain ⟨_, _, J', k⟩ := q; exact wpAny_execs_nil ⟨_, _, J'.ofTry okX, k⟩
    | brk => obtain ⟨_, _, J', k⟩ := q; exact ⟨_, _, J'.ofTry okX, k⟩
    | cont => obtain ⟨_, _, J', k⟩ := q; exact ⟨_, _, J'.ofTry okX, k⟩
    | ret u => obtain ⟨_, _, _, J', r, k⟩ := q; exact ⟨_, _, _, J'.ofTry okX, r, k⟩
/-! #### what is asked of a kept error -/
end My
namespace PySem.W
open PySem PySem.Spec PySem.Calls PyProof.Rows
section
variable {prog : Program} {w : World} {A : Around} {E : Value → Shared → Prop} {s : Shared} {K : Frag} {x D : Addr} {ox : Obj} {od : Option Obj}
theorem findObj_dataG {C : Addr} {name : Str} {a g : Value} (hc : (clsIn K C).isSome = true) (ha : findIn K (.ref C) name = some (some a)) (hg : specialIn K a "__get__" = some (some g)) (ht : takesIn K a = some true) : findObj K C od name = some (.bind g a) := by
  obtain ⟨cd, hc⟩ := Option.isSome_iff_exists.mp hc
  unfold findObj
  rw [hc, Option.bind_some, ha, Option.bind_some]
  simp [hg, ht]
theorem kin_classG {Q : Option Value → Shared → Prop} (hga : findIn K (.ref D) "__getattribute__" = some (some (.builtin "BaseException.__getattribute__"))) (hgt : findIn K (.ref D) "__getattr__" = some none) (hsub : subIn K (.ref D) (.type "BaseException") = some true)
    (hdct : hasDictIn K D = true) (ha : findIn K (.ref D) "__class__" = some (some (.builtin "object.__class__")))
    (hn : specialIn K (.builtin "object.__class__") "__get__" = some (some (.builtin "getset_descriptor.__get__"))) (htk : takesIn K (.builtin "object.__class__") = some true) (hm : mroIn K D (.type "object") = some true)
    (X : K.In s.heap) (I : InstAt s.heap x ox D od) (h : Q (some (.ref D)) { s with toks := s.toks + 1 }) : wpAny (model prog w) A (getAttr? (.ref x) "__class__") Q E s := by
  have hf : findObj K D od "__class__" = some (.bind (.builtin "getset_descriptor.__get__") (.builtin "object.__class__")) := findObj_dataG (by obtain ⟨cd, hc, _⟩ := any_some hdct; rw [hc]; rfl) ha hn htk
  obtain ⟨hp, g, d, t, os⟩ := s
  have L0 := I.type (M := model prog w)
  have L1 := looks_findIn (M := model prog w) X hga
  have L2 := looks_findIn (M := model prog w) X hgt
  have L3 := looks_find (M := model prog w) X I hf
  have sub : Looks (model prog w) hp (isInstance (.ref x) (.type "BaseException")) true := L0.andThen (looks_subIn X hsub)
  have hx0 : (false && onTheHeap (Value.builtin "BaseException.__getattribute__")) = false := rfl
  have hx2 : (Value.builtin "BaseException.__getattribute__" == Value.builtin "object.__getattribute__") = false := by decide +kernel
  have hx1 : (onTheHeap (Value.ref D) && Value.builtin "BaseException.__getattribute__" == Value.builtin "object.__getattribute__") = false := by rw [hx2]; rfl
  unfold getAttr? getAttrBy? getAttrBy
  refine wpAny_bind (wpAny_mkText (wpAny_bind (wpAny_attempt (wpAny_holding (wpAny_bind (L0.at (wpAny_bind (L1.at ?_))))))))
  show wpAny _ _ (if (onTheHeap (Value.ref D) && Value.builtin "BaseException.__getattribute__" == Value.builtin "object.__getattribute__") = true then _ else _) _ _ _
  rw [hx1, if_neg Bool.false_ne_true]
  unfold getAttrByItsOwn hookBefore
  refine wpAny_bind ?_
  rw [if_pos (show onTheHeap (Value.ref D) = true from rfl)]
  refine L2.at ?_
  refine wpAny_bind (wpAny_attempt (wpAny_holding ?_))
  unfold callGetattribute
  rw [hx0, if_neg Bool.false_ne_true]
  unfold boundAndCalled
  rw [PySem.F.excAttr_ValueError.ga.bind (.ref x)]
  refine wpAny_bind (wpAny_pure ?_)
  show wpAny _ _ (call (.builtin "BaseException.__getattribute__") [.ref x, .str "__class__" t]) _ _ _
  refine wpAny_call (codeAny_call_builtin PySem.F.excAttr_ValueError.ga.plain PySem.F.entry_bexc_ga ?_)
  refine @check_slot (model prog w) _ _ ⟨hp, g, d, t + 1, os⟩ "BaseException.__getattribute__" "BaseException" "__getattribute__" (.ref x) [.str "__class__" t] [] _ (by decide +kernel) (by decide +kernel) sub (PySem.F.args_bexc_ga (.ref x) (.str "__class__" t)) ?_
  unfold Builtin.«object.__getattribute__»
  refine wpAny_bind (wpAny_of_eq (a := ((Value.ref x : Value), [Value.str "__class__" t])) (by first | rfl | (simp only [slotArgs]; rfl)) ?_)
  refine wpAny_bind (wpAny_pure (wpAny_bind (L0.at (wpAny_bind (L3.at ?_)))))
  show wpAny _ _ (holding [Value.builtin "object.__class__"] (call (.builtin "getset_descriptor.__get__") [.builtin "object.__class__", .ref x, .ref D]) >>= ret) _ _ _
  refine wpAny_bind (wpAny_holding (wpAny_call (class_get (s := ⟨hp, g, d, t + 1, os⟩) (ox := ox) (od := od) X I hm ?_)))
  refine wpAny_pure ?_
  show wpAny _ _ (handedOut (.ref D)) _ _ _
  rw [handedOut_of (v := .ref D) rfl]
  first
    | exact wpAny_pure (wpAny_pure h)
    | exact wpAny_pure h
    | exact wpAny_pure (wpAny_bind (wpAny_pure (wpAny_pure h)))
theorem kitx_err (hga : findIn K (.ref D) "__getattribute__" = some (some (.builtin "BaseException.__getattribute__"))) (hgt : findIn K (.ref D) "__getattr__" = some none) (hsub : subIn K (.ref D) (.type "BaseException") = some true) (hdct : hasDictIn K D = true) (ha : findIn K (.ref D) "__class__" = some (some (.builtin "object.__class__")))
    (hn : specialIn K (.builtin "object.__class__") "__get__" = some (some (.builtin "getset_descriptor.__get__"))) (htk : takesIn K (.builtin "object.__class__") = some true) (hm : mroIn K D (.type "object") = some true) :
    KitX K (.ref x) (.ref D) (fun h => InstAt h x ox D od) where
  ty := fun _ _ _ I => I.type
  it := fun _ _ X _ => by
    obtain ⟨cdD, hcD, _⟩ := any_some hdct
    unfold clsIn at hcD
    split at hcD
    · rename_i c' d' cd' sl' ho
      intro A' Q' E' s' k q
      unfold isType loadHead
      exact wpAny_bind (wpAny_loadPart (k _ _ (X _ _ ho)) (wpAny_pure q))
    · cases hcD
  ne := fun h tp dd its n sl X htp => by
    obtain ⟨cdD, hcD, _⟩ := any_some hdct
    refine Bool.eq_false_iff.mpr fun q => ?_
    have e : D = tp := Value.ref.inj (beq_iff_eq.mp q)
    subst e
    unfold clsIn at hcD
    split at hcD
    · rename_i c' d' cd' sl' ho
      have z := (X _ _ ho).symm.trans htp
      cases z
    · cases hcD
  ca := fun X I k => kin_classG hga hgt hsub hdct ha hn htk hm X I k
end
end PySem.W
namespace My
open PySem PySem.Spec PyProof.Rows L2 NdefX
/-- a kept error -/
def ErrAt (K : PySem.W.Frag) (H : Hp) (a D : Addr) : Prop := ExcC K D ∧ (H a = some (errO (.ref D) none a) ∨ ∃ dd fs, H a = some (errO (.ref D) (some dd) a) ∧ H dd = some (.xd fs))
theorem ErrAt.inst {P : Program} {w : World} {K : PySem.W.Frag} {H : Hp} {h : Heap} {a D : Addr} (hok : HOk P w H h) (e : ErrAt K H a D) : ∃ oe od, PySem.W.InstAt h a oe D od := by
  rcases e.2 with e | ⟨dd, fs, e, ed⟩
  · obtain ⟨oe, vs, ha, hz, hd⟩ := errO_at hok e
    exact ⟨oe, none, ha, hz.1, by unfold PySem.W.notCls; rw [hd] <;> rfl, by rw [hz.2]; trivial⟩
  · obtain ⟨oe, vs, ha, hz, hd⟩ := errO_at hok e
    have hx : ObjOk P w H h dd (.xd fs) := hok dd _ ed
    obtain ⟨mA, hns, hr⟩ := hx
    obtain ⟨od, ho, hl⟩ := lookIn_ns hns
    exact ⟨oe, some od, ha, hz.1, by unfold PySem.W.notCls; rw [hd] <;> rfl, by rw [hz.2]; exact ho⟩
/-- isinstance(e, c), e a kept error -/
def rIsK (K : PySem.W.Frag) : List V → Hp → VK → Prop := fun xs H Q => ∃ (a D : Addr) (c : V) (cv : Value) (b : Bool), xs = [.ref a, c] ∧ ErrAt K H a D ∧ (∀ u, L2.RelV c u → u = cv) ∧ PySem.W.kitOne K (.ref D) cv = some b ∧ Q (.bl b) H
theorem isK {X : Cx} {K : PySem.W.Frag} (hK : X.K = K := by rfl) : CallR X (.builtin "isinstance") (rIsK K) := by
  subst hK
  intro pins s σ H xs us Q I r h
  obtain ⟨a, D, c, cv, b, rfl, eA, hcv, e, q⟩ := h
  obtain ⟨u1, u2, rfl, r1, r2⟩ := vals2 r
  cases (show u1 = Value.ref a from r1)
  have ec := hcv _ r2
  subst ec
  obtain ⟨oe, od, J⟩ := eA.inst I.hok
  have C := eA.1
  exact PySem.W.kia_one (PySem.W.kitx_err C.hg C.hk C.hs C.hd C.ha C.hn C.ht C.hm) I.kIn J e (fun z => nomatch z) fun tk => ⟨.bl b, H, I.kept (t' := tk) fun _ _ z => z, rfl, q⟩
def rIsKT (K : PySem.W.Frag) : List V → Hp → VK → Prop := fun xs H Q => ∃ (a D tp : Addr) (cs : List V) (us : List Value) (b : Bool), xs = [.ref a, .ref tp] ∧ ErrAt K H a D ∧ H tp = some (.tup cs) ∧ Paired ClsV cs us ∧ PySem.W.kitAny K (.ref D) us = some b ∧ Q (.bl b) H
theorem isKT {X : Cx} {K : PySem.W.Frag} (hK : X.K = K := by rfl) : CallR X (.builtin "isinstance") (rIsKT K) := by
  subst hK
  intro pins s σ H xs us Q I r h
  obtain ⟨a, D, tp, cs, ws, b, rfl, eA, hT, kk, e, q⟩ := h
  obtain ⟨u1, u2, rfl, r1, r2⟩ := vals2 r
  cases (show u1 = Value.ref a from r1)
  cases (show u2 = Value.ref tp from r2)
  obtain ⟨oe, od, J⟩ := eA.inst I.hok
  have C := eA.1
  obtain ⟨_, its, rv, o, h1, h2, n, h3⟩ := (show ObjOk X.prog X.w H s.heap tp (.tup cs) from I.hok tp _ hT)
  have e3 := ClsV.all kk rv
  subst e3
  obtain ⟨oc, od', dt, sl⟩ := o
  simp only at h2 h3
  subst h2 h3
  exact PySem.W.kia_tup (PySem.W.kitx_err C.hg C.hk C.hs C.hd C.ha C.hn C.ht C.hm) I.kIn J h1 e (fun z => nomatch z) fun tk => ⟨.bl b, H, I.kept (t' := tk) fun _ _ z => z, rfl, q⟩
theorem callR_or {X : Cx} {f : Value} {R S : List V → Hp → VK → Prop} (a : CallR X f R) (b : CallR X f S) : CallR X f (fun xs H Q => R xs H Q ∨ S xs H Q) := fun pins s σ H xs us Q I r h => h.elim (a pins s σ H xs us Q I r) (b pins s σ H xs us Q I r)
end My
/-! ### repr of plain dicts; things of any kind -/
namespace My
open PySem PySem.Spec PyProof.Rows L2 NdefX
def encK : Key → PyData
  | .inl i => .int i
  | .inr x => .str x
/-- a plain value: none, a truth, a whole number, a text -/
inductive Plain : V → PyData → Prop
  | non : Plain .non .none
  | bl (b : Bool) : Plain (.bl b) (.bool b)
  | int (i : Int) : Plain (.int i) (.int i)
  | str (x : Str) : Plain (.str x) (.str x)
inductive Flat : List (Key × V) → List (PyData × PyData) → Prop
  | nil : Flat [] []
  | cons {k : Key} {v : V} {d : PyData} {kvs : List (Key × V)} {D : List (PyData × PyData)} : Plain v d → Flat kvs D → Flat ((k, v) :: kvs) ((encK k, d) :: D)
/-- what repr shows of it -/
inductive Shw (K : PySem.W.Frag) (H : Hp) : V → Str → Prop
  | data {v : V} {d : PyData} : Dp K H v d → d.showable = true → d.hasDict = false → d.depth ≤ 60 → d.shown.length ≤ sizeLine → Shw K H v d.shown
  | dict {a : Addr} {kvs : List (Key × V)} {D : List (PyData × PyData)} : H a = some (.dK kvs) → Flat kvs D → (PyData.dict D).showable = true → (PyData.dict D).depth ≤ 60 → (PyData.dict D).shown.length ≤ sizeLine → Shw K H (.ref a) (PyData.dict D).shown
mutual
theorem Dp.same {K : PySem.W.Frag} {H H' : Hp} (s : Same H H') : ∀ {v : V} {d : PyData}, Dp K H v d → Dp K H' v d
  | _, _, .non => .non
  | _, _, .bl b => .bl b
  | _, _, .int i => .int i
  | _, _, .str x => .str x
  | _, _, .lst h a => .lst (s.seq h) (DpAll.same s a)
  | _, _, .tup h a => .tup (s.sqt h) (DpAll.same s a)
theorem DpAll.same {K : PySem.W.Frag} {H H' : Hp} (s : Same H H') : ∀ {vs : List V} {ds : List PyData}, DpAll K H vs ds → DpAll K H' vs ds
  | _, _, .nil => .nil
  | _, _, .cons h r => .cons (Dp.same s h) (DpAll.same s r)
end
theorem Shw.same {K : PySem.W.Frag} {H H' : Hp} {v : V} {z : Str} (h : Shw K H v z) (s : Same H H') : Shw K H' v z := by
  cases h with
  | data d a b c e => exact .data (Dp.same s d) a b c e
  | dict ha hf a b c => exact .dict (s _ _ ha) hf a b c
/-- its kind: one of the seven built-in ones -/
def Kd (H : Hp) (v : V) (kn : String) : Prop := (v = .non ∧ kn = "NoneType") ∨ (∃ b, v = .bl b ∧ kn = "bool") ∨ (∃ i, v = .int i ∧ kn = "int") ∨ (∃ z, v = .str z ∧ kn = "str") ∨ (∃ a xs, v = .ref a ∧ H a = some (.lst xs) ∧ kn = "list") ∨ (∃ a xs, v = .ref a ∧ H a = some (.tup xs) ∧ kn = "tuple") ∨ (∃ a xs, v = .ref a ∧ H a = some (.dK xs) ∧ kn = "dict")
theorem Kd.same {H H' : Hp} {v : V} {kn : String} (h : Kd H v kn) (s : Same H H') : Kd H' v kn := by
  rcases h with h | h | h | h | ⟨a, xs, e, h, n⟩ | ⟨a, xs, e, h, n⟩ | ⟨a, xs, e, h, n⟩
  · exact .inl h
  · exact .inr (.inl h)
  · exact .inr (.inr (.inl h))
  · exact .inr (.inr (.inr (.inl h)))
  · exact .inr (.inr (.inr (.inr (.inl ⟨a, xs, e, s _ _ h, n⟩))))
  · exact .inr (.inr (.inr (.inr (.inr (.inl ⟨a, xs, e, s _ _ h, n⟩)))))
  · exact .inr (.inr (.inr (.inr (.inr (.inr ⟨a, xs, e, s _ _ h, n⟩)))))
theorem Kd.ty {K : PySem.W.Frag} {H : Hp} {v : V} {kn : String} (h : Kd H v kn) : TyX K H v (.type kn) := by
  rcases h with ⟨rfl, rfl⟩ | ⟨b, rfl, rfl⟩ | ⟨i, rfl, rfl⟩ | ⟨z, rfl, rfl⟩ | ⟨a, xs, rfl, h, rfl⟩ | ⟨a, xs, rfl, h, rfl⟩ | ⟨a, xs, rfl, h, rfl⟩
  · exact .base .non
  · exact .base (.bl b)
  · exact .base (.int i)
  · exact .base (.str z)
  · exact .base (.lst h)
  · exact .base (.tup h)
  · exact .base (.dK h)
/-! ### o.m(e, ..) in a body from which an error may come -/
section
variable {X : Cx} {CX : CXT} {k : Nat} {f C : Addr} {fd : FuncData} {ps : List Str} {sp : Sp} {dvs : List V} {ds : List Value} {E : L2.St → XK} {x m : Str} {p pos apos : Pos} {e o : Expr} {es : List Expr} {ta : TE} {t : TA}
end
end My
namespace K47
open PySem PySem.Spec PyProof.Rows L2 My
local macro_rules | `(tactic| walk_at "c") => `(tactic| first | (with_reducible apply eq_id; apply Eq.refl) | (with_reducible apply ile_id; omega) | (with_reducible apply ilt_id; omega) | (with_reducible apply nle_id; omega) | (with_reducible apply nlt_id; omega) | assumption | (apply Eq.refl; done) | with_reducible exact lf_marks _ _ _ _ | with_reducible exact lf_rule _ _ _ _ | with_reducible exact lf_least _ _ _ _ | with_reducible exact lf_most _ _ _ _ | with_reducible exact mf_top _ _ | with_reducible exact mf_bottom _ _ | with_reducible exact sf_low _ _ _ _ | with_reducible exact sf_high _ _ _ _ | with_reducible exact sf_low_in _ _ _ _ | with_reducible exact sf_high_in _ _ _ _ | exact SqL.of (by assumption) | exact SqT.of (by assumption) | exact Or.inl (SqL.of (by assumption)) | exact Or.inr (SqT.of (by assumption)) | exact Or.inr (by assumption) | exact Or.inl (by assumption) | omega | exact atI_nat (by assumption) | exact atI_of (n := 0) rfl (by assumption) | exact logS (by omega) | exact Or.inl (Or.inl ⟨by omega, by omega⟩) | exact Or.inl (Or.inr ⟨by omega, by omega⟩) | exact szb rfl | exact szs (by omega) | exact szl (by omega) | exact Or.inl ⟨Eq.refl _, _, SqL.of (by assumption)⟩ | exact ⟨_, SqT.of (by assumption)⟩ | exact ⟨_, SqL.of (by assumption)⟩ | exact ⟨by omega, by omega, by omega, by omega⟩)
local macro_rules | `(tactic| walk_at "e") => `(tactic| first | rfl | exact ⟨rfl, rfl⟩ | exact ⟨rfl, rfl, rfl⟩ | assumption | exact trivial)
local macro_rules | `(tactic| walk_at "w1") => `(tactic| first
  | refine q_belowT (by assumption) (by assumption) (by omega) (by omega) ?_ | refine q_belowA (by assumption) (by assumption) (by omega) (by omega) ?_ | refine q_subT (by assumption) (by assumption) (by omega) (by omega) (by omega) ?_
  | refine meth_q (by assumption) (by decide +kernel) (by decide +kernel) ?_ | refine meth_l (by assumption) (by decide +kernel) (by decide +kernel) (by decide +kernel) (by decide +kernel) ?_ | refine meth_s (by assumption) (by decide +kernel) (by decide +kernel) (by decide +kernel) (by decide +kernel) ?_
  | apply @Exists.intro V | apply @Exists.intro Int | apply @Exists.intro Addr | apply @Exists.intro Bool | apply @Exists.intro (List V) | apply @Exists.intro Str | apply @Exists.intro Nat | apply @Exists.intro (List (Str × V))
  | (apply And.intro; (focus (walk_at "c"))) | (with_reducible apply iteT) | (with_reducible apply iteF) | refine iteDT (by omega) ?_ | refine iteDF (by omega) ?_ | refine iteNS (by omega) ?_ | refine iteNT (by omega) ?_)
local macro_rules | `(tactic| walk_at "w") => `(tactic| repeat (walk_at "w1"))
local macro_rules | `(tactic| walk_at "wa1") => `(tactic| first | refine q_addT (by assumption) (by assumption) (by omega) (by omega) (by omega) ?_ | refine q_mulT (by assumption) (by assumption) (by omega) (by omega) (by omega) ?_ | walk_at "w1")
local macro_rules | `(tactic| walk_at "wa") => `(tactic| repeat (walk_at "wa1"))
local macro_rules | `(tactic| walk_at "hand") => `(tactic| first | assumption | exact HandAt.up (by walk_at "hand") (by assumption))
local macro_rules | `(tactic| walk_at "hp") => `(tactic| first | assumption | exact upd_same | exact up1 (by assumption) (by walk_at "hp") | exact Kp.get (by assumption) (by walk_at "hand") (by walk_at "hp") (by rfl) | exact L2.Same.get (by assumption) (by walk_at "hp") | exact up2 (by assumption) (by walk_at "hp") (by rfl))
local macro_rules | `(tactic| walk_at "n") => `(tactic| skip)


def sp_written : Sp := fun vs H Q _ => ∃ a u : Int, vs = [.int a, .int u] ∧ 0 ≤ a ∧ 0 < u ∧ Sz 1900 a ∧ Sz 1900 u ∧ ∀ H', Same H H' → Q (.str (wTxt a u)) H'
def sp_mstr (C : Addr) : Sp := fun vs H Q _ => ∃ (p : Addr) (t u : Int), vs = [.ref p] ∧ MAt C H p t u ∧ 0 < u ∧ Sz 1900 t ∧ Sz 1900 u ∧ ∀ H', Same H H' → Q (.str (mTxt t u)) H'
def sp_mrep (C : Addr) : Sp := fun vs H Q _ => ∃ (p : Addr) (t u : Int), vs = [.ref p] ∧ MAt C H p t u ∧ Sz 1900 t ∧ Sz 1900 u ∧ Q (.str (mRep t u)) H

def lowQ (x : Q2) : Q2 := (x.1.fdiv (Int.gcd x.1 x.2), x.2.fdiv (Int.gcd x.1 x.2))
theorem lowQ_fr {x : Q2} (h : 0 < x.2) : Fr (lowQ x).1 (lowQ x).2 x.1 x.2 := by
  have es : (Int.gcd x.1 x.2 : Int) = sgn x.2 * (Int.gcd x.1 x.2 : Int) := by
    unfold sgn
    rw [if_pos h, Int.one_mul]
  exact (fr_mk (a := x.1) (b := x.2) (by omega) es).2.2
theorem qat_low {C : Addr} {H : Hp} {p : Addr} {k : Nat} {x : Q2} (a : QAt C H p k x) (k4 : k ≤ 4000) : MAt C H p (lowQ x).1 (lowQ x).2 := by
  obtain ⟨⟨t, u, m, f⟩, h, s1, s2⟩ := a
  obtain ⟨rfl, rfl⟩ := fr_uniq f (lowQ_fr h) (by omega) (s1.mono k4) (s2.mono k4)
  exact m
theorem low_of_eqq {x y : Q2} {k j : Nat} (hx : 0 < x.2) (hy : 0 < y.2) (a1 : Sz k x.1) (a2 : Sz k x.2) (b1 : Sz j y.1) (b2 : Sz j y.2) (k4 : k ≤ 4000) (j4 : j ≤ 4000) (e : x.1 * y.2 = y.1 * x.2) : lowQ x = lowQ y := by
  have f := lowQ_fr hx
  have g := lowQ_fr hy
  have h1 : (lowQ x).1 * y.2 = y.1 * (lowQ x).2 := f.of (by omega) e
  have h2 : (lowQ y).1 * (lowQ x).2 = (lowQ x).1 * (lowQ y).2 := g.of (by omega) h1.symm
  exact low_eq ⟨f.pos, f.co, (a1.mono k4).le f.lt, (a2.mono k4).le f.lu⟩ ⟨g.pos, g.co, (b1.mono j4).le g.lt, (b2.mono j4).le g.lu⟩ h2.symm
def mT (x : Q2) : Str := mTxt (lowQ x).1 (lowQ x).2
def mR (x : Q2) : Str := mRep (lowQ x).1 (lowQ x).2
def bT (w : Str) : Option Q2 → Str
  | none => ""
  | some x => Str.empty ++ " " ++ w ++ " " ++ mT x
def lTxt (zs : List Q2) (r : Str) (lo hi : Option Q2) : Str := Txt.join "" [r, ": ", Txt.join ", " (zs.map mT), bT "from" lo, bT "to" hi]
def oR : Option Q2 → Str
  | none => "None"
  | some x => mR x
def lRep (zs : List Q2) (r : Str) (lo hi : Option Q2) : Str := Str.empty ++ "Ladder(" ++ tupleText (zs.map mR) ++ ", " ++ reprText r ++ ", " ++ oR lo ++ ", " ++ oR hi ++ ")"
def sp_bound (CM : Addr) : Sp := fun vs H Q _ => ∃ (w : Str) (v : V) (k : Nat) (e : Option Q2), vs = [.str w, v] ∧ w.length ≤ 10 ∧ QO CM H k v e ∧ k ≤ 1900 ∧ ∀ H', Same H H' → Q (.str (bT w e)) H'
def sp_lstr (K : PySem.W.Frag) (CM CL : Addr) : Sp := fun vs H Q _ => ∃ (p : Addr) (k : Nat) (zs : List Q2) (r : Str) (lo hi : Option Q2), vs = [.ref p] ∧ LadAt K CM CL H p k zs r lo hi ∧ k ≤ 1900 ∧ ∀ H', Same H H' → Q (.str (lTxt zs r lo hi)) H'
def sp_lrep (K : PySem.W.Frag) (CM CL : Addr) : Sp := fun vs H Q _ => ∃ (p : Addr) (k : Nat) (zs : List Q2) (r : Str) (lo hi : Option Q2), vs = [.ref p] ∧ LadAt K CM CL H p k zs r lo hi ∧ k ≤ 1900 ∧ Q (.str (lRep zs r lo hi)) H
def eqM (a b : Q2) : Bool := decide ((lowQ a).1 = (lowQ b).1) && decide ((lowQ a).2 = (lowQ b).2)
def eqsQ (zs ws : List Q2) : Bool := (List.zipWith eqM zs ws).all _root_.id && decide (zs.length = ws.length)
def eqLQ (zs : List Q2) (r : Str) (lo hi : Option Q2) (zs' : List Q2) (r' : Str) (lo' hi' : Option Q2) : Bool := eqsQ zs zs' && (decide (r = r') && (optEq (lo.map lowQ) (lo'.map lowQ) && optEq (hi.map lowQ) (hi'.map lowQ)))
theorem qo_ms {CM : Addr} {H : Hp} {k : Nat} {v : V} : ∀ {e : Option Q2}, QO CM H k v e → k ≤ 4000 → MsV CM H v (e.map lowQ) ∧ LowO (e.map lowQ)
  | none, h, _ => ⟨h, True.intro⟩
  | some x, h, k4 => by
    obtain ⟨p, rfl, a⟩ := h
    have fr := lowQ_fr a.pos
    exact ⟨⟨p, rfl, qat_low a k4⟩, ⟨fr.pos, fr.co, (a.s1.mono k4).le fr.lt, (a.s2.mono k4).le fr.lu⟩⟩
theorem marks_eq {K : PySem.W.Frag} {CM : Addr} {H : Hp} {T T2 : Addr} {k k' : Nat} {ps ps' : List V} {zs zs' : List Q2} (cl : Cls K CM) (ii : IsC K CM) (ec : EqC K CM) (hT : SqT K H T ps) (hT2 : SqT K H T2 ps') (hm : Mks CM H k ps zs) (hm' : Mks CM H k' ps' zs') (k4 : k ≤ 4000) (k4' : k' ≤ 4000) : DTupB K (DOwn K CM (REq K CM)) (.ref T) (.ref T2) H (eqsQ zs zs') := by
  have e1 := hm.len
  have e2 := hm'.len
  refine ⟨T, T2, ps, ps', List.zipWith eqM zs zs', rfl, rfl, hT, hT2, by rw [List.length_zipWith]; omega, fun i p q b h1 h2 h3 => ?_, by unfold eqsQ; rw [e1, e2]⟩
  have l1 := (List.getElem?_eq_some_iff.mp h1).1
  have l2 := (List.getElem?_eq_some_iff.mp h2).1
  have hz : zs[i]? = some zs[i] := List.getElem?_eq_getElem (by omega)
  have hw : zs'[i]? = some zs'[i] := List.getElem?_eq_getElem (by omega)
  obtain ⟨a, rfl, qa⟩ := hm.all i p _ h1 hz
  obtain ⟨c, rfl, qc⟩ := hm'.all i q _ h2 hw
  rw [List.getElem?_zipWith, hz, hw] at h3
  have h3 := Option.some.inj h3
  rw [← h3]
  exact Like.fwd cl ii ec (Like.ms (qat_low qa k4) (qat_low qc k4'))
theorem mR_len {x : Q2} {k : Nat} (h : 0 < x.2) (a1 : Sz k x.1) (a2 : Sz k x.2) (k9 : k ≤ 1900) : (mR x).length ≤ 10000 ∧ Sz 1900 (lowQ x).1 ∧ Sz 1900 (lowQ x).2 := by
  have fr := lowQ_fr h
  have st : Sz 1900 (lowQ x).1 := (a1.mono k9).le fr.lt
  have su : Sz 1900 (lowQ x).2 := (a2.mono k9).le fr.lu
  have l1 := iT_len st
  have l2 := iT_len su
  have e0 : Str.empty.length = 0 := rfl
  have e1 : (Str.ofString "Measure(").length = 8 := rfl
  have e2 : (Str.ofString ", ").length = 2 := rfl
  have e3 : (Str.ofString ")").length = 1 := rfl
  refine ⟨?_, st, su⟩
  unfold mR mRep
  simp only [Str.length_append]
  omega
theorem marks_show0 {K : PySem.W.Frag} {C : Addr} {E : XK} {k : Nat} {H : Hp} (k9 : k ≤ 1900) {Q : List Str → Hp → Prop} : ∀ {ps : List V} {zs : List Q2} {acc : List Str}, ps.length = zs.length → (∀ (i : Nat) (v : V) (z : Q2), ps[i]? = some v → zs[i]? = some z → ∃ q, v = .ref q ∧ QAt C H q k z) → Q (acc ++ zs.map mR) H → tShow K C (sp_mrep C) E ps acc H Q
  | [], [], acc, _, _, q => by
    show Q acc H
    simpa using q
  | [], _ :: _, _, h, _, _ => by simp at h
  | _ :: _, [], _, h, _, _ => by simp at h
  | p :: ps, z :: zs, acc, h, hh, q => by
    obtain ⟨a, rfl, qa⟩ := hh 0 p z rfl rfl
    have m := qat_low qa (by omega)
    obtain ⟨l1, l2, l3⟩ := mR_len qa.pos qa.s1 qa.s2 k9
    obtain ⟨dx, ha⟩ := id m
    refine .inr ⟨a, dx, _, rfl, ha, a, _, _, rfl, ⟨dx, ha⟩, l2, l3, _, rfl, _, rfl, l1, ?_⟩
    refine marks_show0 k9 (by simpa using h) (fun i v w e1 e2 => hh (i + 1) v w (by simpa using e1) (by simpa using e2)) ?_
    rw [List.append_assoc]
    exact q
theorem marks_show {K : PySem.W.Frag} {C : Addr} {E : XK} {k : Nat} {H : Hp} {Q : List Str → Hp → Prop} {ps : List V} {zs : List Q2} (hm : Mks C H k ps zs) (k9 : k ≤ 1900) (q : Q (zs.map mR) H) : tShow K C (sp_mrep C) E ps [] H Q :=
  marks_show0 k9 hm.len hm.all (by rw [List.nil_append]; exact q)
theorem oR_len {C : Addr} {H : Hp} {k : Nat} {v : V} : ∀ {e : Option Q2}, QO C H k v e → k ≤ 1900 → (oR e).length ≤ 10000
  | none, _, _ => by decide
  | some x, h, k9 => by
    obtain ⟨p, rfl, a⟩ := h
    exact (mR_len a.pos a.s1 a.s2 k9).1
theorem oR_show {C : Addr} {H : Hp} {k : Nat} {v : V} {E : XK} {Q : VK} : ∀ {e : Option Q2}, QO C H k v e → k ≤ 1900 → Q (.str (oR e)) H → tOwn C (sp_mrep C) E v H (fun v H2 => (∃ z : Str, v = .str z ∧ z.length ≤ sizeLine) ∧ Q v H2) ∨ (v = .non ∧ Q (.str "None") H)
  | none, h, _, q => .inr ⟨h, q⟩
  | some x, h, k9, q => by
    obtain ⟨p, rfl, a⟩ := h
    obtain ⟨dx, hp⟩ := qat_low a (by omega)
    obtain ⟨l1, l2, l3⟩ := mR_len a.pos a.s1 a.s2 k9
    exact .inl ⟨p, dx, _, rfl, hp, p, _, _, rfl, ⟨dx, hp⟩, l2, l3, _, rfl, ⟨_, rfl, zLen (Nat.le_trans l1 (by decide))⟩, q⟩
theorem mT_len {x : Q2} {k : Nat} (h : 0 < x.2) (a1 : Sz k x.1) (a2 : Sz k x.2) (k9 : k ≤ 1900) : (mT x).length ≤ 6001 ∧ Sz 1900 (lowQ x).1 ∧ Sz 1900 (lowQ x).2 ∧ 0 < (lowQ x).2 := by
  obtain ⟨_, st, su⟩ := mR_len h a1 a2 k9
  have fr := lowQ_fr h
  exact ⟨mTxt_len st su fr.pos, st, su, fr.pos⟩
theorem bT_len {C : Addr} {H : Hp} {k : Nat} {v : V} {w : Str} (lw : w.length ≤ 10) : ∀ {e : Option Q2}, QO C H k v e → k ≤ 1900 → (bT w e).length ≤ 6100
  | none, _, _ => by show Str.length (Str.ofString "") ≤ 6100; decide
  | some x, h, k9 => by
    obtain ⟨p, rfl, a⟩ := h
    obtain ⟨l1, _⟩ := mT_len a.pos a.s1 a.s2 k9
    have e0 : Str.empty.length = 0 := rfl
    have e1 : (Str.ofString " ").length = 1 := rfl
    unfold bT
    simp only [Str.length_append]
    omega
theorem rule_len {r : Str} (h : IsRule r) : r.length ≤ 10 ∧ (reprText r).length ≤ 20 := by
  rcases h with rfl | rfl | rfl <;> exact ⟨by decide, by decide +kernel⟩
theorem sum_le {n : Nat} : ∀ ys : List Str, (∀ y ∈ ys, y.length ≤ n) → (ys.map fun x => x.length).sum ≤ n * ys.length
  | [], _ => Nat.zero_le _
  | y :: ys, h => by
    have h1 := h y (by simp)
    have h2 := sum_le ys fun z hz => h z (by simp [hz])
    rw [List.map_cons, List.sum_cons, List.length_cons, Nat.mul_succ]
    omega
theorem eqsQ_same {zs ws : List Q2} (h : zs.map lowQ = ws.map lowQ) : eqsQ zs ws = true := by
  have hl : zs.length = ws.length := by have := congrArg List.length h; simpa using this
  unfold eqsQ
  rw [Bool.and_eq_true, List.all_eq_true]
  refine ⟨fun b hb => ?_, decide_eq_true hl⟩
  obtain ⟨i, hi⟩ := List.mem_iff_getElem?.mp hb
  rw [List.getElem?_zipWith] at hi
  cases e1 : zs[i]? with
  | none => rw [e1] at hi; cases hi
  | some z =>
    cases e2 : ws[i]? with
    | none => rw [e1, e2] at hi; cases hi
    | some w =>
      rw [e1, e2] at hi
      have q : (zs.map lowQ)[i]? = (ws.map lowQ)[i]? := by rw [h]
      rw [List.getElem?_map, List.getElem?_map, e1, e2] at q
      have q := Option.some.inj q
      have q : lowQ z = lowQ w := q
      cases hi
      show eqM z w = true
      unfold eqM
      rw [q, decide_eq_true rfl, decide_eq_true rfl]; rfl
theorem optEq_same : ∀ (e : Option Q2), optEq e e = true
  | none => rfl
  | some a => by simp [optEq, eqq]
theorem eqLQ_same {zs zs' : List Q2} {r r' : Str} {lo hi lo' hi' : Option Q2} (h : zs.map lowQ = zs'.map lowQ) (hr : r = r') (h1 : lo.map lowQ = lo'.map lowQ) (h2 : hi.map lowQ = hi'.map lowQ) : eqLQ zs r lo hi zs' r' lo' hi' = true := by
  unfold eqLQ
  rw [eqsQ_same h, decide_eq_true hr, h1, h2, optEq_same, optEq_same]; rfl
def REqL (K : PySem.W.Frag) (CM CL : Addr) : Eqb := fun x y H b => ∃ p k zs r lo hi, x = .ref p ∧ LadAt K CM CL H p k zs r lo hi ∧ k ≤ 4000 ∧ ((∃ q k' zs' r' lo' hi', y = .ref q ∧ LadAt K CM CL H q k' zs' r' lo' hi' ∧ k' ≤ 4000 ∧ b = eqLQ zs r lo hi zs' r' lo' hi') ∨ ∃ tv, TyX K H y tv ∧ PySem.W.kitOne K tv (.ref CL) = some false ∧ b = false)

/-- a thing of a built-in kind, or an own object of the class D -/
def Tg47 (K : PySem.W.Frag) (H : Hp) (v : V) (t : Value) : Prop := (∃ kn, Kd H v kn ∧ t = .type kn) ∨ (∃ (p C dx : Addr) (fs : List (Str × V)), v = .ref p ∧ H p = some (.ins C dx fs) ∧ Cls K C ∧ IsC K C ∧ t = .ref C) ∨ (∃ (a : Addr) (xs : List V), v = .ref a ∧ SqT K H a xs ∧ t = .type "tuple")
theorem Tg47.same {K : PySem.W.Frag} {H H' : Hp} {v : V} {t : Value} (h : Tg47 K H v t) (s : Same H H') : Tg47 K H' v t := by
  rcases h with ⟨kn, h, e⟩ | ⟨p, C, dx, fs, e, h, c⟩ | ⟨a, xs, e, h, c⟩
  · exact .inl ⟨kn, h.same s, e⟩
  · exact .inr (.inl ⟨p, C, dx, fs, e, s _ _ h, c⟩)
  · exact .inr (.inr ⟨a, xs, e, s.sqt h, c⟩)
theorem Tg47.ty {K : PySem.W.Frag} {H : Hp} {v : V} {t : Value} (h : Tg47 K H v t) : TyX K H v t := by
  rcases h with ⟨kn, h, rfl⟩ | ⟨p, C, dx, fs, rfl, h, cl, ii, rfl⟩ | ⟨a, xs, rfl, h, rfl⟩
  · exact h.ty
  · exact tyM h cl ii
  · exact tyTup h
/-- no object of the class C -/
def NotC (K : PySem.W.Frag) (C : Addr) (H : Hp) (v : V) : Prop := ∃ t, Tg47 K H v t ∧ PySem.W.kitOne K t (.ref C) = some false
theorem NotC.same {K : PySem.W.Frag} {C : Addr} {H H' : Hp} {v : V} (h : NotC K C H v) (s : Same H H') : NotC K C H' v := by
  obtain ⟨t, h, e⟩ := h
  exact ⟨t, h.same s, e⟩
/-- three things of which no grid is made -/
def BadG (K : PySem.W.Frag) (CM CL : Addr) (H : Hp) (x y v : V) : Prop := NotC K CL H x ∨ ((∃ p dx fs, x = .ref p ∧ H p = some (.ins CL dx fs)) ∧ (NotC K CL H y ∨ ((∃ p dx fs, y = .ref p ∧ H p = some (.ins CL dx fs)) ∧ v ≠ .non ∧ NotC K CM H v)))
theorem BadG.same {K : PySem.W.Frag} {CM CL : Addr} {H H' : Hp} {x y v : V} (h : BadG K CM CL H x y v) (s : Same H H') : BadG K CM CL H' x y v := by
  rcases h with h | ⟨⟨p, dx, fs, e, h1⟩, h | ⟨⟨q, dy, gs, e2, h2⟩, h3, h4⟩⟩
  · exact .inl (h.same s)
  · exact .inr ⟨⟨p, dx, fs, e, s _ _ h1⟩, .inl (h.same s)⟩
  · exact .inr ⟨⟨p, dx, fs, e, s _ _ h1⟩, .inr ⟨⟨q, dy, gs, e2, s _ _ h2⟩, h3, h4.same s⟩⟩
def sp_isendX (K : PySem.W.Frag) (CM : Addr) : Sp := fun vs H Q _ => ∃ v, vs = [v] ∧ v ≠ .non ∧ NotC K CM H v ∧ Q (.bl false) H
def sp_gbad (K : PySem.W.Frag) (CM CL CG CE : Addr) : Sp := fun vs H _ E => ∃ (p dx : Addr) (x y v : V), vs = [.ref p, x, y, v] ∧ H p = some (.ins CG dx []) ∧ BadG K CM CL H x y v ∧ E (.ref CE) none H
def sp_lrefG (K : PySem.W.Frag) (CM CL : Addr) : Sp := fun vs H Q _ => ∃ (x y v : V), vs = [x, y, v] ∧ BadG K CM CL H x y v ∧ ∀ H', Same H H' → Q (.bl true) H'
def sp_ldeep : Sp := fun vs H Q _ => ∃ (h : Addr) (n : Nat) (v : V), vs = [.ref h, v] ∧ HandAt H h n ∧ n < 80000 ∧ ∀ (w : V) (H' : Hp), HandAt H' h (n + 2) → Kp h H H' → (∃ a xs, w = .ref a ∧ a ≠ h ∧ (H' a = some (.lst xs) ∨ H' a = some (.tup xs))) → Q w H'
/-- a ladder is alike itself -/
theorem lad_self {K : PySem.W.Frag} {CM CL p : Addr} {H : Hp} {k : Nat} {zs : List Q2} {r : Str} {lo hi : Option Q2} (cl : Cls K CL) (ii : IsC K CL) (a : LadAt K CM CL H p k zs r lo hi) (k4 : k ≤ 4000) (e : eqLQ zs r lo hi zs r lo hi = true) : DOwn K CL (REqL K CM CL) (.ref p) (.ref p) H true := by
  obtain ⟨dx, T, ps, l, h, hp, _⟩ := a.ob
  exact ⟨p, dx, _, _, rfl, hp, tyM hp cl ii, nf_self, (fun _ => rfl), p, k, zs, r, lo, hi, rfl, a, k4, .inl ⟨p, k, zs, r, lo, hi, rfl, a, k4, e.symm⟩⟩

theorem q_dn {K : PySem.W.Frag} {CM p q : Addr} {H : Hp} {k j : Nat} {z w : Q2} (cl : Cls K CM) (ii : IsC K CM) (ec : EqC K CM) (a : QAt CM H p k z) (b : QAt CM H q j w) (r : Re z w) : DOwn K CM (REq K CM) (.ref p) (.ref q) H true := by
  obtain ⟨⟨t, u, m, f⟩, p1, _, _⟩ := a
  obtain ⟨⟨t', u', m', f'⟩, p2, _, _⟩ := b
  have e := fr_eqq f f' p1 p2
  have e2 : eqq z w = true := decide_eq_true r.2.2
  have h : DOwn K CM (REq K CM) (.ref p) (.ref q) H (decide (t = t') && decide (u = u')) := Like.fwd cl ii ec (Like.ms m m')
  rw [e, e2] at h
  exact h
def sp_isgrid (K : PySem.W.Frag) (CM CL CG : Addr) : Sp := fun vs H Q _ => ∃ (h p pc ps L1 L2 : Addr) (zs ys : List Q2) (g : Q2) (r1 r2 : Str) (lo1 hi1 lo2 hi2 : Option Q2), vs = [.ref p, .ref pc, .ref ps] ∧ GrdAt K CM CL CG H p 20 L1 L2 g ∧ H pc = some (.lst [.ref L1, .ref L2]) ∧ LadAt K CM CL H L1 184 zs r1 lo1 hi1 ∧ LadAt K CM CL H L2 184 ys r2 lo2 hi2 ∧ SidesAt H h ps 180 zs ys g ∧ ∀ H', Same H H' → Q (.bl true) H'


theorem _root_.My.Kd.kp {H H' : Hp} {h : Addr} {n : Nat} {v : V} {kn : String} (d : Kd H v kn) (hh : HandAt H' h n) (s : Kp h H H') (hH : ∃ m, HandAt H h m) : Kd H' v kn := by
  obtain ⟨m, hH⟩ := hH
  obtain ⟨a, b, c, e, _⟩ := hH
  obtain ⟨a', b', c', e', _⟩ := hh
  rcases d with d | d | d | d | ⟨x, xs, e1, e2, n⟩ | ⟨x, xs, e1, e2, n⟩ | ⟨x, xs, e1, e2, n⟩
  · exact .inl d
  · exact .inr (.inl d)
  · exact .inr (.inr (.inl d))
  · exact .inr (.inr (.inr (.inl d)))
  · by_cases hx : x = h
    · subst hx; exact .inr (.inr (.inr (.inr (.inl ⟨_, _, e1, e', n⟩))))
    · exact .inr (.inr (.inr (.inr (.inl ⟨x, xs, e1, s _ _ e2 hx, n⟩))))
  · have hx : x ≠ h := fun z => by subst z; rw [e] at e2; cases e2
    exact .inr (.inr (.inr (.inr (.inr (.inl ⟨x, xs, e1, s _ _ e2 hx, n⟩)))))
  · have hx : x ≠ h := fun z => by subst z; rw [e] at e2; cases e2
    exact .inr (.inr (.inr (.inr (.inr (.inr ⟨x, xs, e1, s _ _ e2 hx, n⟩)))))
theorem sqt_kp {K : PySem.W.Frag} {H H' : Hp} {h p : Addr} {n : Nat} {xs : List V} (e1 : SqT K H p xs) (hH : HandAt H h n) (s : Kp h H H') : SqT K H' p xs := by
  rcases e1 with (z | ⟨o, z⟩) | z
  · exact .inl (.inl (s.get hH z rfl))
  · exact .inl (.inr ⟨o, s.get hH z rfl⟩)
  · exact .inr z
theorem NotC.kp {K : PySem.W.Frag} {C : Addr} {H H' : Hp} {h : Addr} {n m : Nat} {v : V} (a : NotC K C H v) (hh : HandAt H' h n) (s : Kp h H H') (hH : HandAt H h m) : NotC K C H' v := by
  obtain ⟨t, d | ⟨p, D, dx, fs, e, e1, cl, ii, et⟩ | ⟨p, xs, e, e1, et⟩, ek⟩ := a
  · obtain ⟨kn, d, e⟩ := d
    exact ⟨t, .inl ⟨kn, d.kp hh s ⟨_, hH⟩, e⟩, ek⟩
  · exact ⟨t, .inr (.inl ⟨p, D, dx, fs, e, s.get hH e1 rfl, cl, ii, et⟩), ek⟩
  · exact ⟨t, .inr (.inr ⟨p, xs, e, sqt_kp e1 hH s, et⟩), ek⟩
/-- no Measure, no Ladder, not None -/
structure Odd47 (K : PySem.W.Frag) (CM CL : Addr) (H : Hp) (v : V) : Prop where
  nn : v ≠ .non
  m : NotC K CM H v
  l : NotC K CL H v
theorem Odd47.same {K : PySem.W.Frag} {CM CL : Addr} {H H' : Hp} {v : V} (a : Odd47 K CM CL H v) (s : Same H H') : Odd47 K CM CL H' v := ⟨a.nn, a.m.same s, a.l.same s⟩
theorem Odd47.kp {K : PySem.W.Frag} {CM CL : Addr} {H H' : Hp} {h : Addr} {n m : Nat} {v : V} (a : Odd47 K CM CL H v) (hh : HandAt H' h n) (s : Kp h H H') (hH : HandAt H h m) : Odd47 K CM CL H' v := ⟨a.nn, a.m.kp hh s hH, a.l.kp hh s hH⟩
theorem Odd47.kd {K : PySem.W.Frag} {CM CL : Addr} {H : Hp} {v : V} {kn : String} (d : Kd H v kn) (n : v ≠ .non) (e1 : PySem.W.kitOne K (.type kn) (.ref CM) = some false) (e2 : PySem.W.kitOne K (.type kn) (.ref CL) = some false) : Odd47 K CM CL H v := ⟨n, ⟨_, .inl ⟨kn, d, rfl⟩, e1⟩, ⟨_, .inl ⟨kn, d, rfl⟩, e2⟩⟩
structure Sd47 (H : Hp) (h ps l1 l2 : Addr) (us ws : List V) (zs ys : List Q2) (g : Q2) : Prop where
  ob : ∃ vg, H ps = some (.lst [.ref l1, .ref l2, vg]) ∧ TQ H vg 20 g
  h1 : H l1 = some (.lst us)
  h2 : H l2 = some (.lst ws)
  t1 : Tqs H 180 us zs
  t2 : Tqs H 180 ws ys
  n0 : ps ≠ h
  n1 : l1 ≠ h
  n2 : l2 ≠ h
  m1 : l1 ≠ ps
  m2 : l2 ≠ ps
  b10 : 0 < zs.length
  b11 : zs.length ≤ 8
  b20 : 0 < ys.length
  b21 : ys.length ≤ 8
  r1 : RiseQ zs
  r2 : RiseQ ys
section
variable {H H' : Hp} {h ps l1 l2 : Addr} {us ws : List V} {zs ys : List Q2} {g : Q2}
theorem Sd47.same (a : Sd47 H h ps l1 l2 us ws zs ys g) (s : Same H H') : Sd47 H' h ps l1 l2 us ws zs ys g := by
  obtain ⟨vg, e, t⟩ := a.ob
  exact ⟨⟨vg, s _ _ e, t.same s⟩, s _ _ a.h1, s _ _ a.h2, a.t1.same s, a.t2.same s, a.n0, a.n1, a.n2, a.m1, a.m2, a.b10, a.b11, a.b20, a.b21, a.r1, a.r2⟩
theorem Sd47.kp {n : Nat} (a : Sd47 H h ps l1 l2 us ws zs ys g) (hh : HandAt H h n) (s : Kp h H H') : Sd47 H' h ps l1 l2 us ws zs ys g := by
  obtain ⟨vg, e, t⟩ := a.ob
  exact ⟨⟨vg, s _ _ e a.n0, t.kp hh s⟩, s _ _ a.h1 a.n1, s _ _ a.h2 a.n2, a.t1.kp hh s, a.t2.kp hh s, a.n0, a.n1, a.n2, a.m1, a.m2, a.b10, a.b11, a.b20, a.b21, a.r1, a.r2⟩
theorem Sd47.side (a : Sd47 H h ps l1 l2 us ws zs ys g) : SidesAt H h ps 180 zs ys g := by
  obtain ⟨vg, e, t⟩ := a.ob
  exact ⟨⟨l1, l2, vg, us, ws, e, a.h1, a.h2, a.t1, a.t2, t, a.n0, a.n1, a.n2⟩, a.b10, a.b11, a.b20, a.b21⟩
/-- another grade put in -/
theorem Sd47.put {w : Addr} (a : Sd47 H h ps l1 l2 us ws zs ys g) (hw : H w = some (.tup [.int 0, .int 1])) : Sd47 (upd H ps (.lst [.ref l1, .ref l2, .ref w])) h ps l1 l2 us ws zs ys (0, 1) := by
  obtain ⟨vg, e, t⟩ := a.ob
  have nl : Nl H (upd H ps (.lst [.ref l1, .ref l2, .ref w])) := by
    intro c o hc ho
    have hx : c ≠ ps := fun z => by subst z; rw [e] at hc; cases hc; cases ho
    rw [upd_ne hx]; exact hc
  refine ⟨⟨.ref w, upd_same, ?_⟩, by rw [upd_ne a.m1]; exact a.h1, by rw [upd_ne a.m2]; exact a.h2, a.t1.nl nl, a.t2.nl nl, a.n0, a.n1, a.n2, a.m1, a.m2, a.b10, a.b11, a.b20, a.b21, a.r1, a.r2⟩
  have t0 : TQ H (.ref w) 20 (0, 1) := (TQ.mk (k := 1) hw (by decide) (by decide) (by decide)).mono (by decide)
  exact t0.nl nl
end
theorem put_hand {H : Hp} {h ps : Addr} {u : HO} {n : Nat} (a : HandAt H h n) (ne : ps ≠ h) : HandAt (upd H ps u) h n := a.put ne
theorem put_same {H1 H : Hp} {ps : Addr} {u : HO} (s : Same H1 H) (n : H1 ps = none) : Same H1 (upd H ps u) := fun c o e => by
  rw [upd_ne (ne_of_none e n)]; exact s _ _ e
/-- ladders, sides and the grade of a turn -/
structure G47 (K : PySem.W.Frag) (CM CL : Addr) (H : Hp) (h ps pc L1 L2 qb : Addr) (zs ys : List Q2) (g : Q2) : Prop where
  c : H pc = some (.lst [.ref L1, .ref L2])
  ch : pc ≠ h
  a1 : LadE K CM CL H L1 184 zs
  a2 : LadE K CM CL H L2 184 ys
  sd : SidesAt H h ps 180 zs ys g
  ab : QAt CM H qb 20 g
theorem G47.same {K : PySem.W.Frag} {CM CL : Addr} {H H' : Hp} {h ps pc L1 L2 qb : Addr} {zs ys : List Q2} {g : Q2} (a : G47 K CM CL H h ps pc L1 L2 qb zs ys g) (s : Same H H') : G47 K CM CL H' h ps pc L1 L2 qb zs ys g := by
  obtain ⟨c, ch, ⟨r, lo, hi, a1⟩, ⟨r2, lo2, hi2, a2⟩, sd, ab⟩ := a
  exact ⟨s _ _ c, ch, ⟨r, lo, hi, a1.same s⟩, ⟨r2, lo2, hi2, a2.same s⟩, sd.same s, ab.same s⟩
theorem G47.kp {K : PySem.W.Frag} {CM CL : Addr} {H H' : Hp} {h ps pc L1 L2 qb : Addr} {zs ys : List Q2} {g : Q2} {n : Nat} (a : G47 K CM CL H h ps pc L1 L2 qb zs ys g) (hh : HandAt H h n) (s : Kp h H H') : G47 K CM CL H' h ps pc L1 L2 qb zs ys g := by
  obtain ⟨c, ch, ⟨r, lo, hi, a1⟩, ⟨r2, lo2, hi2, a2⟩, sd, ab⟩ := a
  exact ⟨s _ _ c ch, ch, ⟨r, lo, hi, a1.kp hh s⟩, ⟨r2, lo2, hi2, a2.kp hh s⟩, sd.kp hh s, ab.kp hh s⟩
/-- the grids made -/
structure M47 (K : PySem.W.Frag) (CM CL CG : Addr) (H : Hp) (h md L1 L2 : Addr) (ms : List Addr) (g : Q2) : Prop where
  m : H md = some (.lst (ms.map V.ref))
  mh : md ≠ h
  l0 : 2 ≤ ms.length
  l1 : ms.length ≤ 4
  all : ∀ p ∈ ms, GrdAt K CM CL CG H p 20 L1 L2 g
theorem M47.same {K : PySem.W.Frag} {CM CL CG : Addr} {H H' : Hp} {h md L1 L2 : Addr} {ms : List Addr} {g : Q2} (a : M47 K CM CL CG H h md L1 L2 ms g) (s : Same H H') : M47 K CM CL CG H' h md L1 L2 ms g := ⟨s _ _ a.m, a.mh, a.l0, a.l1, fun p hp => (a.all p hp).same s⟩
theorem M47.kp {K : PySem.W.Frag} {CM CL CG : Addr} {H H' : Hp} {h md L1 L2 : Addr} {ms : List Addr} {g : Q2} {n : Nat} (a : M47 K CM CL CG H h md L1 L2 ms g) (hh : HandAt H h n) (s : Kp h H H') : M47 K CM CL CG H' h md L1 L2 ms g := ⟨s _ _ a.m a.mh, a.mh, a.l0, a.l1, fun p hp => (a.all p hp).kp hh s⟩
/-- things of other kinds -/
structure O47 (K : PySem.W.Frag) (CM CL : Addr) (H : Hp) (h ss : Addr) (vs : List V) : Prop where
  m : H ss = some (.lst vs)
  mh : ss ≠ h
  l1 : vs.length ≤ 20
  all : ∀ v ∈ vs, Odd47 K CM CL H v
theorem O47.same {K : PySem.W.Frag} {CM CL : Addr} {H H' : Hp} {h ss : Addr} {vs : List V} (a : O47 K CM CL H h ss vs) (s : Same H H') : O47 K CM CL H' h ss vs := ⟨s _ _ a.m, a.mh, a.l1, fun v hv => (a.all v hv).same s⟩
theorem O47.kp {K : PySem.W.Frag} {CM CL : Addr} {H H' : Hp} {h ss : Addr} {vs : List V} {n m : Nat} (a : O47 K CM CL H h ss vs) (hh : HandAt H' h n) (s : Kp h H H') (hH : HandAt H h m) : O47 K CM CL H' h ss vs := ⟨s _ _ a.m a.mh, a.mh, a.l1, fun v hv => (a.all v hv).kp hh s hH⟩
theorem allT (n : Nat) : (List.replicate n true).all _root_.id = true := by
  induction n with
  | zero => rfl
  | succ n ih => rw [List.replicate_succ]; simpa using ih
theorem filT (n : Nat) : (List.replicate n (some (V.bl true))).filterMap _root_.id = (List.replicate n true).map V.bl := by
  induction n with
  | zero => rfl
  | succ n ih => rw [List.replicate_succ, List.replicate_succ]; simpa using ih

theorem b_is_whole_1 {K : PySem.W.Frag} {mg : Str → Option Value} {φ : Fds} (T : Txt K mg φ) : ∃ ds, Vals ([] : List V) ds ∧ Binds K φ.is_whole p_is_whole ds :=
  ⟨[], .nil, T.f_is_whole.bindsN fun _ _ _ _ _ _ us hl => match us, hl with | [_], _ => rfl⟩
theorem b_common_part_2 {K : PySem.W.Frag} {mg : Str → Option Value} {φ : Fds} (T : Txt K mg φ) : ∃ ds, Vals ([] : List V) ds ∧ Binds K φ.common_part p_common_part ds :=
  ⟨[], .nil, T.f_common_part.bindsN fun _ _ _ _ _ _ us hl => match us, hl with | [_, _], _ => rfl⟩
theorem b_Measure_is_below_2 {K : PySem.W.Frag} {mg : Str → Option Value} {φ : Fds} (T : Txt K mg φ) : ∃ ds, Vals ([V.bl false] : List V) ds ∧ Binds K φ.Measure_is_below p_Measure_is_below ds :=
  T.f_Measure_is_below.binds1 2 0 (by simp) rfl fun _ _ _ _ _ _ _ us its h1 h2 => match us, its, h1, h2 with | [_, _], [_], _, _ => ⟨_, rfl, rfl⟩
theorem b_Measure_is_below_3 {K : PySem.W.Frag} {mg : Str → Option Value} {φ : Fds} (T : Txt K mg φ) : ∃ ds, Vals ([] : List V) ds ∧ Binds K φ.Measure_is_below p_Measure_is_below ds :=
  T.f_Measure_is_below.binds1 3 1 (by simp) rfl fun _ _ _ _ _ _ _ us its h1 h2 => match us, its, h1, h2 with | [_, _, _], [_], _, _ => ⟨_, rfl, rfl⟩
theorem b_are_marks_1 {K : PySem.W.Frag} {mg : Str → Option Value} {φ : Fds} (T : Txt K mg φ) : ∃ ds, Vals ([] : List V) ds ∧ Binds K φ.are_marks p_are_marks ds :=
  ⟨[], .nil, T.f_are_marks.bindsN fun _ _ _ _ _ _ us hl => match us, hl with | [_], _ => rfl⟩
theorem b_is_rule_1 {K : PySem.W.Frag} {mg : Str → Option Value} {φ : Fds} (T : Txt K mg φ) : ∃ ds, Vals ([] : List V) ds ∧ Binds K φ.is_rule p_is_rule ds :=
  ⟨[], .nil, T.f_is_rule.bindsN fun _ _ _ _ _ _ us hl => match us, hl with | [_], _ => rfl⟩
theorem b_is_measure_or_none_1 {K : PySem.W.Frag} {mg : Str → Option Value} {φ : Fds} (T : Txt K mg φ) : ∃ ds, Vals ([] : List V) ds ∧ Binds K φ.is_measure_or_none p_is_measure_or_none ds :=
  ⟨[], .nil, T.f_is_measure_or_none.bindsN fun _ _ _ _ _ _ us hl => match us, hl with | [_], _ => rfl⟩
theorem b_is_span_2 {K : PySem.W.Frag} {mg : Str → Option Value} {φ : Fds} (T : Txt K mg φ) : ∃ ds, Vals ([] : List V) ds ∧ Binds K φ.is_span p_is_span ds :=
  ⟨[], .nil, T.f_is_span.bindsN fun _ _ _ _ _ _ us hl => match us, hl with | [_, _], _ => rfl⟩
theorem b_slip_of_1 {K : PySem.W.Frag} {mg : Str → Option Value} {φ : Fds} (T : Txt K mg φ) : ∃ ds, Vals ([] : List V) ds ∧ Binds K φ.slip_of p_slip_of ds :=
  ⟨[], .nil, T.f_slip_of.bindsN fun _ _ _ _ _ _ us hl => match us, hl with | [_], _ => rfl⟩
theorem b_l_take_2 {K : PySem.W.Frag} {mg : Str → Option Value} {φ : Fds} (T : Txt K mg φ) : ∃ ds, Vals ([] : List V) ds ∧ Binds K φ.l_take p_l_take ds :=
  ⟨[], .nil, T.f_l_take.bindsN fun _ _ _ _ _ _ us hl => match us, hl with | [_, _], _ => rfl⟩
theorem b_l_plain_2 {K : PySem.W.Frag} {mg : Str → Option Value} {φ : Fds} (T : Txt K mg φ) : ∃ ds, Vals ([] : List V) ds ∧ Binds K φ.l_plain p_l_plain ds :=
  ⟨[], .nil, T.f_l_plain.bindsN fun _ _ _ _ _ _ us hl => match us, hl with | [_, _], _ => rfl⟩
theorem b_Measure_init_3 {K : PySem.W.Frag} {mg : Str → Option Value} {φ : Fds} (T : Txt K mg φ) : ∃ ds, Vals ([] : List V) ds ∧ Binds K φ.Measure_init p_Measure_init ds :=
  T.f_Measure_init.binds1 3 1 (by simp) rfl fun _ _ _ _ _ _ _ us its h1 h2 => match us, its, h1, h2 with | [_, _, _], [_], _, _ => ⟨_, rfl, rfl⟩
theorem b_l_pick_2 {K : PySem.W.Frag} {mg : Str → Option Value} {φ : Fds} (T : Txt K mg φ) : ∃ ds, Vals ([] : List V) ds ∧ Binds K φ.l_pick p_l_pick ds :=
  ⟨[], .nil, T.f_l_pick.bindsN fun _ _ _ _ _ _ us hl => match us, hl with | [_, _], _ => rfl⟩
theorem b_l_part_1 {K : PySem.W.Frag} {mg : Str → Option Value} {φ : Fds} (T : Txt K mg φ) : ∃ ds, Vals ([] : List V) ds ∧ Binds K φ.l_part p_l_part ds :=
  ⟨[], .nil, T.f_l_part.bindsN fun _ _ _ _ _ _ us hl => match us, hl with | [_], _ => rfl⟩
theorem b_l_sum_2 {K : PySem.W.Frag} {mg : Str → Option Value} {φ : Fds} (T : Txt K mg φ) : ∃ ds, Vals ([] : List V) ds ∧ Binds K φ.l_sum p_l_sum ds :=
  ⟨[], .nil, T.f_l_sum.bindsN fun _ _ _ _ _ _ us hl => match us, hl with | [_, _], _ => rfl⟩
theorem b_Ladder_init_5 {K : PySem.W.Frag} {mg : Str → Option Value} {φ : Fds} (T : Txt K mg φ) : ∃ ds, Vals ([] : List V) ds ∧ Binds K φ.Ladder_init p_Ladder_init ds :=
  T.f_Ladder_init.binds1 5 3 (by simp) rfl fun _ _ _ _ _ _ _ us its h1 h2 => match us, its, h1, h2 with | [_, _, _, _, _], [_, _, _], _, _ => ⟨_, rfl, rfl⟩
theorem b_l_measures_1 {K : PySem.W.Frag} {mg : Str → Option Value} {φ : Fds} (T : Txt K mg φ) : ∃ ds, Vals ([] : List V) ds ∧ Binds K φ.l_measures p_l_measures ds :=
  ⟨[], .nil, T.f_l_measures.bindsN fun _ _ _ _ _ _ us hl => match us, hl with | [_], _ => rfl⟩
theorem b_Measure_init_2 {K : PySem.W.Frag} {mg : Str → Option Value} {φ : Fds} (T : Txt K mg φ) : ∃ ds, Vals ([V.int 1] : List V) ds ∧ Binds K φ.Measure_init p_Measure_init ds :=
  T.f_Measure_init.binds1 2 0 (by simp) rfl fun _ _ _ _ _ _ _ us its h1 h2 => match us, its, h1, h2 with | [_, _], [_], _, _ => ⟨_, rfl, rfl⟩
theorem b_measure_or_2 {K : PySem.W.Frag} {mg : Str → Option Value} {φ : Fds} (T : Txt K mg φ) : ∃ ds, Vals ([] : List V) ds ∧ Binds K φ.measure_or p_measure_or ds :=
  ⟨[], .nil, T.f_measure_or.bindsN fun _ _ _ _ _ _ us hl => match us, hl with | [_, _], _ => rfl⟩
theorem b_Measure_times_2 {K : PySem.W.Frag} {mg : Str → Option Value} {φ : Fds} (T : Txt K mg φ) : ∃ ds, Vals ([] : List V) ds ∧ Binds K φ.Measure_times p_Measure_times ds :=
  ⟨[], .nil, T.f_Measure_times.bindsN fun _ _ _ _ _ _ us hl => match us, hl with | [_, _], _ => rfl⟩
theorem b_Measure_plus_2 {K : PySem.W.Frag} {mg : Str → Option Value} {φ : Fds} (T : Txt K mg φ) : ∃ ds, Vals ([] : List V) ds ∧ Binds K φ.Measure_plus p_Measure_plus ds :=
  ⟨[], .nil, T.f_Measure_plus.bindsN fun _ _ _ _ _ _ us hl => match us, hl with | [_, _], _ => rfl⟩
theorem b_Grid_graded_2 {K : PySem.W.Frag} {mg : Str → Option Value} {φ : Fds} (T : Txt K mg φ) : ∃ ds, Vals ([] : List V) ds ∧ Binds K φ.Grid_graded p_Grid_graded ds :=
  ⟨[], .nil, T.f_Grid_graded.bindsN fun _ _ _ _ _ _ us hl => match us, hl with | [_, _], _ => rfl⟩
theorem b_written_2 {K : PySem.W.Frag} {mg : Str → Option Value} {φ : Fds} (T : Txt K mg φ) : ∃ ds, Vals ([] : List V) ds ∧ Binds K φ.written p_written ds :=
  ⟨[], .nil, T.f_written.bindsN fun _ _ _ _ _ _ us hl => match us, hl with | [_, _], _ => rfl⟩
theorem b_Measure_eq_2 {K : PySem.W.Frag} {mg : Str → Option Value} {φ : Fds} (T : Txt K mg φ) : ∃ ds, Vals ([] : List V) ds ∧ Binds K φ.Measure_eq p_Measure_eq ds :=
  ⟨[], .nil, T.f_Measure_eq.bindsN fun _ _ _ _ _ _ us hl => match us, hl with | [_, _], _ => rfl⟩
theorem b_Grid_init_4 {K : PySem.W.Frag} {mg : Str → Option Value} {φ : Fds} (T : Txt K mg φ) : ∃ ds, Vals ([] : List V) ds ∧ Binds K φ.Grid_init p_Grid_init ds :=
  T.f_Grid_init.binds1 4 1 (by simp) rfl fun _ _ _ _ _ _ _ us its h1 h2 => match us, its, h1, h2 with | [_, _, _, _], [_], _, _ => ⟨_, rfl, rfl⟩
theorem b_Ladder_eq_2 {K : PySem.W.Frag} {mg : Str → Option Value} {φ : Fds} (T : Txt K mg φ) : ∃ ds, Vals ([] : List V) ds ∧ Binds K φ.Ladder_eq p_Ladder_eq ds :=
  ⟨[], .nil, T.f_Ladder_eq.bindsN fun _ _ _ _ _ _ us hl => match us, hl with | [_, _], _ => rfl⟩
theorem b_l_broad_3 {K : PySem.W.Frag} {mg : Str → Option Value} {φ : Fds} (T : Txt K mg φ) : ∃ ds, Vals ([] : List V) ds ∧ Binds K φ.l_broad p_l_broad ds :=
  ⟨[], .nil, T.f_l_broad.bindsN fun _ _ _ _ _ _ us hl => match us, hl with | [_, _, _], _ => rfl⟩
theorem b_Grid_broad_mark_2 {K : PySem.W.Frag} {mg : Str → Option Value} {φ : Fds} (T : Txt K mg φ) : ∃ ds, Vals ([] : List V) ds ∧ Binds K φ.Grid_broad_mark p_Grid_broad_mark ds :=
  ⟨[], .nil, T.f_Grid_broad_mark.bindsN fun _ _ _ _ _ _ us hl => match us, hl with | [_, _], _ => rfl⟩
theorem b_Grid_long_mark_2 {K : PySem.W.Frag} {mg : Str → Option Value} {φ : Fds} (T : Txt K mg φ) : ∃ ds, Vals ([] : List V) ds ∧ Binds K φ.Grid_long_mark p_Grid_long_mark ds :=
  ⟨[], .nil, T.f_Grid_long_mark.bindsN fun _ _ _ _ _ _ us hl => match us, hl with | [_, _], _ => rfl⟩
theorem b_Grid_broad_mark_1_pair {K : PySem.W.Frag} {mg : Str → Option Value} {φ : Fds} (T : Txt K mg φ) : ∃ its : List Value, KBn K φ.Grid_broad_mark p_Grid_broad_mark 1 ["pair"] (fun vs zs => (fun {α : Type} (vs ds zs : List α) => (vs ++ (zs.drop 0).take 1)) vs its zs) (fun vs zs => (fun {α : Type} (vs ds zs : List α) => (vs ++ (zs.drop 0).take 1)) vs ([] : List V) zs) :=
  ⟨[], kb_none T.f_Grid_broad_mark (fun {α : Type} (vs zs : List α) => (fun (ds : List α) => (vs ++ (zs.drop 0).take 1)) []) (fun a c => (a.append ((c.drop 0).take 1))) fun _ _ _ _ _ _ us ws h1 h2 => match us, ws, h1, h2 with | [_], [_], _, _ => rfl⟩
theorem b_Grid_long_mark_1_pair {K : PySem.W.Frag} {mg : Str → Option Value} {φ : Fds} (T : Txt K mg φ) : ∃ its : List Value, KBn K φ.Grid_long_mark p_Grid_long_mark 1 ["pair"] (fun vs zs => (fun {α : Type} (vs ds zs : List α) => (vs ++ (zs.drop 0).take 1)) vs its zs) (fun vs zs => (fun {α : Type} (vs ds zs : List α) => (vs ++ (zs.drop 0).take 1)) vs ([] : List V) zs) :=
  ⟨[], kb_none T.f_Grid_long_mark (fun {α : Type} (vs zs : List α) => (fun (ds : List α) => (vs ++ (zs.drop 0).take 1)) []) (fun a c => (a.append ((c.drop 0).take 1))) fun _ _ _ _ _ _ us ws h1 h2 => match us, ws, h1, h2 with | [_], [_], _, _ => rfl⟩
theorem b_l_hand_2 {K : PySem.W.Frag} {mg : Str → Option Value} {φ : Fds} (T : Txt K mg φ) : ∃ ds, Vals ([] : List V) ds ∧ Binds K φ.l_hand p_l_hand ds :=
  ⟨[], .nil, T.f_l_hand.bindsN fun _ _ _ _ _ _ us hl => match us, hl with | [_, _], _ => rfl⟩
theorem b_l_grades_1 {K : PySem.W.Frag} {mg : Str → Option Value} {φ : Fds} (T : Txt K mg φ) : ∃ ds, Vals ([] : List V) ds ∧ Binds K φ.l_grades p_l_grades ds :=
  ⟨[], .nil, T.f_l_grades.bindsN fun _ _ _ _ _ _ us hl => match us, hl with | [_], _ => rfl⟩
theorem b_l_marks_of_2 {K : PySem.W.Frag} {mg : Str → Option Value} {φ : Fds} (T : Txt K mg φ) : ∃ ds, Vals ([] : List V) ds ∧ Binds K φ.l_marks_of p_l_marks_of ds :=
  ⟨[], .nil, T.f_l_marks_of.bindsN fun _ _ _ _ _ _ us hl => match us, hl with | [_, _], _ => rfl⟩
theorem b_l_any_ladder_2 {K : PySem.W.Frag} {mg : Str → Option Value} {φ : Fds} (T : Txt K mg φ) : ∃ ds, Vals ([] : List V) ds ∧ Binds K φ.l_any_ladder p_l_any_ladder ds :=
  ⟨[], .nil, T.f_l_any_ladder.bindsN fun _ _ _ _ _ _ us hl => match us, hl with | [_, _], _ => rfl⟩
theorem b_Grid_init_1_grade_breadths_lengths {K : PySem.W.Frag} {mg : Str → Option Value} {φ : Fds} (T : Txt K mg φ) : ∃ its : List Value, KBn K φ.Grid_init p_Grid_init 1 ["grade", "breadths", "lengths"] (fun vs zs => (fun {α : Type} (vs ds zs : List α) => (((vs ++ (zs.drop 2).take 1) ++ (zs.drop 1).take 1) ++ (zs.drop 0).take 1)) vs its zs) (fun vs zs => (fun {α : Type} (vs ds zs : List α) => (((vs ++ (zs.drop 2).take 1) ++ (zs.drop 1).take 1) ++ (zs.drop 0).take 1)) vs ([V.non] : List V) zs) :=
  T.f_Grid_init.kbindsD 1 ["grade", "breadths", "lengths"] (fun {α : Type} (vs ds zs : List α) => (((vs ++ (zs.drop 2).take 1) ++ (zs.drop 1).take 1) ++ (zs.drop 0).take 1)) (by simp) (fun a b c => (((a.append ((c.drop 2).take 1)).append ((c.drop 1).take 1)).append ((c.drop 0).take 1))) fun _ _ _ _ _ _ _ us its ws h1 h2 h3 => match us, its, ws, h1, h2, h3 with | [_], [_], [_, _, _], _, _, _ => ⟨_, rfl, rfl⟩
theorem b_Grid_init_2_grade_breadths {K : PySem.W.Frag} {mg : Str → Option Value} {φ : Fds} (T : Txt K mg φ) : ∃ its : List Value, KBn K φ.Grid_init p_Grid_init 2 ["grade", "breadths"] (fun vs zs => (fun {α : Type} (vs ds zs : List α) => ((vs ++ (zs.drop 1).take 1) ++ (zs.drop 0).take 1)) vs its zs) (fun vs zs => (fun {α : Type} (vs ds zs : List α) => ((vs ++ (zs.drop 1).take 1) ++ (zs.drop 0).take 1)) vs ([V.non] : List V) zs) :=
  T.f_Grid_init.kbindsD 2 ["grade", "breadths"] (fun {α : Type} (vs ds zs : List α) => ((vs ++ (zs.drop 1).take 1) ++ (zs.drop 0).take 1)) (by simp) (fun a b c => ((a.append ((c.drop 1).take 1)).append ((c.drop 0).take 1))) fun _ _ _ _ _ _ _ us its ws h1 h2 h3 => match us, its, ws, h1, h2, h3 with | [_, _], [_], [_, _], _, _, _ => ⟨_, rfl, rfl⟩
theorem b_Grid_init_3 {K : PySem.W.Frag} {mg : Str → Option Value} {φ : Fds} (T : Txt K mg φ) : ∃ ds, Vals ([V.non] : List V) ds ∧ Binds K φ.Grid_init p_Grid_init ds :=
  T.f_Grid_init.binds1 3 0 (by simp) rfl fun _ _ _ _ _ _ _ us its h1 h2 => match us, its, h1, h2 with | [_, _, _], [_], _, _ => ⟨_, rfl, rfl⟩
theorem b_l_is_grid_3 {K : PySem.W.Frag} {mg : Str → Option Value} {φ : Fds} (T : Txt K mg φ) : ∃ ds, Vals ([] : List V) ds ∧ Binds K φ.l_is_grid p_l_is_grid ds :=
  ⟨[], .nil, T.f_l_is_grid.bindsN fun _ _ _ _ _ _ us hl => match us, hl with | [_, _, _], _ => rfl⟩
theorem b_l_deep_2 {K : PySem.W.Frag} {mg : Str → Option Value} {φ : Fds} (T : Txt K mg φ) : ∃ ds, Vals ([] : List V) ds ∧ Binds K φ.l_deep p_l_deep ds :=
  ⟨[], .nil, T.f_l_deep.bindsN fun _ _ _ _ _ _ us hl => match us, hl with | [_, _], _ => rfl⟩
theorem b_l_refused_3 {K : PySem.W.Frag} {mg : Str → Option Value} {φ : Fds} (T : Txt K mg φ) : ∃ ds, Vals ([] : List V) ds ∧ Binds K φ.l_refused p_l_refused ds :=
  ⟨[], .nil, T.f_l_refused.bindsN fun _ _ _ _ _ _ us hl => match us, hl with | [_, _, _], _ => rfl⟩
theorem b_Measure_str_1 {K : PySem.W.Frag} {mg : Str → Option Value} {φ : Fds} (T : Txt K mg φ) : ∃ ds, Vals ([] : List V) ds ∧ Binds K φ.Measure_str p_Measure_str ds :=
  ⟨[], .nil, T.f_Measure_str.bindsN fun _ _ _ _ _ _ us hl => match us, hl with | [_], _ => rfl⟩
theorem ok_is_whole {P : Program} {w : World} {K : PySem.W.Frag} {mg : Str → Option Value} {base : Heap} {φ : Fds} (T : Txt K mg φ) : FnOk P w K mg base CX0 1 (He.fAd K ("is_whole", none)) φ.is_whole p_is_whole sp_whole := by
  refine T.f_is_whole.ok sc_is_whole (fun vs H Q E h => ?_) (fun cdv A outer s H vs Q E hr h => ?_)
  · obtain ⟨n, rfl, k⟩ := h; rfl
  · obtain ⟨n, rfl, k⟩ := h
    refine ⟨_, PSs.nox (pss_one (ps_ret (pe_and (pe_callB (id := "isinstance") (isi (K := K)) (by rfl) T.z_isinstance (by decide +kernel) (pa_cons (pv 0) (pa_cons (pe_bltn (v := .ty "int") rfl T.z_int (by decide +kernel) rfl) pa_nil))) (pe_one (pe_not (pe_callB (id := "isinstance") (isi (K := K)) (by rfl) T.z_isinstance (by decide +kernel) (pa_cons (pv 0) (pa_cons (pe_bltn (v := .ty "bool") rfl T.z_bool (by decide +kernel) rfl) pa_nil)))))))), ?_⟩
    refine ⟨_, rfl, _, _, _, _, _, rfl, .ty _, .base (.int _), kit_ty (r := true) (by decide +kernel), _, rfl, ?_⟩
    refine iteT ?_
    refine ⟨_, rfl, _, _, _, _, _, rfl, .ty _, .base (.int _), kit_ty (r := false) (by decide +kernel), _, rfl, ?_⟩
    exact k
theorem ok_common_part {P : Program} {w : World} {K : PySem.W.Frag} {mg : Str → Option Value} {base : Heap} {φ : Fds} (T : Txt K mg φ) : FnOk P w K mg base CX0 1 (He.fAd K ("common_part", none)) φ.common_part p_common_part sp_common := by
  refine T.f_common_part.ok sc_common_part (fun vs H Q E h => ?_) (fun cdv A outer s H vs Q E hr h => ?_)
  · obtain ⟨a, b, rfl, k⟩ := h; rfl
  · obtain ⟨a, b, rfl, k⟩ := h
    refine ⟨_, PSs.nox (pss_cons (ps_par (i := 2) (j := 3) rfl sc_common_part.nd rfl rfl (by decide) rfl rfl (pa_cons (pe_callB (id := "abs") call_abs (by rfl) T.z_abs (by decide +kernel) (pa_cons (pv 0) pa_nil)) (pa_cons (pe_callB (id := "abs") call_abs (by rfl) T.z_abs (by decide +kernel) (pa_cons (pv 1) pa_nil)) pa_nil)) (by rfl))
      (pss_cons (ps_while PassesOwn.never (pt_cmpR op_gt (pv 3) pe_int (nomark _))
      (pss_one (ps_par (i := 2) (j := 3) rfl sc_common_part.nd rfl rfl (by decide) rfl rfl (pa_cons (pv 3) (pa_cons (pe_op op_mod (pv 2) (pv 3)) pa_nil)) (by rfl))))
      (pss_one (ps_ret (pv 2))))), ?_⟩
    refine ⟨_, rfl, _, rfl, _, rfl, _, rfl, _, _, rfl, ?_⟩
    refine while_by (fun σ H' => H' = H ∧ ∃ g s : Int, σ = [some (.int a), some (.int b), some (.int g), some (.int s)] ∧ 0 ≤ g ∧ 0 ≤ s ∧ Int.gcd g s = Int.gcd a b)
      (fun σ _ => match σ with | [_, _, _, some (.int s)] => s.toNat | _ => 0) ⟨rfl, _, _, rfl, ?_, ?_, ?_⟩ ?_ (fun σ H Q Q' hQ ⟨v, e1, i, j, e2, e3, c, e4, q⟩ => ⟨v, e1, i, j, e2, e3, c, e4, hQ _ _ q⟩)
    · split <;> omega
    · split <;> omega
    · have e1 : (if a < 0 then -a else a) = (a.natAbs : Int) := by split <;> omega
      have e2 : (if b < 0 then -b else b) = (b.natAbs : Int) := by split <;> omega
      rw [e1, e2]
      rfl
    · rintro σ H' ⟨rfl, g, s, rfl, hg, hs, e⟩
      refine ⟨_, rfl, _, _, rfl, rfl, _, rfl, ?_⟩
      refine ite2 (fun c => ?_) (fun c => ?_)
      · have c0 : 0 < s := of_decide_eq_true c
        refine ⟨_, rfl, _, rfl, _, rfl, _, _, rfl, rfl, c0, _, _, rfl, ?_⟩
        refine ⟨⟨rfl, s, g % s, rfl, hs, Int.emod_nonneg _ (by omega), (gcd_step c0 hg).trans e⟩, ?_⟩
        show (g % s).toNat < s.toNat
        have h1 := Int.emod_nonneg g (show s ≠ 0 by omega)
        have h2 := Int.emod_lt_of_pos g c0
        omega
      · have c0 : ¬ 0 < s := fun z => c (decide_eq_true z)
        have s0 : s = 0 := by omega
        subst s0
        refine ⟨_, rfl, ?_⟩
        have eg : g = (Int.gcd a b : Int) := by
          rw [← e, Int.gcd_zero_right]
          omega
        rw [eg]
        exact k
theorem ok_Measure_init {P : Program} {w : World} {K : PySem.W.Frag} {mg : Str → Option Value} {base : Heap} {φ : Fds} (T : Txt K mg φ) : FnOk P w K mg base CX0 2 (He.fAd K ("Measure", some "__init__")) φ.Measure_init p_Measure_init (sp_minit (He.ga K "Measure")) := by
  obtain ⟨_, B0v, B0⟩ := b_is_whole_1 T
  obtain ⟨_, B1v, B1⟩ := b_common_part_2 T
  refine T.f_Measure_init.ok sc_Measure_init (fun vs H Q E h => ?_) (fun cdv A outer s H vs Q E hr h => ?_)
  · obtain ⟨p, dx, a, b, rfl, hp, hb, hl, k⟩ := h; rfl
  · obtain ⟨p, dx, a, b, rfl, hp, hb, hl, k⟩ := h
    refine ⟨_, PSs.nox (pss_cons (ps_if (PW.pt (pw_or (pt_not (pt_val (pe_call (ok_is_whole (K := K) T) (hr.mono (by decide)) rfl T.g_is_whole T.f_is_whole.kp B0 B0v pass0 (pa_cons (pv 1) pa_nil)))) (pw_or1 (pt_not (pt_val (pe_call (ok_is_whole (K := K) T) (hr.mono (by decide)) rfl T.g_is_whole T.f_is_whole.kp B0 B0v pass0 (pa_cons (pv 2) pa_nil)))))))
      (pss_one ps_never)
      pss_nil)
      (pss_cons (ps_if (pt_cmpR op_eq (pv 2) pe_int (nomark _))
      (pss_one ps_never)
      pss_nil)
      (pss_cons (ps_set (i := 3) sc_Measure_init.nd rfl (Or.inl rfl) (pe_call (ok_common_part (K := K) T) (hr.mono (by decide)) rfl T.g_common_part T.f_common_part.kp B1 B1v pass0 (pa_cons (pv 1) (pa_cons (pv 2) pa_nil))))
      (pss_cons (ps_cut (ps_if (pt_cmpR op_lt (pv 2) pe_int (nomark _))
      (pss_one (ps_set (i := 3) sc_Measure_init.nd rfl (Or.inl rfl) (pe_un un_neg (pv 3))))
      pss_nil))
      (pss_cons (ps_fld (pv 0) (pe_op op_fd (pv 1) (pv 3)) rfl)
      (pss_one (ps_fld (pv 0) (pe_op op_fd (pv 2) (pv 3)) rfl))))))), ?_⟩
    refine ⟨_, rfl, a, rfl, _, rfl, ?_⟩
    refine iteF ?_
    refine ⟨_, rfl, b, rfl, _, rfl, ?_⟩
    refine iteF ?_
    refine ⟨_, rfl, rfl, _, rfl, ?_⟩
    rw [dI]
    refine ite2 (fun e => absurd (of_decide_eq_true e) hb) (fun _ => ?_)
    refine ⟨_, rfl, _, rfl, a, b, rfl, ?_⟩
    refine ⟨fun σ' H' => H' = H ∧ ∃ c : Int, c = sgn b * (Int.gcd a b : Int) ∧ σ' = [some (.ref p), some (.int a), some (.int b), some (.int c)], ?_, ?_⟩
    · refine ⟨_, rfl, _, _, rfl, rfl, _, rfl, ?_⟩
      refine ite2 (fun e => ?_) (fun e => ?_)
      · have e0 : b < 0 := of_decide_eq_true e
        refine ⟨_, rfl, _, rfl, rfl, _, ?_, rfl⟩
        unfold sgn
        rw [if_neg (by omega), Int.neg_one_mul]
      · have e0 : ¬ b < 0 := fun z => e (decide_eq_true z)
        refine ⟨rfl, _, ?_, rfl⟩
        unfold sgn
        rw [if_pos (by omega), Int.one_mul]
    · rintro σ' H' ⟨rfl, c, hc, rfl⟩
      obtain ⟨c0, cl, fr⟩ := fr_mk hb hc
      have c9 : c.natAbs.log2 < 9000 := by
        refine Nat.lt_of_le_of_lt ?_ hl
        exact (Nat.le_log2 (by omega)).mpr (Nat.le_trans (Nat.log2_self_le (by omega)) cl)
      refine ⟨_, rfl, _, rfl, _, _, rfl, rfl, ⟨c0, c9⟩, _, rfl, p, _, dx, _, rfl, hp, T.cl_Measure, T.na_Measure_top, (by show 0 < 1000; decide), ?_⟩
      refine ⟨_, rfl, _, rfl, _, _, rfl, rfl, ⟨c0, c9⟩, _, rfl, p, _, dx, _, rfl, upd_same, T.cl_Measure, T.na_Measure_bottom, (by show 1 < 1000; decide), ?_⟩
      refine k _ _ _ fr ?_ fun q o e nq => ?_
      · rw [upd_same, mf_put]
      · rw [upd_ne nq, upd_ne nq]
        exact e
theorem ok_Measure_is_below {P : Program} {w : World} {K : PySem.W.Frag} {mg : Str → Option Value} {base : Heap} {φ : Fds} (T : Txt K mg φ) : FnOk P w K mg base CX0 1 (He.fAd K ("Measure", some "is_below")) φ.Measure_is_below p_Measure_is_below (sp_below (He.ga K "Measure")) := by
  refine T.f_Measure_is_below.ok sc_Measure_is_below (fun vs H Q E h => ?_) (fun cdv A outer s H vs Q E hr h => ?_)
  · obtain ⟨p, q, t, u, t', u', al, rfl, ⟨dp, hp⟩, ⟨dq, hq⟩, st, su, st', su', k⟩ := h; rfl
  · obtain ⟨p, q, t, u, t', u', al, rfl, ⟨dp, hp⟩, ⟨dq, hq⟩, st, su, st', su', k⟩ := h
    refine ⟨_, PSs.nox (pss_cons (ps_set (i := 3) sc_Measure_is_below.nd rfl (Or.inl rfl) (pe_op op_mulA (fldK (K := K) (pv 0) rfl) (fldK (K := K) (pv 1) rfl)))
      (pss_cons (ps_set (i := 4) sc_Measure_is_below.nd rfl (Or.inl rfl) (pe_op op_mulA (fldK (K := K) (pv 1) rfl) (fldK (K := K) (pv 0) rfl)))
      (pss_one (ps_ret (pe_or (pe_cmpR op_lt (pv 3) (pv 4) (nomark _)) (pe_one (pe_and (pv 2) (pe_one (pe_cmpR op_eq (pv 3) (pv 4) (nomark _)))))))))), ?_⟩
    refine ⟨_, rfl, _, _, _, _, _, rfl, hp, T.cl_Measure, T.na_Measure_top, mf_top _ _, _, rfl, _, _, _, _, _, rfl, hq, T.cl_Measure, T.na_Measure_bottom, mf_bottom _ _, _, _, rfl, rfl, st.cmul su' (by decide) (by decide) (by decide), ?_⟩
    refine ⟨_, rfl, _, _, _, _, _, rfl, hq, T.cl_Measure, T.na_Measure_top, mf_top _ _, _, rfl, _, _, _, _, _, rfl, hp, T.cl_Measure, T.na_Measure_bottom, mf_bottom _ _, _, _, rfl, rfl, st'.cmul su (by decide) (by decide) (by decide), ?_⟩
    refine ⟨_, rfl, _, rfl, _, _, rfl, rfl, _, rfl, ?_⟩
    have e : ∀ b : Bool, b = lessA t u t' u' al → Q (.bl b) H := fun b z => by rw [z]; exact k
    refine ite2 (fun c => e _ ?_) (fun c => ?_)
    · unfold lessA
      rw [c]
      rfl
    · have c0 : decide (t * u' < t' * u) = false := by simpa using c
      refine ⟨_, rfl, _, rfl, ?_⟩
      cases al with
      | false =>
        refine iteF (e _ ?_)
        unfold lessA
        rw [c0]
        rfl
      | true =>
        refine iteT ?_
        refine ⟨_, rfl, _, rfl, rfl, e _ ?_⟩
        unfold lessA
        rw [c0, dI]
        rfl
theorem ok_slip_of {P : Program} {w : World} {K : PySem.W.Frag} {mg : Str → Option Value} {base : Heap} {φ : Fds} (T : Txt K mg φ) : FnOk P w K mg base CX0 2 (He.fAd K ("slip_of", none)) φ.slip_of p_slip_of (sp_slip K (He.ga K "Measure")) := by
  obtain ⟨_, B0v, B0⟩ := b_Measure_is_below_2 T
  refine T.f_slip_of.ok sc_slip_of (fun vs H Q E h => ?_) (fun cdv A outer s H vs Q E hr h => ?_)
  · obtain ⟨T', k, ps, zs, rfl, hT, hm, hk, hl, kk⟩ := h; rfl
  · obtain ⟨T', k, ps, zs, rfl, hT, hm, hk, hl, kk⟩ := h
    refine ⟨_, PSs.nox (pss_cons (ps_for PassesOwn.never rfl (pi_range2 rfl T.z_range (pa_cons pe_int (pa_cons (pe_callB (id := "len") (lenS (K := K)) (by rfl) T.z_len PySem.boot_len (pa_cons (pv 0) pa_nil)) pa_nil))) (pg_name (i := 1) sc_slip_of.nd rfl (Or.inl rfl))
      (pss_one (ps_if (pt_not (pt_val (pe_meth (pe_ix (ixt (K := K)) (pv 0) (pe_op op_sub (pv 1) pe_int) (fun _ _ => rfl)) T.cl_Measure T.me_Measure_is_below (ok_Measure_is_below (K := K) T) (hr.mono (by decide)) B0 B0v pass0 (pa_cons (pe_ix (ixt (K := K)) (pv 0) (pv 1) (fun _ _ => rfl)) pa_nil))))
      (pss_one (ps_ret (pv 1)))
      pss_nil)))
      (pss_one (ps_ret pe_non))), ?_⟩
    have el : ((ps.length : Nat) : Int) = (zs.length : Int) := by rw [hm.len]
    walk_at "w"
    refine for_range (fun i σ H' => H' = H ∧ (∃ v, σ = [some (.ref T'), v]) ∧ ∀ j a b, j < i → zs[j]? = some a → zs[j + 1]? = some b → ltq a b = true) ⟨rfl, ⟨_, rfl⟩, fun j a b z => by omega⟩ ?_ ?_
    · rintro i σ H1 hi ⟨rfl, ⟨v, rfl⟩, hp⟩
      obtain ⟨a, ha⟩ := ge2 (zs := zs) (n := i) (by omega)
      obtain ⟨b, hb⟩ := ge2 (zs := zs) (n := i + 1) (by omega)
      obtain ⟨p, ep, qp⟩ := hm.at ha
      obtain ⟨q, eq, qq⟩ := hm.at hb
      walk_at "w"
      refine ⟨atI_of (n := i) (by omega) ep, ?_⟩
      walk_at "w"
      refine ⟨atI_of (n := i + 1) (by omega) eq, ?_⟩
      walk_at "w"
      cases e : ltq a b with
      | false =>
        refine iteT ⟨_, rfl, ?_⟩
        have z : (1 : Int) + i = ((i + 1 : Nat) : Int) := by omega
        rw [z]
        refine kk (some (i + 1)) ⟨by omega, by omega, fun a' b' h1 h2 => ?_, fun j a' b' hj h1 h2 => hp j a' b' (by omega) h1 h2⟩
        rw [Nat.add_sub_cancel, ha] at h1
        rw [hb] at h2
        cases h1; cases h2
        exact e
      | true =>
        refine iteF ⟨rfl, ⟨_, rfl⟩, fun j a' b' hj h1 h2 => ?_⟩
        by_cases hji : j < i
        · exact hp j a' b' hji h1 h2
        · have : j = i := by omega
          subst this
          rw [ha] at h1
          rw [hb] at h2
          cases h1; cases h2
          exact e
    · rintro σ H1 ⟨rfl, ⟨v, rfl⟩, hp⟩
      refine kk none fun j a b h1 h2 => hp j a b ?_ h1 h2
      have := (List.getElem?_eq_some_iff.mp h2).1
      omega
theorem ok_is_measure_or_none {P : Program} {w : World} {K : PySem.W.Frag} {mg : Str → Option Value} {base : Heap} {φ : Fds} (T : Txt K mg φ) : FnOk P w K mg base CX0 1 (He.fAd K ("is_measure_or_none", none)) φ.is_measure_or_none p_is_measure_or_none (sp_isendQ (He.ga K "Measure")) := by
  refine T.f_is_measure_or_none.ok sc_is_measure_or_none (fun vs H Q E h => ?_) (fun cdv A outer s H vs Q E hr h => ?_)
  · obtain ⟨v, k, e, rfl, he, kk⟩ := h; rfl
  · obtain ⟨v, k, e, rfl, he, kk⟩ := h
    refine ⟨_, PSs.nox (pss_one (ps_ret (pe_or (pe_cmpR op_isN (pv 0) pe_non (nomark _)) (pe_one (pe_callB (id := "isinstance") (isi (K := K)) (by rfl) T.z_isinstance (by decide +kernel) (pa_cons (pv 0) (pa_cons (pe_glob (v := .ref (He.ga K "Measure")) rfl T.g_Measure rfl) pa_nil))))))), ?_⟩
    cases e with
    | none =>
      cases he
      walk_at "w"
      exact kk
    | some z =>
      obtain ⟨p, rfl, qz⟩ := he
      obtain ⟨⟨t, u, ⟨dx, hp⟩, _⟩, _⟩ := qz
      refine ⟨_, rfl, rfl, _, rfl, ?_⟩
      walk_at "w"
      refine ⟨_, _, _, rfl, .own _, tyM hp T.cl_Measure T.ii_Measure, T.k_Measure_Measure, kk⟩
theorem ok_are_marks {P : Program} {w : World} {K : PySem.W.Frag} {mg : Str → Option Value} {base : Heap} {φ : Fds} (T : Txt K mg φ) : FnOk P w K mg base CX0 1 (He.fAd K ("are_marks", none)) φ.are_marks p_are_marks (sp_arem K (He.ga K "Measure")) := by
  refine T.f_are_marks.ok sc_are_marks (fun vs H Q E h => ?_) (fun cdv A outer s H vs Q E hr h => ?_)
  · obtain ⟨T', k, ps, zs, rfl, hT, hm, h0, h1, kk⟩ := h; rfl
  · obtain ⟨T', k, ps, zs, rfl, hT, hm, h0, h1, kk⟩ := h
    refine ⟨_, PSs.nox (pss_cons (ps_if (PW.pt (pw_or (pt_not (pt_val (pe_callB (id := "isinstance") (isi (K := K)) (by rfl) T.z_isinstance (by decide +kernel) (pa_cons (pv 0) (pa_cons (pe_bltn (v := .ty "tuple") rfl T.z_tuple (by decide +kernel) rfl) pa_nil))))) (pw_or1 (pt_not (pt_chain op_le op_le pe_int (pe_callB (id := "len") (lenS (K := K)) (by rfl) T.z_len PySem.boot_len (pa_cons (pv 0) pa_nil)) (C8.pe_gc (v := .int 24) rfl (T.v_MOST_MARKS.elim fun t e => ⟨_, e, ⟨t, rfl⟩⟩)))))))
      (pss_one (ps_ret pe_bl))
      pss_nil)
      (pss_one (ps_ret (pe_callB (id := "all") (allK (K := K)) (by rfl) T.z_all (by decide +kernel) (pa_cons (pe_lc (own := [("mark", 1)]) (g := gName 1) rfl sc_are_marks.nd (pi_tup (pv 0)) (blkOk_by (own := [("mark", 1)]) (N := N_are_marks) (sc := (defScope s_are_marks)) (by decide +kernel)) (fun _ _ _ _ _ => (pg_name (i := 1) sc_are_marks.nd rfl (Or.inl rfl))) (fun _ _ _ _ _ => pts_nil) (fun _ _ _ _ _ => (pe_callB (id := "isinstance") (isi (K := K)) (by rfl) T.z_isinstance (by decide +kernel) (pa_cons (pv 1) (pa_cons (pe_glob (v := .ref (He.ga K "Measure")) rfl T.g_Measure rfl) pa_nil))))) pa_nil))))), ?_⟩
    have el : ps.length = zs.length := hm.len
    refine ⟨_, rfl, _, _, _, _, _, rfl, .ty _, tyTup hT, kit_ty (r := true) (by decide +kernel), _, rfl, iteF ?_⟩
    walk_at "w"
    refine ⟨⟨_, hT⟩, fun D nD => ?_⟩
    refine lcz (n := ps.length) walk_tup (fun _ _ g s => s.sqt g) (List.replicate ps.length (some (V.bl true))) (by simp) (by rw [sizeLine_eq]; omega) hT nD (fun i x H1 H2 z N M hi hz s1 y hN hM => ?_) (fun H1 s1 hD => ?_)
    · obtain ⟨rfl, hx⟩ := y
      obtain ⟨p, z1, rfl, _, qz⟩ := (hm.same s1).of hx
      obtain ⟨⟨t, u, ⟨dx, hp⟩, _⟩, _⟩ := qz
      rw [List.getElem?_replicate, if_pos hi] at hz
      cases hz
      refine ⟨rfl, yesT ?_⟩
      exact ⟨_, rfl, _, _, _, _, _, rfl, .own _, tyM hp T.cl_Measure T.ii_Measure, T.k_Measure_Measure, hN _ _ rfl (Same.refl _)⟩
    have e : (List.replicate ps.length (some (V.bl true))).filterMap _root_.id = (List.replicate ps.length true).map V.bl := by
      generalize ps.length = n
      induction n with
      | zero => rfl
      | succ n ih => rw [List.replicate_succ, List.replicate_succ]; simpa using ih
    rw [e] at hD
    refine ⟨D, _, rfl, SqL.of hD, ?_⟩
    have e2 : (List.replicate ps.length true).all _root_.id = true := by
      generalize ps.length = n
      induction n with
      | zero => rfl
      | succ n ih => rw [List.replicate_succ]; simpa using ih
    rw [e2]
    exact kk _ s1
theorem ok_is_rule {P : Program} {w : World} {K : PySem.W.Frag} {mg : Str → Option Value} {base : Heap} {φ : Fds} (T : Txt K mg φ) : FnOk P w K mg base CX0 1 (He.fAd K ("is_rule", none)) φ.is_rule p_is_rule sp_isrule := by
  refine T.f_is_rule.ok sc_is_rule (fun vs H Q E h => ?_) (fun cdv A outer s H vs Q E hr h => ?_)
  · obtain ⟨r, rfl, hr', kk⟩ := h; rfl
  · obtain ⟨r, rfl, hr', kk⟩ := h
    refine ⟨_, PSs.nox (pss_one (ps_ret (pe_and (pe_callB (id := "isinstance") (isi (K := K)) (by rfl) T.z_isinstance (by decide +kernel) (pa_cons (pv 0) (pa_cons (pe_bltn (v := .ty "str") rfl T.z_str (by decide +kernel) rfl) pa_nil))) (pe_one (pe_cmpR (inK (K := K)) (pv 0) (pe_glob (v := .ref (He.ga K "RULES")) rfl T.g_RULES rfl) (by rfl)))))), ?_⟩
    refine ⟨_, rfl, _, _, _, _, _, rfl, .ty _, .base (.str _), kit_ty (r := true) (by decide +kernel), _, rfl, iteT ?_⟩
    refine ⟨_, rfl, _, _, rfl, .inr (T.tp_RULES H), rfl, rfl, ?_⟩
    have e : inV (.str r) (([Str.ofString "up", Str.ofString "down", Str.ofString "near"] : List Str).map V.str) = true := by
      rcases hr' with rfl | rfl | rfl <;> decide +kernel
    simp only [Bool.false_eq_true, if_false]
    rw [e]
    exact kk
theorem ok_is_span {P : Program} {w : World} {K : PySem.W.Frag} {mg : Str → Option Value} {base : Heap} {φ : Fds} (T : Txt K mg φ) : FnOk P w K mg base CX0 2 (He.fAd K ("is_span", none)) φ.is_span p_is_span (sp_span (He.ga K "Measure")) := by
  obtain ⟨_, B0v, B0⟩ := b_Measure_is_below_3 T
  refine T.f_is_span.ok sc_is_span (fun vs H Q E h => ?_) (fun cdv A outer s H vs Q E hr h => ?_)
  · obtain ⟨l, h, k, lo, hi, rfl, ql, qh, hk, kk⟩ := h; rfl
  · obtain ⟨l, h, k, lo, hi, rfl, ql, qh, hk, kk⟩ := h
    refine ⟨_, PSs.nox (pss_one (ps_ret (pe_or (pe_cmpR op_isN (pv 0) pe_non (nomark _)) (pe_or (pe_cmpR op_isN (pv 1) pe_non (nomark _)) (pe_one (pe_meth (pv 0) T.cl_Measure T.me_Measure_is_below (ok_Measure_is_below (K := K) T) (hr.mono (by decide)) B0 B0v pass0 (pa_cons (pv 1) (pa_cons pe_bl pa_nil)))))))), ?_⟩
    cases lo with
    | none =>
      cases ql
      walk_at "w"
      exact kk
    | some a =>
      obtain ⟨pl, rfl, qa⟩ := ql
      cases hi with
      | none =>
        cases qh
        walk_at "w"
        exact kk
      | some b =>
        obtain ⟨ph, rfl, qb⟩ := qh
        rw [span_leq] at kk
        walk_at "w"
        exact kk
theorem ok_Ladder_init {P : Program} {w : World} {K : PySem.W.Frag} {mg : Str → Option Value} {base : Heap} {φ : Fds} (T : Txt K mg φ) : FnOk P w K mg base CX0 3 (He.fAd K ("Ladder", some "__init__")) φ.Ladder_init p_Ladder_init (sp_linit K (He.ga K "Measure") (He.ga K "Ladder")) := by
  obtain ⟨_, B0v, B0⟩ := b_are_marks_1 T
  obtain ⟨_, B1v, B1⟩ := b_is_rule_1 T
  obtain ⟨_, B2v, B2⟩ := b_is_measure_or_none_1 T
  obtain ⟨_, B3v, B3⟩ := b_is_span_2 T
  obtain ⟨_, B4v, B4⟩ := b_slip_of_1 T
  refine T.f_Ladder_init.ok sc_Ladder_init (fun vs H Q E h => ?_) (fun cdv A outer s H vs Q E hr h => ?_)
  · obtain ⟨p, dx, T', k, ps, zs, r, l, h, lo, hi, rfl, hp, hT, hm, hk, h0, h1, hri, hru, ql, qh, hsp, kk⟩ := h; rfl
  · obtain ⟨p, dx, T', k, ps, zs, r, l, h, lo, hi, rfl, hp, hT, hm, hk, h0, h1, hri, hru, ql, qh, hsp, kk⟩ := h
    refine ⟨_, PSs.nox (pss_cons (ps_if (pt_not (pt_val (pe_call (ok_are_marks (K := K) T) (hr.mono (by decide)) rfl T.g_are_marks T.f_are_marks.kp B0 B0v pass0 (pa_cons (pv 1) pa_nil))))
      (pss_one ps_never)
      pss_nil)
      (pss_cons (ps_if (pt_not (pt_val (pe_call (ok_is_rule (K := K) T) (hr.mono (by decide)) rfl T.g_is_rule T.f_is_rule.kp B1 B1v pass0 (pa_cons (pv 2) pa_nil))))
      (pss_one ps_never)
      pss_nil)
      (pss_cons (ps_if (PW.pt (pw_or (pt_not (pt_val (pe_call (ok_is_measure_or_none (K := K) T) (hr.mono (by decide)) rfl T.g_is_measure_or_none T.f_is_measure_or_none.kp B2 B2v pass0 (pa_cons (pv 3) pa_nil)))) (pw_or1 (pt_not (pt_val (pe_call (ok_is_measure_or_none (K := K) T) (hr.mono (by decide)) rfl T.g_is_measure_or_none T.f_is_measure_or_none.kp B2 B2v pass0 (pa_cons (pv 4) pa_nil)))))))
      (pss_one ps_never)
      pss_nil)
      (pss_cons (ps_if (pt_not (pt_val (pe_call (ok_is_span (K := K) T) (hr.mono (by decide)) rfl T.g_is_span T.f_is_span.kp B3 B3v pass0 (pa_cons (pv 3) (pa_cons (pv 4) pa_nil)))))
      (pss_one ps_never)
      pss_nil)
      (pss_cons (ps_set (i := 5) sc_Ladder_init.nd rfl (Or.inl rfl) (pe_call (ok_slip_of (K := K) T) (hr.mono (by decide)) rfl T.g_slip_of T.f_slip_of.kp B4 B4v pass0 (pa_cons (pv 1) pa_nil)))
      (pss_cons (ps_if (pt_cmpR op_notN (pv 5) pe_non (nomark _))
      (pss_one ps_never)
      pss_nil)
      (pss_cons (ps_fld (pv 0) (pv 1) rfl)
      (pss_cons (ps_fld (pv 0) (pv 2) rfl)
      (pss_cons (ps_fld (pv 0) (pv 3) rfl)
      (pss_one (ps_fld (pv 0) (pv 4) rfl))))))))))), ?_⟩
    have cl_Ladder := T.cl_Ladder
    have na_Ladder_marks := T.na_Ladder_marks
    have na_Ladder_rule := T.na_Ladder_rule
    have na_Ladder_least := T.na_Ladder_least
    have na_Ladder_most := T.na_Ladder_most
    
    walk_at "w"
    refine ⟨zs, rfl, hT, hm, h0, h1, fun H1 s1 => ?_⟩
    walk_at "w"
    refine ⟨lo, rfl, ql.same s1, ?_⟩
    walk_at "w"
    refine ⟨hi, rfl, qh.same s1, ?_⟩
    have hT1 := s1.sqt hT
    have hm1 := hm.same s1
    replace ql := ql.same s1
    replace qh := qh.same s1
    have hp1 := s1 _ _ hp
    walk_at "w"
    refine ⟨lo, hi, rfl, ql, qh, by omega, ?_⟩
    rw [hsp]
    walk_at "w"
    refine ⟨zs, rfl, hT1, hm1, by omega, by omega, fun o ho => ?_⟩
    have eo : o = none := by
      cases o with
      | none => rfl
      | some n =>
        obtain ⟨n1, n2, n3, _⟩ := ho
        obtain ⟨a, ha⟩ := ge2 (zs := zs) (n := n - 1) (by omega)
        obtain ⟨b, hb⟩ := ge2 (zs := zs) (n := n) n2
        have z1 := n3 a b ha hb
        have z2 := hri (n - 1) a b ha (by rw [Nat.sub_add_cancel n1]; exact hb)
        rw [z1] at z2
        cases z2
    subst eo
    walk_at "w"
    refine ⟨by show 0 < 1000; decide, ?_⟩
    refine ⟨_, rfl, _, rfl, p, _, dx, _, rfl, upd_same, cl_Ladder, na_Ladder_rule, by show 1 < 1000; decide, ?_⟩
    refine ⟨_, rfl, _, rfl, p, _, dx, _, rfl, upd_same, cl_Ladder, na_Ladder_least, by show 2 < 1000; decide, ?_⟩
    refine ⟨_, rfl, _, rfl, p, _, dx, _, rfl, upd_same, cl_Ladder, na_Ladder_most, by show 3 < 1000; decide, ?_⟩
    refine kk _ ?_ fun c o ec nc => ?_
    · rw [upd_same, lf_put]
    · rw [upd_ne nc, upd_ne nc, upd_ne nc, upd_ne nc]
      exact s1 _ _ ec
theorem ok_l_hand {P : Program} {w : World} {K : PySem.W.Frag} {mg : Str → Option Value} {base : Heap} {φ : Fds} (T : Txt K mg φ) : FnOk P w K mg base CX0 1 (He.fAd K ("_law_hand", none)) φ.l_hand p_l_hand (sp_hand K) := by
  refine T.f_l_hand.ok sc_l_hand (fun vs H Q E h => ?_) (fun cdv A outer s H vs Q E hr h => ?_)
  · obtain ⟨a, ns, kk, rfl, hS, hk, k⟩ := h; rfl
  · obtain ⟨a, ns, kk, rfl, hS, hk, k⟩ := h
    refine ⟨_, PSs.nox (pss_cons (ps_set (i := 2) sc_l_hand.nd rfl (Or.inl rfl) pe_int)
      (pss_cons (ps_cut (ps_if (pt_cmpR op_lt (pv 1) (pe_callB (id := "len") (lenS (K := K)) (by rfl) T.z_len PySem.boot_len (pa_cons (pv 0) pa_nil)) (nomark _))
      (pss_one (ps_set (i := 2) sc_l_hand.nd rfl (Or.inl rfl) (pe_ix (ixl (K := K)) (pv 0) (pv 1) (fun _ _ => rfl))))
      pss_nil))
      (pss_cons (ps_set (i := 3) sc_l_hand.nd rfl (Or.inl rfl) (pe_op op_mulA (pe_callB (id := "abs") call_abs (by rfl) T.z_abs (by decide +kernel) (pa_cons (pv 2) pa_nil)) (pe_callTy (T := "int") call_int1 (by rfl) T.z_int (by decide +kernel) (pa_cons (pe_cmpR op_ge (pe_callB (id := "abs") call_abs (by rfl) T.z_abs (by decide +kernel) (pa_cons (pv 2) pa_nil)) (pe_op op_pow pe_int pe_int) (nomark _)) pa_nil))))
      (pss_one (ps_ret (pe_lst (pa_cons (pv 3) (pa_cons (pe_op op_mod (pe_op op_add (pe_op op_add (pe_op op_mod (pv 2) pe_int) (pe_op op_mulA pe_int (pv 1))) pe_int) pe_int) (pa_cons pe_int pa_nil))))))))), ?_⟩
    refine ⟨fun σ' H' => H' = H ∧ ∃ z : Int, σ' = [some (.ref a), some (.int kk), some (.int z), none], ?_, ?_⟩
    · refine ⟨_, rfl, _, rfl, a, _, rfl, .inl hS, _, _, rfl, rfl, _, rfl, ?_⟩
      refine ite2 (fun e => ?_) (fun e => ?_)
      · have e0 : (kk : Int) < ((ns.map V.int).length : Int) := of_decide_eq_true e
        rw [List.length_map] at e0
        have e1 : kk < ns.length := by omega
        refine ⟨_, rfl, _, rfl, a, _, _, V.int ns[kk], rfl, rfl, hS, atI_nat ?_, rfl, _, rfl⟩
        rw [List.getElem?_map, List.getElem?_eq_getElem e1]
        rfl
      · exact ⟨rfl, 0, rfl⟩
    · rintro σ' H' ⟨rfl, z, rfl⟩
      refine ⟨_, rfl, _, rfl, _, rfl, _, rfl, _, _, rfl, rfl, ⟨by decide, by decide, by decide⟩, _, _, rfl, rfl, .inr ⟨_, rfl, _, _, rfl, rfl, .inl (.inr ?_), ?_⟩⟩
      · cases decide ((10 : Int) ^ Int.toNat 18 ≤ (if z < 0 then -z else z)) <;> exact ⟨by decide, by decide⟩
      refine ⟨_, rfl, _, rfl, _, _, rfl, rfl, (by show (0 : Int) < 2305843009213693951; decide), _, rfl, _, _, rfl, rfl, .inl (.inl ⟨by decide, by decide⟩), _, _, rfl, rfl, _, _, rfl, rfl, _, _, rfl, rfl, (by show (0 : Int) < 2305843009213693951; decide), by show 3 ≤ sizeLine; decide, fun p hp => ?_⟩
      refine k p _ hp (same1 hp) ⟨_, _, _, upd_same, ?_, Int.emod_nonneg _ (by decide), Int.lt_trans (Int.emod_lt_of_pos _ (by decide)) (by decide), by decide, by decide⟩
      have ez : 0 ≤ (if z < 0 then -z else z) := by split <;> omega
      generalize (if z < 0 then -z else z) = y at *
      by_cases e : (10 : Int) ^ Int.toNat 18 ≤ y
      · rw [decide_eq_true e]
        show 0 ≤ y * 1
        omega
      · rw [decide_eq_false e]
        show 0 ≤ y * 0
        omega
theorem ok_l_take {P : Program} {w : World} {K : PySem.W.Frag} {mg : Str → Option Value} {base : Heap} {φ : Fds} (T : Txt K mg φ) : FnOk P w K mg base CX0 1 (He.fAd K ("_law_take", none)) φ.l_take p_l_take sp_take := by
  refine T.f_l_take.ok sc_l_take (fun vs H Q E h => ?_) (fun cdv A outer s H vs Q E hr h => ?_)
  · obtain ⟨hd, n, m, rfl, hh, hn, hm, hl, k⟩ := h; rfl
  · obtain ⟨hd, n, m, rfl, hh, hn, hm, hl, k⟩ := h
    refine ⟨_, PSs.nox (pss_cons (ps_if (pt_cmpR op_gt (pe_ix (ixl (K := K)) (pv 0) pe_int (fun _ _ => rfl)) pe_int (nomark _))
      (pss_cons (ps_set (i := 2) sc_l_take.nd rfl (Or.inl rfl) (pe_op op_mod (pe_ix (ixl (K := K)) (pv 0) pe_int (fun _ _ => rfl)) (pv 1)))
      (pss_cons (ps_asg (pe_op op_fd (pe_ix (ixl (K := K)) (pv 0) pe_int (fun _ _ => rfl)) (pv 1)) (pg_sub (pv 0) pe_int set_list))
      (pss_one (ps_ret (pv 2)))))
      pss_nil)
      (pss_cons (ps_asg (pe_op op_add (pe_ix (ixl (K := K)) (pv 0) pe_int (fun _ _ => rfl)) pe_int) (pg_sub (pv 0) pe_int set_list))
      (pss_cons (ps_set (i := 3) sc_l_take.nd rfl (Or.inl rfl) (pe_op op_mod (pe_op op_pow (pe_op op_add (pe_op op_add (pe_ix (ixl (K := K)) (pv 0) pe_int (fun _ _ => rfl)) (pe_op op_mulA (pe_op op_mulA pe_int (pe_ix (ixl (K := K)) (pv 0) pe_int (fun _ _ => rfl))) (pe_ix (ixl (K := K)) (pv 0) pe_int (fun _ _ => rfl)))) pe_int) pe_int) pe_int))
      (pss_cons (ps_set (i := 3) sc_l_take.nd rfl (Or.inl rfl) (pe_op op_mod (pe_op op_mulA (pv 3) (pe_op op_add (pe_op op_mod (pv 3) pe_int) (pe_op op_mulA pe_int (pe_ix (ixl (K := K)) (pv 0) pe_int (fun _ _ => rfl))))) pe_int))
      (pss_one (ps_ret (pe_op op_mod (pe_op op_fd (pv 3) pe_int) (pv 1)))))))), ?_⟩
    obtain ⟨a, b, c, h0, ha, hb, hb2, hc, hc2⟩ := hh
    refine ⟨_, rfl, _, _, _, _, rfl, rfl, SqL.of h0, rfl, _, _, rfl, rfl, _, rfl, ?_⟩
    refine ite2 (fun e => ?_) (fun e => ?_)
    · have e0 : 0 < a := of_decide_eq_true e
      refine ⟨_, rfl, _, _, _, _, rfl, rfl, SqL.of h0, rfl, _, rfl, _, _, rfl, rfl, hm, ?_⟩
      refine ⟨_, rfl, _, _, _, _, rfl, rfl, SqL.of h0, rfl, _, rfl, _, _, rfl, rfl, ⟨by omega, hl⟩, _, rfl, _, _, _, _, rfl, rfl, h0, rfl, ?_⟩
      refine ⟨_, rfl, k _ _ (Int.emod_nonneg _ (by omega)) (Int.emod_lt_of_pos _ hm) ⟨a.fdiv m, b, c, upd_same, ?_, hb, hb2, hc, by omega⟩ (Kp.refl _ _).set⟩
      rw [Int.fdiv_eq_ediv_of_nonneg a (by omega)]
      exact Int.ediv_nonneg ha (by omega)
    · have c9 : c ≤ 1000000 := by omega
      refine ⟨_, rfl, _, _, _, _, rfl, rfl, SqL.of h0, rfl, _, _, rfl, rfl, _, rfl, _, _, _, _, rfl, rfl, h0, rfl, ?_⟩
      have h1 : (upd H hd (.lst ([V.int a, V.int b, V.int c].set 2 (V.int (c + 1))))) hd = some (.lst [V.int a, V.int b, V.int (c + 1)]) := upd_same
      have hcc : 0 ≤ 7919 * (c + 1) * (c + 1) := Int.mul_nonneg (Int.mul_nonneg (by omega) (by omega)) (by omega)
      have hcd : 7919 * (c + 1) * (c + 1) ≤ 7919 * 1000001 * 1000001 := Int.mul_le_mul (Int.mul_le_mul_of_nonneg_left (by omega) (by omega)) (by omega) (by omega) (by omega)
      refine ⟨_, rfl, _, _, _, _, rfl, rfl, SqL.of h1, rfl, _, rfl, _, _, _, _, rfl, rfl, SqL.of h1, rfl, _, _, rfl, rfl, .inl (.inl ⟨by decide, by decide⟩), _, rfl, _, _, _, _, rfl, rfl, SqL.of h1, rfl, _, _, rfl, rfl, .inl (.inr ⟨by omega, by omega⟩), _, _, rfl, rfl, _, _, rfl, rfl, _, _, rfl, rfl, ⟨by decide, by decide, by omega⟩, _, _, rfl, rfl, (by show (0 : Int) < 2305843009213693921; decide), ?_⟩
      refine ⟨_, rfl, _, rfl, _, _, rfl, rfl, (by show (0 : Int) < 1000003; decide), _, rfl, _, _, _, _, rfl, rfl, SqL.of h1, rfl, _, _, rfl, rfl, .inl (.inl ⟨by decide, by decide⟩), _, _, rfl, rfl, _, _, rfl, rfl, .inl (.inr ?_), _, _, rfl, rfl, (by show (0 : Int) < 2305843009213693907; decide), ?_⟩
      · generalize (b + 7919 * (c + 1) * (c + 1) + 11) ^ Int.toNat 3 % 2305843009213693921 = z
        constructor <;> omega
      · generalize (b + 7919 * (c + 1) * (c + 1) + 11) ^ Int.toNat 3 % 2305843009213693921 = z
        generalize z * (z % 1000003 + 99991 * (c + 1)) % 2305843009213693907 = y
        refine ⟨_, rfl, _, _, rfl, rfl, ⟨by decide, by decide +kernel⟩, _, rfl, _, _, rfl, rfl, hm, ?_⟩
        exact k _ _ (Int.emod_nonneg _ (by omega)) (Int.emod_lt_of_pos _ hm) ⟨a, b, c + 1, upd_same, ha, hb, hb2, by omega, by omega⟩ (Kp.refl _ _).set
theorem ok_l_pick {P : Program} {w : World} {K : PySem.W.Frag} {mg : Str → Option Value} {base : Heap} {φ : Fds} (T : Txt K mg φ) : FnOk P w K mg base CX0 2 (He.fAd K ("_law_pick", none)) φ.l_pick p_l_pick (sp_of K) := by
  obtain ⟨_, B0v, B0⟩ := b_l_take_2 T
  refine T.f_l_pick.ok sc_l_pick (fun vs H Q E h => ?_) (fun cdv A outer s H vs Q E hr h => ?_)
  · obtain ⟨h, l, n, xs, rfl, hh, hn, hl, ne, l0, l1, k⟩ := h; rfl
  · obtain ⟨h, l, n, xs, rfl, hh, hn, hl, ne, l0, l1, k⟩ := h
    refine ⟨_, PSs.nox (pss_one (ps_ret (pe_ix (ixl (K := K)) (pv 1) (pe_call (ok_l_take (K := K) T) (hr.mono (by decide)) rfl T.g_l_take T.f_l_take.kp B0 B0v pass0 (pa_cons (pv 0) (pa_cons (pe_callB (id := "len") (lenS (K := K)) (by rfl) T.z_len PySem.boot_len (pa_cons (pv 1) pa_nil)) pa_nil))) (fun _ _ => rfl)))), ?_⟩
    refine ⟨_, rfl, _, rfl, _, rfl, l, xs, rfl, .inl hl, h, n, (xs.length : Int), rfl, hh, by omega, by omega, ?_, fun d H1 d0 d1 hh1 k1 => ?_⟩
    · have : (xs.length : Int).natAbs = xs.length := by omega
      rw [this]
      have : xs.length < 2 ^ 10 := by omega
      exact Nat.lt_of_lt_of_le (PySem.Flt.log2_lt_of (by decide) this) (by decide)
    obtain ⟨j, rfl⟩ := Int.eq_ofNat_of_zero_le d0
    have hj : j < xs.length := by omega
    exact ⟨l, xs, _, xs[j], rfl, rfl, k1.seq ne hl, atI_nat (List.getElem?_eq_getElem hj), k j _ _ (List.getElem?_eq_getElem hj) hh1 k1⟩
theorem ok_l_plain {P : Program} {w : World} {K : PySem.W.Frag} {mg : Str → Option Value} {base : Heap} {φ : Fds} (T : Txt K mg φ) : FnOk P w K mg base CX0 1 (He.fAd K ("_law_plain", none)) φ.l_plain p_l_plain sp_plain := by
  refine T.f_l_plain.ok sc_l_plain (fun vs H Q E h => ?_) (fun cdv A outer s H vs Q E hr h => ?_)
  · obtain ⟨a, b, k, rfl, hb, sa, sb, k0, k1, kk⟩ := h; rfl
  · obtain ⟨a, b, k, rfl, hb, sa, sb, k0, k1, kk⟩ := h
    refine ⟨_, PSs.nox (pss_cons (ps_par (i := 2) (j := 3) rfl sc_l_plain.nd rfl rfl (by decide) rfl rfl (pa_cons (pe_callB (id := "abs") call_abs (by rfl) T.z_abs (by decide +kernel) (pa_cons (pv 0) pa_nil)) (pa_cons (pv 1) pa_nil)) (by rfl))
      (pss_cons (ps_while PassesOwn.never (pt_cmpR op_gt (pv 3) pe_int (nomark _))
      (pss_one (ps_par (i := 2) (j := 3) rfl sc_l_plain.nd rfl rfl (by decide) rfl rfl (pa_cons (pv 3) (pa_cons (pe_op op_mod (pv 2) (pv 3)) pa_nil)) (by rfl))))
      (pss_one (ps_ret (pe_tup (pa_cons (pe_op op_fd (pv 0) (pv 2)) (pa_cons (pe_op op_fd (pv 1) (pv 2)) pa_nil))))))), ?_⟩
    refine ⟨_, rfl, _, rfl, _, rfl, _, _, rfl, ?_⟩
    refine while_by (fun σ H' => H' = H ∧ ∃ g s : Int, σ = [some (.int a), some (.int b), some (.int g), some (.int s)] ∧ 0 ≤ g ∧ 0 ≤ s ∧ Int.gcd g s = Int.gcd a b)
      (fun σ _ => match σ with | [_, _, _, some (.int s)] => s.toNat | _ => 0) ⟨rfl, _, _, rfl, ?_, ?_, ?_⟩ ?_ (fun σ H Q Q' hQ ⟨v, e1, i, j, e2, e3, c, e4, q⟩ => ⟨v, e1, i, j, e2, e3, c, e4, hQ _ _ q⟩)
    · split <;> omega
    · omega
    · have e1 : (if a < 0 then -a else a) = (a.natAbs : Int) := by split <;> omega
      rw [e1]
      show Nat.gcd (a.natAbs : Int).natAbs b.natAbs = _
      rw [Int.natAbs_natCast]
      rfl
    rintro σ H' ⟨rfl, g, s, rfl, hg, hs, e⟩
    refine ⟨_, rfl, _, _, rfl, rfl, _, rfl, ?_⟩
    refine ite2 (fun c => ?_) (fun c => ?_)
    · have c0 : 0 < s := of_decide_eq_true c
      refine ⟨_, rfl, _, rfl, _, rfl, _, _, rfl, rfl, c0, _, _, rfl, ?_⟩
      refine ⟨⟨rfl, s, g % s, rfl, hs, Int.emod_nonneg _ (by omega), (gcd_step c0 hg).trans e⟩, ?_⟩
      show (g % s).toNat < s.toNat
      have h1 := Int.emod_nonneg g (show s ≠ 0 by omega)
      have h2 := Int.emod_lt_of_pos g c0
      omega
    · have c0 : ¬ 0 < s := fun z => c (decide_eq_true z)
      have s0 : s = 0 := by omega
      subst s0
      have eg : g = (Int.gcd a b : Int) := by
        rw [← e, Int.gcd_zero_right]
        omega
      subst eg
      have es : (Int.gcd a b : Int) = sgn b * (Int.gcd a b : Int) := by
        unfold sgn
        rw [if_pos hb, Int.one_mul]
      obtain ⟨c0, cl, fr⟩ := fr_mk (a := a) (b := b) (by omega) es
      have c9 : (Int.gcd a b : Int).natAbs.log2 < 9000 := (sb.le cl).log k0 (by omega)
      refine ⟨_, rfl, _, rfl, _, _, rfl, rfl, ⟨c0, c9⟩, _, rfl, _, rfl, _, _, rfl, rfl, ⟨c0, c9⟩, by show 2 ≤ sizeLine; decide, fun p np => ?_⟩
      exact kk _ (a.fdiv (Int.gcd a b : Int), b.fdiv (Int.gcd a b : Int)) _ (same1 np) (TQ.mk upd_same fr.pos (sa.le fr.lt) (sb.le fr.lu)) ⟨fr.pos, hb, fr.eq⟩
theorem ok_l_sum {P : Program} {w : World} {K : PySem.W.Frag} {mg : Str → Option Value} {base : Heap} {φ : Fds} (T : Txt K mg φ) : FnOk P w K mg base CX0 2 (He.fAd K ("_law_sum", none)) φ.l_sum p_l_sum sp_sum := by
  obtain ⟨_, B0v, B0⟩ := b_l_plain_2 T
  refine T.f_l_sum.ok sc_l_sum (fun vs H Q E h => ?_) (fun cdv A outer s H vs Q E hr h => ?_)
  · obtain ⟨v, w, k, j, x, y, rfl, ⟨p, rfl, hp, px, x1, x2⟩, ⟨q, rfl, hq, py, y1, y2⟩, k0, j0, l, kk⟩ := h; rfl
  · obtain ⟨v, w, k, j, x, y, rfl, ⟨p, rfl, hp, px, x1, x2⟩, ⟨q, rfl, hq, py, y1, y2⟩, k0, j0, l, kk⟩ := h
    refine ⟨_, PSs.nox (pss_one (ps_ret (pe_call (ok_l_plain (K := K) T) (hr.mono (by decide)) rfl T.g_l_plain T.f_l_plain.kp B0 B0v pass0 (pa_cons (pe_op op_add (pe_op op_mulA (pe_ix (ixt (K := K)) (pv 0) pe_int (fun _ _ => rfl)) (pe_ix (ixt (K := K)) (pv 1) pe_int (fun _ _ => rfl))) (pe_op op_mulA (pe_ix (ixt (K := K)) (pv 1) pe_int (fun _ _ => rfl)) (pe_ix (ixt (K := K)) (pv 0) pe_int (fun _ _ => rfl)))) (pa_cons (pe_op op_mulA (pe_ix (ixt (K := K)) (pv 0) pe_int (fun _ _ => rfl)) (pe_ix (ixt (K := K)) (pv 1) pe_int (fun _ _ => rfl))) pa_nil))))), ?_⟩
    walk_at "w"
    refine ⟨x1.cmul y2 k0 j0 (by omega), ?_⟩
    walk_at "w"
    refine ⟨y1.cmul x2 j0 k0 (by omega), ?_⟩
    walk_at "w"
    refine ⟨x2.cmul y2 k0 j0 (by omega), ?_⟩
    refine ⟨_, _, k + j + 1, rfl, Int.mul_pos px py, (x1.mul y2).add ?_, (x2.mul y2).mono (by omega), by omega, by omega, fun v z H' s t r => kk v z H' s t r⟩
    have := y1.mul x2
    rw [Nat.add_comm j k] at this
    exact this
theorem ok_l_measures {P : Program} {w : World} {K : PySem.W.Frag} {mg : Str → Option Value} {base : Heap} {φ : Fds} (T : Txt K mg φ) : FnOk P w K mg base CX0 4 (He.fAd K ("_law_measures", none)) φ.l_measures p_l_measures (sp_meass K (He.ga K "Measure")) := by
  obtain ⟨_, B0v, B0⟩ := b_Measure_init_3 T
  refine T.f_l_measures.ok sc_l_measures (fun vs H Q E h => ?_) (fun cdv A outer s H vs Q E hr h => ?_)
  · obtain ⟨p, k, us, zs, rfl, hq, hm, k0, k1, l1, kk⟩ := h; rfl
  · obtain ⟨p, k, us, zs, rfl, hq, hm, k0, k1, l1, kk⟩ := h
    refine ⟨_, PSs.nox (pss_one (ps_ret (pe_callTy (T := "tuple") (tupleL (K := K)) (by rfl) T.z_tuple (by decide +kernel) (pa_cons (pe_lc (own := [("_law_top", 1), ("_law_bottom", 2)]) (g := gTup K 2 (gCons (gName 1) (gCons (gName 2) (gNil)))) rfl sc_l_measures.nd (pi_seq (pv 0)) (blkOk_by (own := [("_law_top", 1), ("_law_bottom", 2)]) (N := N_l_measures) (sc := (defScope s_l_measures)) (by decide +kernel)) (fun _ _ _ _ _ => (pg_tup rfl (pgs_cons (pg_name (i := 1) sc_l_measures.nd rfl (Or.inl rfl)) (pgs_cons (pg_name (i := 2) sc_l_measures.nd rfl (Or.inl rfl)) pgs_nil)))) (fun _ _ _ _ _ => pts_nil) (fun _ _ _ _ _ => (pe_make T.mk_Measure (ok_Measure_init (K := K) T) (hr.mono (by decide)) rfl T.g_Measure B0 B0v pass0 (pa_cons (pv 1) (pa_cons (pv 2) pa_nil))))) pa_nil)))), ?_⟩
    have el : us.length = zs.length := hm.len
    have body : ∀ (i : Nat) (x : V) (H1 : Hp) (N : VK) (M : Hp → Prop), us[i]? = some x → Same H H1 → (∀ y H4, Same H1 H4 → (∃ q z, y = V.ref q ∧ zs[i]? = some z ∧ QAt (He.ga K "Measure") H4 q k z) → N y H4) → ∃ (q : Addr) (z : Q2), x = .ref q ∧ H1 q = some (.tup [.int z.1, .int z.2]) ∧ zs[i]? = some z ∧ 0 < z.2 ∧ Sz k z.1 ∧ Sz k z.2 := fun i x H1 N M hx s1 hN => by
      obtain ⟨z, hz, t⟩ := (hm.same s1).of hx
      obtain ⟨q, e, h2, h3, h4, h5⟩ := t
      exact ⟨q, z, e, h2, hz, h3, h4, h5⟩
    have fin : ∀ (D : Addr) (H1 : Hp) (ys : List V), Same H H1 → H1 D = some (.lst ys) → ys.length = us.length → (∀ (i : Nat) (y : V), ys[i]? = some y → ∃ q z, y = V.ref q ∧ zs[i]? = some z ∧ QAt (He.ga K "Measure") H1 q k z) → ∀ T2, H1 T2 = none → Q (.ref T2) (upd H1 T2 (.tup ys)) := fun D H1 ys s1 hD ly hy T2 nT2 => by
      refine kk T2 ys _ (s1.up nT2) upd_same ⟨by omega, fun i v z h1 h2 => ?_⟩
      obtain ⟨q, z', e1, e2, e3⟩ := hy i v h1
      rw [h2] at e2
      cases e2
      exact ⟨q, e1, e3.same (same1 nT2)⟩
    rcases hq with hq | hq
    · refine ⟨_, rfl, p, rfl, .inl ⟨⟨_, hq⟩, fun D nD => ?_⟩⟩
      refine lcr (n := us.length) walk_list (fun _ _ g s => s.seq g) (fun i H v => ∃ q z, v = .ref q ∧ zs[i]? = some z ∧ QAt (He.ga K "Measure") H q k z) (fun i H H' y ⟨q, m, e1, e2, e3⟩ n => ⟨q, m, e1, e2, e3.nl n⟩) (szs (by omega)) hq nD (fun i x H1 H2 N M hi s1 y hN => ?_) (fun H1 ys s1 hD ly hy => ?_)
      · obtain ⟨rfl, hx⟩ := y
        obtain ⟨q, z, rfl, h2, hz, h3, h4, h5⟩ := body i x _ N M hx s1 hN
        refine ⟨q, _, rfl, SqT.of h2, rfl, _, _, rfl, _, _, rfl, rfl, rfl, yesT ?_⟩
        walk_at "w"
        exact q_made (k := k) h3 h4 h5 k0 (by omega) fun q2 H3 s3 R => hN _ _ s3 ⟨q2, z, rfl, hz, R⟩
      · walk_at "w"
        exact fin D H1 ys s1 hD ly hy
    · refine ⟨_, rfl, p, rfl, .inr ⟨⟨_, hq⟩, fun D nD => ?_⟩⟩
      refine lcr (n := us.length) walk_tup (fun _ _ g s => s.sqt g) (fun i H v => ∃ q z, v = .ref q ∧ zs[i]? = some z ∧ QAt (He.ga K "Measure") H q k z) (fun i H H' y ⟨q, m, e1, e2, e3⟩ n => ⟨q, m, e1, e2, e3.nl n⟩) (szs (by omega)) hq nD (fun i x H1 H2 N M hi s1 y hN => ?_) (fun H1 ys s1 hD ly hy => ?_)
      · obtain ⟨rfl, hx⟩ := y
        obtain ⟨q, z, rfl, h2, hz, h3, h4, h5⟩ := body i x _ N M hx s1 hN
        refine ⟨q, _, rfl, SqT.of h2, rfl, _, _, rfl, _, _, rfl, rfl, rfl, yesT ?_⟩
        walk_at "w"
        exact q_made (k := k) h3 h4 h5 k0 (by omega) fun q2 H3 s3 R => hN _ _ s3 ⟨q2, z, rfl, hz, R⟩
      · walk_at "w"
        exact fin D H1 ys s1 hD ly hy
theorem ok_l_part {P : Program} {w : World} {K : PySem.W.Frag} {mg : Str → Option Value} {base : Heap} {φ : Fds} (T : Txt K mg φ) : FnOk P w K mg base CX0 3 (He.fAd K ("_law_part", none)) φ.l_part p_l_part sp_lpart := by
  obtain ⟨_, B0v, B0⟩ := b_l_plain_2 T
  obtain ⟨_, B1v, B1⟩ := b_l_pick_2 T
  obtain ⟨_, B2v, B2⟩ := b_l_take_2 T
  refine T.f_l_part.ok sc_l_part (fun vs H Q E h => ?_) (fun cdv A outer s H vs Q E hr h => ?_)
  · obtain ⟨h, n, rfl, hh, hn, kk⟩ := h; rfl
  · obtain ⟨h, n, rfl, hh, hn, kk⟩ := h
    refine ⟨_, PSs.nox (pss_one (ps_ret (pe_call (ok_l_plain (K := K) T) (hr.mono (by decide)) rfl T.g_l_plain T.f_l_plain.kp B0 B0v pass0 (pa_cons (pe_op op_add pe_int (pe_call (ok_l_take (K := K) T) (hr.mono (by decide)) rfl T.g_l_take T.f_l_take.kp B2 B2v pass0 (pa_cons (pv 0) (pa_cons pe_int pa_nil)))) (pa_cons (pe_call (ok_l_pick (K := K) T) (hr.mono (by decide)) rfl T.g_l_pick T.f_l_pick.kp B1 B1v pass0 (pa_cons (pv 0) (pa_cons (pe_lst (pa_cons pe_int (pa_cons pe_int (pa_cons pe_int (pa_cons pe_int (pa_cons pe_int (pa_cons pe_int (pa_cons pe_int pa_nil)))))))) pa_nil))) pa_nil))))), ?_⟩
    walk_at "w"
    intro d H1 d0 d1 hh1 k1
    walk_at "w"
    intro p1 np1
    refine ⟨h, p1, _, _, rfl, hh1.up np1, by omega, SqL.of upd_same, hh1.ne np1, by decide, by decide, fun i1 vb H2 hr1 hh2 k2 => ?_⟩
    have hb : ∃ b : Int, vb = .int b ∧ 0 < b ∧ b ≤ 1000003 := by
      have hm := List.mem_of_getElem? hr1
      simp at hm
      rcases hm with rfl | rfl | rfl | rfl | rfl | rfl <;> exact ⟨_, rfl, by decide, by decide⟩
    obtain ⟨b, rfl, b0, b1⟩ := hb
    refine ⟨1 + d, b, 20, rfl, b0, ?_, ?_, by decide, by decide, fun v z H3 s3 t r => ?_⟩
    · show (1 + d).natAbs < 2 ^ 20
      omega
    · show b.natAbs < 2 ^ 20
      omega
    exact kk v z H3 (hh2.same s3) (((k1.up np1).trans k2).trans (Kp.same s3)) t (r.pos1 (by show 0 < 1 + d; omega))
theorem ok_l_marks_of {P : Program} {w : World} {K : PySem.W.Frag} {mg : Str → Option Value} {base : Heap} {φ : Fds} (T : Txt K mg φ) : FnOk P w K mg base CX0 4 (He.fAd K ("_law_marks_of", none)) φ.l_marks_of p_l_marks_of sp_marks := by
  obtain ⟨_, B0v, B0⟩ := b_l_part_1 T
  obtain ⟨_, B1v, B1⟩ := b_l_take_2 T
  obtain ⟨_, B2v, B2⟩ := b_l_plain_2 T
  obtain ⟨_, B3v, B3⟩ := b_l_pick_2 T
  obtain ⟨_, B4v, B4⟩ := b_l_sum_2 T
  refine T.f_l_marks_of.ok sc_l_marks_of (fun vs H Q E h => ?_) (fun cdv A outer s H vs Q E hr h => ?_)
  · obtain ⟨h, n, m, rfl, hh, hn, m0, m1, kk⟩ := h; rfl
  · obtain ⟨h, n, m, rfl, hh, hn, m0, m1, kk⟩ := h
    refine ⟨_, PSs.nox (pss_cons (ps_par3 (i := 2) (j := 3) (l := 4) rfl sc_l_marks_of.nd rfl rfl rfl (by decide) (by decide) (by decide) rfl rfl rfl (pa_cons (pe_call (ok_l_take (K := K) T) (hr.mono (by decide)) rfl T.g_l_take T.f_l_take.kp B1 B1v pass0 (pa_cons (pv 0) (pa_cons pe_int pa_nil))) (pa_cons (pe_op op_add pe_int (pe_call (ok_l_take (K := K) T) (hr.mono (by decide)) rfl T.g_l_take T.f_l_take.kp B1 B1v pass0 (pa_cons (pv 0) (pa_cons (pv 1) pa_nil)))) (pa_cons (pe_call (ok_l_part (K := K) T) (hr.mono (by decide)) rfl T.g_l_part T.f_l_part.kp B0 B0v pass0 (pa_cons (pv 0) pa_nil)) pa_nil))) (by rfl))
      (pss_cons (ps_set (i := 5) sc_l_marks_of.nd rfl (Or.inl rfl) (pe_lst (pa_cons (pe_call (ok_l_plain (K := K) T) (hr.mono (by decide)) rfl T.g_l_plain T.f_l_plain.kp B2 B2v pass0 (pa_cons (pe_call (ok_l_take (K := K) T) (hr.mono (by decide)) rfl T.g_l_take T.f_l_take.kp B1 B1v pass0 (pa_cons (pv 0) (pa_cons pe_int pa_nil))) (pa_cons (pe_call (ok_l_pick (K := K) T) (hr.mono (by decide)) rfl T.g_l_pick T.f_l_pick.kp B3 B3v pass0 (pa_cons (pv 0) (pa_cons (pe_lst (pa_cons pe_int (pa_cons pe_int (pa_cons pe_int (pa_cons pe_int pa_nil))))) pa_nil))) pa_nil))) pa_nil)))
      (pss_cons (ps_for PassesOwn.never rfl (pi_range1 rfl T.z_range (pa_cons (pe_op op_sub (pv 3) pe_int) pa_nil)) (pg_name (i := 6) sc_l_marks_of.nd rfl (Or.inl rfl))
      (pss_one (ps_expr (pe_bm PySem.F.plainAttrs_list PySem.F.slot_list_append PySem.F.type_list_append mt_append (pv 5) (pa_cons (pe_call (ok_l_sum (K := K) T) (hr.mono (by decide)) rfl T.g_l_sum T.f_l_sum.kp B4 B4v pass0 (pa_cons (pe_ix (ixl (K := K)) (pv 5) (pe_un un_neg pe_int) (fun _ _ => rfl)) (pa_cons (pe_ifExp (pt_cmpR op_eq (pv 2) pe_int (nomark _)) (pv 4) (pe_call (ok_l_part (K := K) T) (hr.mono (by decide)) rfl T.g_l_part T.f_l_part.kp B0 B0v pass0 (pa_cons (pv 0) pa_nil))) pa_nil))) pa_nil)))))
      (pss_one (ps_ret (pv 5)))))), ?_⟩
    walk_at "w"
    intro al H1 al0 al1 hh1 k1
    walk_at "w"
    intro mn H2 mn0 mn1 hh2 k2
    obtain ⟨mn, rfl⟩ := Int.eq_ofNat_of_zero_le mn0
    walk_at "w"
    intro vs zs H3 hh3 k3 ts zs0
    walk_at "w"
    intro d H4 d0 d1 hh4 k4
    walk_at "w"
    intro p1 np1
    refine ⟨h, p1, _, _, rfl, hh4.up np1, by omega, SqL.of upd_same, hh4.ne np1, by decide, by decide, fun i1 vb H5 hr1 hh5 k5 => ?_⟩
    have hb : ∃ b : Int, vb = .int b ∧ 0 < b ∧ b ≤ 12 := by
      have hm := List.mem_of_getElem? hr1
      simp at hm
      rcases hm with rfl | rfl | rfl | rfl <;> exact ⟨_, rfl, by decide, by decide⟩
    obtain ⟨b, rfl, b0, b1⟩ := hb
    refine ⟨_, b, 12, rfl, b0, ?_, ?_, by decide, by decide, fun v z H6 s6 t r => ?_⟩
    · show d.natAbs < 2 ^ 12
      omega
    · show b.natAbs < 2 ^ 12
      omega
    have kA := ((((k1.trans k2).trans k3).trans (k4.up np1)).trans k5).trans (Kp.same s6 : Kp h _ _)
    replace ts := ((((ts.kp hh3 k4).same (same1 np1)).kp (hh4.up np1) k5).same s6)
    have hhA := hh5.same s6
    clear hh1 hh2 hh3 hh4 hh5 k1 k2 k3 k4 k5 hr1 np1 s6
    walk_at "w"
    intro l nl
    have nlh := hhA.ne nl
    have nlH : H l = none := kA.fresh nl nlh
    replace kA := kA.up (u := .lst [v]) nl
    replace ts := ts.same (same1 (u := .lst [v]) nl)
    replace t := t.same (same1 (u := .lst [v]) nl)
    replace hhA := hhA.up (u := .lst [v]) nl
    have hlA : upd H6 l (.lst [v]) l = some (.lst [v]) := upd_same
    generalize upd H6 l (.lst [v]) = HA at *
    walk_at "w"
    refine for_range (fun i σ H' => ∃ (us : List V) (qs : List Q2) (vk : Option V), σ = [some (.ref h), some (.int m), some (.int al), some (.int (1 + (mn : Int))), some vs, some (.ref l), vk] ∧ H' l = some (.lst us) ∧ us.length = i + 1 ∧ HandAt H' h (n + 6 + 2 * i) ∧ Kp h H H' ∧ TQ H' vs 20 zs ∧ Tqs H' (12 + 21 * i) us qs ∧ RiseQ qs) ?_ ?_ ?_
    · exact ⟨[v], [z], _, rfl, hlA, rfl, hhA, kA, ts, Tqs.one t, fun i a b h1 h2 => by simp at h2⟩
    · rintro i σ H7 hi ⟨us, qs, vk, rfl, hl, lus, hh7, k7, ts7, tq, ri⟩
      have hi2 : i < 24 := by omega
      have lq := tq.len
      obtain ⟨x, hx⟩ := ge2 (zs := qs) (n := i) (by omega)
      obtain ⟨vx, hvx, tx⟩ := tq.at hx
      have last : ∀ (vy : V) (y : Q2) (H8 : Hp), Nl H7 H8 → H8 l = some (.lst us) → HandAt H8 h (n + 6 + 2 * i + 2) → Kp h H H8 → TQ H8 vy 20 y → 0 < y.1 → TQ H8 vx (12 + 21 * i) x → Tqs H8 (12 + 21 * i) us qs → TQ H8 vs 20 zs → ∀ (v9 : V) (z9 : Q2) (H9 : Hp), Same H8 H9 → TQ H9 v9 (12 + 21 * i + 20 + 1) z9 → Re z9 (qadd x y) →
          (∃ (us' : List V) (qs' : List Q2) (vk' : Option V), [some (.ref h), some (.int m), some (.int al), some (.int (1 + (mn : Int))), some vs, some (.ref l), some (.int (0 + (i : Int)))] = [some (.ref h), some (.int m), some (.int al), some (.int (1 + (mn : Int))), some vs, some (.ref l), vk'] ∧ upd H9 l (.lst (us ++ [v9])) l = some (.lst us') ∧ us'.length = i + 1 + 1 ∧ HandAt (upd H9 l (.lst (us ++ [v9]))) h (n + 6 + 2 * (i + 1)) ∧ Kp h H (upd H9 l (.lst (us ++ [v9]))) ∧ TQ (upd H9 l (.lst (us ++ [v9]))) vs 20 zs ∧ Tqs (upd H9 l (.lst (us ++ [v9]))) (12 + 21 * (i + 1)) us' qs' ∧ RiseQ qs') := by
        intro vy y H8 _ hl8 hh8 k8 ty y0 tx8 tq8 ts8 v9 z9 H9 s9 t9 r9
        have pl : Nl H9 (upd H9 l (.lst (us ++ [v9]))) := Nl.put (s9 _ _ hl8)
        refine ⟨us ++ [v9], qs ++ [z9], _, rfl, upd_same, by rw [List.length_append, lus]; rfl, ((hh8.same s9).put nlh).mono (by omega), (k8.trans (Kp.same s9)).putN nlH, (ts8.same s9).nl pl, (((tq8.same s9).mono (by omega)).snoc (t9.mono (by omega))).nl pl, rise_snocQ ri fun n a ha hn => ?_⟩
        have en : n = i := by omega
        subst en
        rw [hx] at ha
        cases ha
        exact ltq_moreR tx8.pos ty.pos y0 r9
      walk_at "w"
      refine ⟨atI_end (n := i) (by omega) hvx, ?_⟩
      refine ⟨_, rfl, rfl, _, rfl, ?_⟩
      rw [dI]
      refine ite2 (fun e => ?_) (fun e => ?_)
      · refine ⟨_, rfl, vx, vs, _, _, x, zs, rfl, tx, ts7, by omega, by decide, by omega, fun v9 z9 H9 s9 t9 r9 => ?_⟩
        refine ⟨l, us, _, rfl, rfl, s9 _ _ hl, szs (by omega), ?_⟩
        exact last vs zs H7 (fun _ _ z _ => z) hl (hh7.mono (by omega)) k7 ts7 zs0 tx tq ts7 v9 z9 H9 s9 t9 r9
      · refine ⟨_, rfl, h, _, rfl, hh7, by omega, fun vy y H8 hh8 k8 ty y0 => ?_⟩
        refine ⟨vx, vy, _, _, x, y, rfl, tx.kp hh7 k8, ty, by omega, by decide, by omega, fun v9 z9 H9 s9 t9 r9 => ?_⟩
        refine ⟨l, us, _, rfl, rfl, s9 _ _ (k8 _ _ hl nlh), szs (by omega), ?_⟩
        exact last vy y H8 (fun c o e no => k8 _ _ e (hh7.apart e no)) (k8 _ _ hl nlh) hh8 (k7.trans k8) ty y0 (tx.kp hh7 k8) (tq.kp hh7 k8) (ts7.kp hh7 k8) v9 z9 H9 s9 t9 r9
    rintro σ H7 ⟨us, qs, vk, rfl, hl, lus, hh7, k7, ts7, tq, ri⟩
    have lq := tq.len
    refine ⟨_, rfl, kk l us qs H7 (hh7.mono (by omega)) k7 nlh hl (tq.mono (by omega)) (by omega) (by omega) ri⟩
theorem ok_l_any_ladder {P : Program} {w : World} {K : PySem.W.Frag} {mg : Str → Option Value} {base : Heap} {φ : Fds} (T : Txt K mg φ) : FnOk P w K mg base CX0 5 (He.fAd K ("_law_any_ladder", none)) φ.l_any_ladder p_l_any_ladder (sp_anyl K (He.ga K "Measure") (He.ga K "Ladder")) := by
  obtain ⟨_, B0v, B0⟩ := b_l_pick_2 T
  obtain ⟨_, B1v, B1⟩ := b_l_sum_2 T
  obtain ⟨_, B2v, B2⟩ := b_Measure_init_3 T
  obtain ⟨_, B3v, B3⟩ := b_Ladder_init_5 T
  obtain ⟨_, B4v, B4⟩ := b_l_measures_1 T
  refine T.f_l_any_ladder.ok sc_l_any_ladder (fun vs H Q E h => ?_) (fun cdv A outer s H vs Q E hr h => ?_)
  · obtain ⟨h, l, n, k, us, zs, rfl, hh, hn, nlh, hl, tq, k0, k1, l0, l1, ri, kk⟩ := h; rfl
  · obtain ⟨h, l, n, k, us, zs, rfl, hh, hn, nlh, hl, tq, k0, k1, l0, l1, ri, kk⟩ := h
    refine ⟨_, PSs.nox (pss_cons (ps_set (i := 2) sc_l_any_ladder.nd rfl (Or.inl rfl) (pe_call (ok_l_pick (K := K) T) (hr.mono (by decide)) rfl T.g_l_pick T.f_l_pick.kp B0 B0v pass0 (pa_cons (pv 0) (pa_cons (pe_lst (pa_cons pe_str (pa_cons pe_str (pa_cons pe_str pa_nil)))) pa_nil))))
      (pss_cons (ps_par (i := 3) (j := 4) rfl sc_l_any_ladder.nd rfl rfl (by decide) rfl rfl (pa_cons (pe_call (ok_l_pick (K := K) T) (hr.mono (by decide)) rfl T.g_l_pick T.f_l_pick.kp B0 B0v pass0 (pa_cons (pv 0) (pa_cons (pe_lst (pa_cons pe_non (pa_cons (pe_ix (ixl (K := K)) (pv 1) pe_int (fun _ _ => rfl)) pa_nil))) pa_nil))) (pa_cons (pe_call (ok_l_pick (K := K) T) (hr.mono (by decide)) rfl T.g_l_pick T.f_l_pick.kp B0 B0v pass0 (pa_cons (pv 0) (pa_cons (pe_lst (pa_cons pe_non (pa_cons (pe_ix (ixl (K := K)) (pv 1) (pe_un un_neg pe_int) (fun _ _ => rfl)) (pa_cons (pe_call (ok_l_sum (K := K) T) (hr.mono (by decide)) rfl T.g_l_sum T.f_l_sum.kp B1 B1v pass0 (pa_cons (pe_ix (ixl (K := K)) (pv 1) (pe_un un_neg pe_int) (fun _ _ => rfl)) (pa_cons (pe_tup (pa_cons pe_int (pa_cons pe_int pa_nil))) pa_nil))) pa_nil)))) pa_nil))) pa_nil)) (by rfl))
      (pss_cons (ps_setLc (i := 5) (own := [("_law_one", 6)]) (g := gName 6) rfl sc_l_any_ladder.nd rfl rfl (sw_true rfl rfl rfl (by decide +kernel)) (pi_tup (pe_tup (pa_cons (pv 3) (pa_cons (pv 4) pa_nil)))) (blkOk_by (own := [("_law_one", 6)]) (N := N_l_any_ladder) (sc := (defScope s_l_any_ladder)) (by decide +kernel)) (fun _ _ _ _ _ => (pg_name (i := 6) sc_l_any_ladder.nd rfl (Or.inl rfl))) (fun _ _ _ _ _ => pts_nil) (fun _ _ _ _ _ => (pe_ifExp (pt_cmpR op_isN (pv 6) pe_non (nomark _)) pe_non (pe_make T.mk_Measure (ok_Measure_init (K := K) T) (hr.mono (by decide)) rfl T.g_Measure B2 B2v pass0 (pa_cons (pe_ix (ixt (K := K)) (pv 6) pe_int (fun _ _ => rfl)) (pa_cons (pe_ix (ixt (K := K)) (pv 6) pe_int (fun _ _ => rfl)) pa_nil))))))
      (pss_one (ps_ret (pe_make T.mk_Ladder (ok_Ladder_init (K := K) T) (hr.mono (by decide)) rfl T.g_Ladder B3 B3v pass0 (pa_cons (pe_call (ok_l_measures (K := K) T) (hr.mono (by decide)) rfl T.g_l_measures T.f_l_measures.kp B4 B4v pass0 (pa_cons (pv 1) pa_nil)) (pa_cons (pv 2) (pa_cons (pe_ix (ixl (K := K)) (pv 5) pe_int (fun _ _ => rfl)) (pa_cons (pe_ix (ixl (K := K)) (pv 5) pe_int (fun _ _ => rfl)) pa_nil)))))))))), ?_⟩
    have lq := tq.len
    walk_at "w"
    intro p1 np1
    refine ⟨h, p1, n, _, rfl, hh.up np1, by omega, SqL.of upd_same, hh.ne np1, by decide, by decide, fun i1 vr H1 hr1 hh1 k1' => ?_⟩
    have hru : ∃ r : Str, vr = .str r ∧ IsRule r := by
      have hm := List.mem_of_getElem? hr1
      simp at hm
      rcases hm with rfl | rfl | rfl
      · exact ⟨_, rfl, .inl rfl⟩
      · exact ⟨_, rfl, .inr (.inl rfl)⟩
      · exact ⟨_, rfl, .inr (.inr rfl)⟩
    obtain ⟨r, rfl, hru⟩ := hru
    have kA := ((Kp.refl h H).up (u := .lst [V.str "up", V.str "down", V.str "near"]) np1).trans k1'
    obtain ⟨z0, hz0⟩ := ge2 (zs := zs) (n := 0) l0
    obtain ⟨z1, hz1⟩ := ge2 (zs := zs) (n := zs.length - 1) (by omega)
    obtain ⟨v0, hv0, _⟩ := tq.at hz0
    obtain ⟨v1, hv1, _⟩ := tq.at hz1
    have hl1 := kA _ _ hl nlh
    replace tq := tq.kp hh kA
    have t0 := tq.all 0 v0 z0 hv0 hz0
    have t1 := tq.all _ v1 z1 hv1 hz1
    walk_at "w"
    intro p2 np2
    refine ⟨h, p2, _, _, rfl, hh1.up np2, by omega, SqL.of upd_same, hh1.ne np2, Nat.le_of_ble_eq_true rfl, Nat.le_of_ble_eq_true rfl, fun i2 vl H2 hr2 hh2 k2 => ?_⟩
    have kB := (k2.trans (Kp.refl _ _) : Kp h _ H2)
    have kC := (kA.up (u := .lst [V.non, v0]) np2).trans k2
    have hl2 := k2 _ _ (up1 np2 hl1) nlh
    have tqB := (tq.same (same1 (u := .lst [V.non, v0]) np2)).kp (hh1.up np2) k2
    have t0B := (t0.same (same1 (u := .lst [V.non, v0]) np2)).kp (hh1.up np2) k2
    have t1B := (t1.same (same1 (u := .lst [V.non, v0]) np2)).kp (hh1.up np2) k2
    have hvl : vl = .non ∨ vl = v0 := by
      have hm := List.mem_of_getElem? hr2
      simpa using hm
    walk_at "w"
    refine ⟨atI_end (n := zs.length - 1) (by omega) hv1, ?_⟩
    walk_at "w"
    refine ⟨atI_end (n := zs.length - 1) (by omega) hv1, ?_⟩
    walk_at "w"
    intro p3 np3
    have t1C := t1B.same (same1 (u := .tup [V.int 1, V.int 2]) np3)
    refine ⟨v1, .ref p3, k, 3, z1, (1, 2), rfl, t1C, TQ.mk upd_same (by decide) (by decide) (by decide), k0, by decide, by omega, fun v3 z3 H3 s3 t3 r3 => ?_⟩
    have s23 : Same H2 H3 := (same1 np3 : Same H2 _).trans s3
    walk_at "w"
    intro p4 np4
    have s24 := s23.up (u := .lst [V.non, v1, v3]) np4
    refine ⟨h, p4, _, _, rfl, (hh2.same s23).up np4, by omega, SqL.of upd_same, (hh2.same s23).ne np4, Nat.le_of_ble_eq_true rfl, Nat.le_of_ble_eq_true rfl, fun i4 vh H4 hr4 hh4 k4 => ?_⟩
    have kD := (kC.trans (Kp.same s24)).trans k4
    have hl4 := k4 _ _ (s24 _ _ hl2) nlh
    have tqD := (tqB.same s24).kp ((hh2.same s23).up np4) k4
    have t0D := (t0B.same s24).kp ((hh2.same s23).up np4) k4
    have t1D := (t1B.same s24).kp ((hh2.same s23).up np4) k4
    have t3D := (t3.same (same1 (u := .lst [V.non, v1, v3]) np4)).kp ((hh2.same s23).up np4) k4
    have hvh : vh = .non ∨ vh = v1 ∨ vh = v3 := by
      have hm := List.mem_of_getElem? hr4
      simpa using hm
    clear hr1 hr2 hr4
    have le01 : ltq z1 z0 = false := rise_ends ri tqD.posL hz0 hz1
    have lt13 : ltq z1 z3 = true := ltq_moreR t1D.pos (by decide) (by decide) r3
    have hlo : ∃ lo : Option Q2, (lo = none ∨ lo = some z0) ∧ TOq H4 (k + 4) vl lo := by
      rcases hvl with rfl | rfl
      · exact ⟨none, .inl rfl, rfl⟩
      · exact ⟨some z0, .inr rfl, t0D.mono (by omega)⟩
    have hhi : ∃ hi : Option Q2, (hi = none ∨ hi = some z1 ∨ hi = some z3) ∧ TOq H4 (k + 4) vh hi := by
      rcases hvh with rfl | rfl | rfl
      · exact ⟨none, .inl rfl, rfl⟩
      · exact ⟨some z1, .inr (.inl rfl), t1D.mono (by omega)⟩
      · exact ⟨some z3, .inr (.inr rfl), t3D.mono (by omega)⟩
    obtain ⟨lo, elo, tlo⟩ := hlo
    obtain ⟨hi, ehi, thi⟩ := hhi
    have span : spanB lo hi = true := by
      rcases elo with rfl | rfl
      · cases hi <;> rfl
      · rcases ehi with rfl | rfl | rfl
        · rfl
        · show (!ltq z1 z0) = true
          rw [le01]; rfl
        · show (!ltq z3 z0) = true
          have := ltq_notlt t1D.pos t3D.pos t0D.pos le01 lt13
          rw [this]; rfl
    walk_at "w"
    intro p5 np5
    refine ⟨p5, rfl, ⟨_, SqT.of upd_same⟩, fun D nD => ?_⟩
    have s45 : Same H4 (upd H4 p5 (.tup [vl, vh])) := same1 np5
    refine lcr (n := [vl, vh].length) walk_tup (fun _ _ g s => s.sqt g) (fun i H v => QO (He.ga K "Measure") H (k + 4) v (if i = 0 then lo else hi)) (fun i H H' y q nl => QO.nl nl q) (szs (Nat.le_of_ble_eq_true rfl)) (SqT.of upd_same) nD (fun i x H6 H7 N M hi' s6 y hN => ?_) (fun H6 ys s6 hD ly hy => ?_)
    · obtain ⟨rfl, hx⟩ := y
      have hi2 : i < 2 := hi'
      have ht : TOq H7 (k + 4) x (if i = 0 then lo else hi) := by
        obtain rfl | rfl : i = 0 ∨ i = 1 := by omega
        · cases hx
          exact (tlo.same s45).same s6
        · cases hx
          exact (thi.same s45).same s6
      refine ⟨rfl, yesT ?_⟩
      revert ht hN
      generalize (if i = 0 then lo else hi) = o
      intro hN ht
      cases o with
      | none =>
        cases ht
        walk_at "w"
        exact hN _ _ (Same.refl _) rfl
      | some z =>
        obtain ⟨q, rfl, hq, hz, sz1, sz2⟩ := ht
        refine ⟨_, rfl, rfl, _, rfl, iteF ?_⟩
        walk_at "w"
        exact q_made (k := k + 4) hz sz1 sz2 (by omega) (by omega) fun q2 H8 s8 R => hN _ _ s8 ⟨q2, rfl, R⟩
    have ly2 : ys.length = 2 := ly
    obtain ⟨y0, hy0⟩ := geV (xs := ys) (n := 0) (by omega)
    obtain ⟨y1, hy1⟩ := geV (xs := ys) (n := 1) (by omega)
    have q0 : QO (He.ga K "Measure") H6 (k + 4) y0 lo := hy 0 y0 hy0
    have q1 : QO (He.ga K "Measure") H6 (k + 4) y1 hi := hy 1 y1 hy1
    have s46 := s45.trans s6
    walk_at "w"
    refine ⟨zs, rfl, .inl (SqL.of (s46 _ _ hl4)), tqD.same s46, k0, by omega, l1, fun T2 ps H8 s8 hT2 hm => ?_⟩
    have hD8 := s8 _ _ hD
    walk_at "w"
    refine lad_made (k := k + 4) (SqT.of hT2) (hm.mono (by omega)) (by omega) l0 l1 ri hru (q0.same s8) (q1.same s8) span fun q H9 _ s9 L9 _ => kk q r lo hi H9 ?_ ?_ L9
    · exact ((hh4.same s46).same s8).same s9 |>.mono (by omega)
    · exact ((kD.trans (Kp.same s46)).trans (Kp.same s8)).trans (Kp.same s9)
theorem ok_Measure_plus {P : Program} {w : World} {K : PySem.W.Frag} {mg : Str → Option Value} {base : Heap} {φ : Fds} (T : Txt K mg φ) : FnOk P w K mg base CX0 4 (He.fAd K ("Measure", some "plus")) φ.Measure_plus p_Measure_plus (sp_bin2 (He.ga K "Measure") (fun t u t' u' => t * u' + t' * u) (fun t u t' u' => u * u')) := by
  obtain ⟨_, B0v, B0⟩ := b_Measure_init_3 T
  refine T.f_Measure_plus.ok sc_Measure_plus (fun vs H Q E h => ?_) (fun cdv A outer s H vs Q E hr h => ?_)
  · obtain ⟨p, q, t, u, t', u', rfl, ⟨dp, hp⟩, ⟨dq, hq⟩, hu, hu', st, su, st', su', sg, k⟩ := h; rfl
  · obtain ⟨p, q, t, u, t', u', rfl, ⟨dp, hp⟩, ⟨dq, hq⟩, hu, hu', st, su, st', su', sg, k⟩ := h
    refine ⟨_, PSs.nox (pss_one (ps_ret (pe_make T.mk_Measure (ok_Measure_init (K := K) T) (hr.mono (by decide)) rfl T.g_Measure B0 B0v pass0 (pa_cons (pe_op op_add (pe_op op_mulA (fldK (K := K) (pv 0) rfl) (fldK (K := K) (pv 1) rfl)) (pe_op op_mulA (fldK (K := K) (pv 1) rfl) (fldK (K := K) (pv 0) rfl))) (pa_cons (pe_op op_mulA (fldK (K := K) (pv 0) rfl) (fldK (K := K) (pv 1) rfl)) pa_nil))))), ?_⟩
    refine ⟨_, rfl, _, _, _, _, _, rfl, hp, T.cl_Measure, T.na_Measure_top, mf_top _ _, _, rfl, _, _, _, _, _, rfl, hq, T.cl_Measure, T.na_Measure_bottom, mf_bottom _ _, _, _, rfl, rfl, st.cmul su' (by decide) (by decide) (by decide), _, rfl, _, _, _, _, _, rfl, hq, T.cl_Measure, T.na_Measure_top, mf_top _ _, _, rfl, _, _, _, _, _, rfl, hp, T.cl_Measure, T.na_Measure_bottom, mf_bottom _ _, _, _, rfl, rfl, st'.cmul su (by decide) (by decide) (by decide), _, _, rfl, rfl, _, rfl, _, _, _, _, _, rfl, hp, T.cl_Measure, T.na_Measure_bottom, mf_bottom _ _, _, rfl, _, _, _, _, _, rfl, hq, T.cl_Measure, T.na_Measure_bottom, mf_bottom _ _, _, _, rfl, rfl, su.cmul su' (by decide) (by decide) (by decide), ?_⟩
    intro x dx nx nd ne
    refine ⟨x, dx, _, _, rfl, upd_same, Int.mul_ne_zero (by omega) (by omega), sg.log (by decide) (by decide), fun t2 u2 H' fr hx kp => ⟨rfl, ?_⟩⟩
    exact k x t2 u2 H' nx (made_same nx nd kp) ⟨_, hx⟩ fr
theorem ok_Measure_times {P : Program} {w : World} {K : PySem.W.Frag} {mg : Str → Option Value} {base : Heap} {φ : Fds} (T : Txt K mg φ) : FnOk P w K mg base CX0 4 (He.fAd K ("Measure", some "times")) φ.Measure_times p_Measure_times (sp_bin2 (He.ga K "Measure") (fun t u t' u' => t * t') (fun t u t' u' => u * u')) := by
  obtain ⟨_, B0v, B0⟩ := b_Measure_init_3 T
  refine T.f_Measure_times.ok sc_Measure_times (fun vs H Q E h => ?_) (fun cdv A outer s H vs Q E hr h => ?_)
  · obtain ⟨p, q, t, u, t', u', rfl, ⟨dp, hp⟩, ⟨dq, hq⟩, hu, hu', st, su, st', su', sg, k⟩ := h; rfl
  · obtain ⟨p, q, t, u, t', u', rfl, ⟨dp, hp⟩, ⟨dq, hq⟩, hu, hu', st, su, st', su', sg, k⟩ := h
    refine ⟨_, PSs.nox (pss_one (ps_ret (pe_make T.mk_Measure (ok_Measure_init (K := K) T) (hr.mono (by decide)) rfl T.g_Measure B0 B0v pass0 (pa_cons (pe_op op_mulA (fldK (K := K) (pv 0) rfl) (fldK (K := K) (pv 1) rfl)) (pa_cons (pe_op op_mulA (fldK (K := K) (pv 0) rfl) (fldK (K := K) (pv 1) rfl)) pa_nil))))), ?_⟩
    refine ⟨_, rfl, _, _, _, _, _, rfl, hp, T.cl_Measure, T.na_Measure_top, mf_top _ _, _, rfl, _, _, _, _, _, rfl, hq, T.cl_Measure, T.na_Measure_top, mf_top _ _, _, _, rfl, rfl, st.cmul st' (by decide) (by decide) (by decide), _, rfl, _, _, _, _, _, rfl, hp, T.cl_Measure, T.na_Measure_bottom, mf_bottom _ _, _, rfl, _, _, _, _, _, rfl, hq, T.cl_Measure, T.na_Measure_bottom, mf_bottom _ _, _, _, rfl, rfl, su.cmul su' (by decide) (by decide) (by decide), ?_⟩
    intro x dx nx nd ne
    refine ⟨x, dx, _, _, rfl, upd_same, Int.mul_ne_zero (by omega) (by omega), sg.log (by decide) (by decide), fun t2 u2 H' fr hx kp => ⟨rfl, ?_⟩⟩
    exact k x t2 u2 H' nx (made_same nx nd kp) ⟨_, hx⟩ fr
theorem ok_measure_or {P : Program} {w : World} {K : PySem.W.Frag} {mg : Str → Option Value} {base : Heap} {φ : Fds} (T : Txt K mg φ) : FnOk P w K mg base CX0 4 (He.fAd K ("measure_or", none)) φ.measure_or p_measure_or (sp_mor (He.ga K "Measure")) := by
  obtain ⟨_, B0v, B0⟩ := b_Measure_init_2 T
  refine T.f_measure_or.ok sc_measure_or (fun vs H Q E h => ?_) (fun cdv A outer s H vs Q E hr h => ?_)
  · obtain ⟨v, k, e, rfl, he, k0, k1, kk⟩ := h; rfl
  · obtain ⟨v, k, e, rfl, he, k0, k1, kk⟩ := h
    refine ⟨_, PSs.nox (pss_cons (ps_if (pt_cmpR op_isN (pv 0) pe_non (nomark _))
      (pss_one (ps_ret (pe_make T.mk_Measure (ok_Measure_init (K := K) T) (hr.mono (by decide)) rfl T.g_Measure B0 B0v pass0 (pa_cons (pv 1) pa_nil))))
      pss_nil)
      (pss_one (ps_ret (pv 0)))), ?_⟩
    cases e with
    | none =>
      cases he
      walk_at "w"
      refine q_made (k := k) (by decide) ?_ ?_ k0 (by omega) fun q H1 s1 R => kk q H1 s1 R
      · show (0 : Int).natAbs < 2 ^ k
        exact Nat.two_pow_pos k
      · show (1 : Int).natAbs < 2 ^ k
        exact Nat.one_lt_two_pow (by omega)
    | some z =>
      obtain ⟨p, rfl, qz⟩ := he
      walk_at "w"
      exact kk p H (Same.refl _) qz
theorem ok_Grid_init {P : Program} {w : World} {K : PySem.W.Frag} {mg : Str → Option Value} {base : Heap} {φ : Fds} (T : Txt K mg φ) : FnOk P w K mg base CX0 5 (He.fAd K ("Grid", some "__init__")) φ.Grid_init p_Grid_init (sp_ginit K (He.ga K "Measure") (He.ga K "Ladder") (He.ga K "Grid")) := by
  obtain ⟨_, B0v, B0⟩ := b_is_measure_or_none_1 T
  obtain ⟨_, B1v, B1⟩ := b_measure_or_2 T
  refine T.f_Grid_init.ok sc_Grid_init (fun vs H Q E h => ?_) (fun cdv A outer s H vs Q E hr h => ?_)
  · obtain ⟨p, dx, L1, L2', v, k, j, zs, ys, r1, r2, lo1, hi1, lo2, hi2, e, rfl, hp, hL1, hL2, qv, j0, j1, kk⟩ := h; rfl
  · obtain ⟨p, dx, L1, L2', v, k, j, zs, ys, r1, r2, lo1, hi1, lo2, hi2, e, rfl, hp, hL1, hL2, qv, j0, j1, kk⟩ := h
    refine ⟨_, PSs.nox (pss_cons (ps_if (PW.pt (pw_or (pt_not (pt_val (pe_callB (id := "isinstance") (isi (K := K)) (by rfl) T.z_isinstance (by decide +kernel) (pa_cons (pv 1) (pa_cons (pe_glob (v := .ref (He.ga K "Ladder")) rfl T.g_Ladder rfl) pa_nil))))) (pw_or1 (pt_not (pt_val (pe_callB (id := "isinstance") (isi (K := K)) (by rfl) T.z_isinstance (by decide +kernel) (pa_cons (pv 2) (pa_cons (pe_glob (v := .ref (He.ga K "Ladder")) rfl T.g_Ladder rfl) pa_nil))))))))
      (pss_one ps_never)
      pss_nil)
      (pss_cons (ps_if (pt_not (pt_val (pe_call (ok_is_measure_or_none (K := K) T) (hr.mono (by decide)) rfl T.g_is_measure_or_none T.f_is_measure_or_none.kp B0 B0v pass0 (pa_cons (pv 3) pa_nil))))
      (pss_one ps_never)
      pss_nil)
      (pss_cons (ps_fld (pv 0) (pv 1) rfl)
      (pss_cons (ps_fld (pv 0) (pv 2) rfl)
      (pss_one (ps_fld (pv 0) (pe_call (ok_measure_or (K := K) T) (hr.mono (by decide)) rfl T.g_measure_or T.f_measure_or.kp B1 B1v pass0 (pa_cons (pv 3) (pa_cons pe_int pa_nil))) rfl)))))), ?_⟩
    have na_Grid_lengths := T.na_Grid_lengths
    have na_Grid_breadths := T.na_Grid_breadths
    have na_Grid_grade := T.na_Grid_grade
    have cl_Grid := T.cl_Grid
    
    obtain ⟨⟨d1, T1, ps1, l1, h1, hq1, _⟩, _⟩ := hL1
    obtain ⟨⟨d2, T2, ps2, l2, h2, hq2, _⟩, _⟩ := hL2
    refine ⟨_, rfl, _, _, _, _, _, rfl, .own _, tyM hq1 T.cl_Ladder T.ii_Ladder, T.k_Ladder_Ladder, _, rfl, iteF ?_⟩
    refine ⟨_, rfl, _, _, _, _, _, rfl, .own _, tyM hq2 T.cl_Ladder T.ii_Ladder, T.k_Ladder_Ladder, _, rfl, iteF ?_⟩
    walk_at "w"
    refine ⟨e, rfl, qv, ?_⟩
    walk_at "w"
    refine ⟨by show 0 < 1000; decide, ?_⟩
    refine ⟨_, rfl, _, rfl, p, _, dx, _, rfl, upd_same, cl_Grid, na_Grid_breadths, by show 1 < 1000; decide, ?_⟩
    have qv2 : QO (He.ga K "Measure") (upd (upd H p (.ins (He.ga K "Grid") dx (putF "lengths" (.ref L1) []))) p (.ins (He.ga K "Grid") dx (putF "breadths" (.ref L2') (putF "lengths" (.ref L1) [])))) j v e := by
      cases e with
      | none => exact qv
      | some z =>
        obtain ⟨q, rfl, qz⟩ := qv
        obtain ⟨⟨t, u, ⟨dq, hq⟩, f⟩, a1, a2, a3⟩ := qz
        refine ⟨q, rfl, ⟨t, u, ⟨dq, ?_⟩, f⟩, a1, a2, a3⟩
        rw [upd_ne (ne_fields hq hp), upd_ne (ne_fields hq hp)]
        exact hq
    walk_at "w"
    refine ⟨e, rfl, qv2, j0, by omega, fun q H3 s3 qq => ?_⟩
    have hp3 := s3 _ _ upd_same
    walk_at "w"
    refine ⟨by show 2 < 1000; decide, ?_⟩
    refine kk q _ ?_ ?_ fun b o eb nb => ?_
    · rw [upd_same, gf_put]
    · obtain ⟨⟨t, u, ⟨dq, hq⟩, f⟩, a1, a2, a3⟩ := qq
      refine ⟨⟨t, u, ⟨dq, ?_⟩, f⟩, a1, a2, a3⟩
      rw [upd_ne (ne_fields2 hq hp3)]
      exact hq
    · rw [upd_ne nb]
      refine s3 _ _ ?_
      rw [upd_ne nb, upd_ne nb]
      exact eb
theorem ok_Grid_long_mark {P : Program} {w : World} {K : PySem.W.Frag} {mg : Str → Option Value} {base : Heap} {φ : Fds} (T : Txt K mg φ) : FnOk P w K mg base CX0 1 (He.fAd K ("Grid", some "long_mark")) φ.Grid_long_mark p_Grid_long_mark (sp_longm K (He.ga K "Measure") (He.ga K "Ladder") (He.ga K "Grid")) := by
  refine T.f_Grid_long_mark.ok sc_Grid_long_mark (fun vs H Q E h => ?_) (fun cdv A outer s H vs Q E hr h => ?_)
  · obtain ⟨p, t, L1, L2', i, w', k, j, g, a, zs, rfl, hG, ⟨r, lo, hi, hL⟩, ht, ha, kk⟩ := h; rfl
  · obtain ⟨p, t, L1, L2', i, w', k, j, g, a, zs, rfl, hG, ⟨r, lo, hi, hL⟩, ht, ha, kk⟩ := h
    refine ⟨_, PSs.nox (pss_one (ps_ret (pe_ix (ixt (K := K)) (fldK (K := K) (fldK (K := K) (pv 0) rfl) rfl) (pe_ix (ixt (K := K)) (pv 1) pe_int (fun _ _ => rfl)) (fun _ _ => rfl)))), ?_⟩
    have na_Grid_lengths := T.na_Grid_lengths
    have na_Grid_breadths := T.na_Grid_breadths
    have na_Grid_grade := T.na_Grid_grade
    have cl_Grid := T.cl_Grid
    have cl_Ladder := T.cl_Ladder
    have na_Ladder_marks := T.na_Ladder_marks
    have na_Ladder_rule := T.na_Ladder_rule
    have na_Ladder_least := T.na_Ladder_least
    have na_Ladder_most := T.na_Ladder_most
    
    obtain ⟨dx, q, hp, qg⟩ := hG.ob
    obtain ⟨⟨d1, T1, ps1, l1, h1, hq1, hT1, hm1, _⟩, _⟩ := hL
    obtain ⟨pa, epa, qa⟩ := hm1.at ha
    refine ⟨_, rfl, p, _, dx, _, _, rfl, hp, cl_Grid, na_Grid_lengths, gf_lengths _ _ _, ?_⟩
    walk_at "w"
    exact kk pa qa
theorem ok_Grid_graded {P : Program} {w : World} {K : PySem.W.Frag} {mg : Str → Option Value} {base : Heap} {φ : Fds} (T : Txt K mg φ) : FnOk P w K mg base CX0 5 (He.fAd K ("Grid", some "graded")) φ.Grid_graded p_Grid_graded (sp_graded K (He.ga K "Measure") (He.ga K "Ladder") (He.ga K "Grid")) := by
  obtain ⟨_, B0v, B0⟩ := b_Measure_times_2 T
  obtain ⟨_, B1v, B1⟩ := b_Measure_init_2 T
  refine T.f_Grid_graded.ok sc_Grid_graded (fun vs H Q E h => ?_) (fun cdv A outer s H vs Q E hr h => ?_)
  · obtain ⟨p, L1, L2', i, j, g, rfl, hG, hi, j0, j1, kk⟩ := h; rfl
  · obtain ⟨p, L1, L2', i, j, g, rfl, hG, hi, j0, j1, kk⟩ := h
    refine ⟨_, PSs.nox (pss_one (ps_ret (pe_meth (fldK (K := K) (pv 0) rfl) T.cl_Measure T.me_Measure_times (ok_Measure_times (K := K) T) (hr.mono (by decide)) B0 B0v pass0 (pa_cons (pe_make T.mk_Measure (ok_Measure_init (K := K) T) (hr.mono (by decide)) rfl T.g_Measure B1 B1v pass0 (pa_cons (pv 1) pa_nil)) pa_nil)))), ?_⟩
    have na_Grid_lengths := T.na_Grid_lengths
    have na_Grid_breadths := T.na_Grid_breadths
    have na_Grid_grade := T.na_Grid_grade
    have cl_Grid := T.cl_Grid
    
    obtain ⟨dx, q, hp, qg⟩ := hG.ob
    refine ⟨_, rfl, p, _, dx, _, _, rfl, hp, cl_Grid, na_Grid_grade, gf_grade _ _ _, ?_⟩
    refine meth_q qg (by decide +kernel) (by decide +kernel) ?_
    walk_at "w"
    refine q_made (k := 6) (by decide) ?_ (by decide) (by decide) (by decide) fun q2 H1 s1 a1 => ?_
    · show ((i : Nat) : Int).natAbs < 2 ^ 6
      omega
    exact q_mulT (qg.same s1) a1 (by omega) j0 (by decide) fun q3 H2 s2 a2 => kk q3 H2 (s1.trans s2) a2
theorem ok_Grid_broad_mark {P : Program} {w : World} {K : PySem.W.Frag} {mg : Str → Option Value} {base : Heap} {φ : Fds} (T : Txt K mg φ) : FnOk P w K mg base CX0 6 (He.fAd K ("Grid", some "broad_mark")) φ.Grid_broad_mark p_Grid_broad_mark (sp_broadm K (He.ga K "Measure") (He.ga K "Ladder") (He.ga K "Grid")) := by
  obtain ⟨_, B0v, B0⟩ := b_Measure_plus_2 T
  obtain ⟨_, B1v, B1⟩ := b_Grid_graded_2 T
  refine T.f_Grid_broad_mark.ok sc_Grid_broad_mark (fun vs H Q E h => ?_) (fun cdv A outer s H vs Q E hr h => ?_)
  · obtain ⟨p, t, L1, L2', i, w', k, j, g, b, ys, rfl, hG, ⟨r, lo, hi', hL⟩, ht, hb, hi, j0, j1, k0, k1, kk⟩ := h; rfl
  · obtain ⟨p, t, L1, L2', i, w', k, j, g, b, ys, rfl, hG, ⟨r, lo, hi', hL⟩, ht, hb, hi, j0, j1, k0, k1, kk⟩ := h
    refine ⟨_, PSs.nox (pss_one (ps_ret (pe_meth (pe_ix (ixt (K := K)) (fldK (K := K) (fldK (K := K) (pv 0) rfl) rfl) (pe_ix (ixt (K := K)) (pv 1) pe_int (fun _ _ => rfl)) (fun _ _ => rfl)) T.cl_Measure T.me_Measure_plus (ok_Measure_plus (K := K) T) (hr.mono (by decide)) B0 B0v pass0 (pa_cons (pe_meth (pv 0) T.cl_Grid T.me_Grid_graded (ok_Grid_graded (K := K) T) (hr.mono (by decide)) B1 B1v pass0 (pa_cons (pe_ix (ixt (K := K)) (pv 1) pe_int (fun _ _ => rfl)) pa_nil)) pa_nil)))), ?_⟩
    have na_Grid_lengths := T.na_Grid_lengths
    have na_Grid_breadths := T.na_Grid_breadths
    have na_Grid_grade := T.na_Grid_grade
    have cl_Grid := T.cl_Grid
    have cl_Ladder := T.cl_Ladder
    have na_Ladder_marks := T.na_Ladder_marks
    have na_Ladder_rule := T.na_Ladder_rule
    have na_Ladder_least := T.na_Ladder_least
    have na_Ladder_most := T.na_Ladder_most
    
    obtain ⟨dx, q, hp, qg⟩ := hG.ob
    obtain ⟨⟨d1, T1, ps1, l1, h1, hq1, hT1, hm1, _⟩, _⟩ := hL
    obtain ⟨pb, epb, qb⟩ := hm1.at hb
    refine ⟨_, rfl, p, _, dx, _, _, rfl, hp, cl_Grid, na_Grid_breadths, gf_breadths _ _ _, ?_⟩
    walk_at "w"
    refine ⟨g, rfl, hG, hi, j0, by omega, fun q2 H1 s1 a1 => ?_⟩
    exact q_addT (qb.same s1) a1 (by omega) k0 (by omega) fun q3 H2 s2 a2 => kk q3 H2 (s1.trans s2) a2
theorem ok_l_grades {P : Program} {w : World} {K : PySem.W.Frag} {mg : Str → Option Value} {base : Heap} {φ : Fds} (T : Txt K mg φ) : FnOk P w K mg base CX0 4 (He.fAd K ("_law_grades", none)) φ.l_grades p_l_grades sp_gr := by
  obtain ⟨_, B0v, B0⟩ := b_l_pick_2 T
  obtain ⟨_, B1v, B1⟩ := b_l_part_1 T
  refine T.f_l_grades.ok sc_l_grades (fun vs H Q E h => ?_) (fun cdv A outer s H vs Q E hr h => ?_)
  · obtain ⟨h, n, rfl, hh, hn, kk⟩ := h; rfl
  · obtain ⟨h, n, rfl, hh, hn, kk⟩ := h
    refine ⟨_, PSs.nox (pss_one (ps_ret (pe_call (ok_l_pick (K := K) T) (hr.mono (by decide)) rfl T.g_l_pick T.f_l_pick.kp B0 B0v pass0 (pa_cons (pv 0) (pa_cons (pe_lst (pa_cons (pe_tup (pa_cons pe_int (pa_cons pe_int pa_nil))) (pa_cons (pe_call (ok_l_part (K := K) T) (hr.mono (by decide)) rfl T.g_l_part T.f_l_part.kp B1 B1v pass0 (pa_cons (pv 0) pa_nil)) (pa_cons (pe_tup (pa_cons pe_int (pa_cons pe_int pa_nil))) (pa_cons (pe_tup (pa_cons (pe_un un_neg pe_int) (pa_cons pe_int pa_nil))) (pa_cons (pe_tup (pa_cons (pe_op op_sub pe_int pe_int) (pa_cons pe_int pa_nil))) (pa_cons (pe_tup (pa_cons pe_int (pa_cons pe_int pa_nil))) pa_nil))))))) pa_nil))))), ?_⟩
    have hh0 := hh
    walk_at "wa"
    intro p0 np0
    have sN : Same H (upd H p0 (.tup [.int 0, .int 1])) := same1 np0
    have t0 : TQ (upd H p0 (.tup [.int 0, .int 1])) (.ref p0) 20 (0, 1) := TQ.mk upd_same (by decide) (by decide) (by decide)
    generalize upd H p0 (.tup [.int 0, .int 1]) = G0 at *
    replace hh0 := hh0.same sN
    have s_all := sN
    clear sN np0
    walk_at "wa"
    intro vp zp HP hhp kp' tp _
    replace t0 := t0.kp hh0 kp'
    have kA : Kp h H HP := (Kp.same s_all).trans kp'
    clear kp' hh0 s_all
    have s_all : Same HP HP := Same.refl _
    have hh0 := hhp
    walk_at "wa"
    intro p2 np2
    have sN : Same HP (upd HP p2 (.tup [.int 1, .int 3])) := same1 np2
    have t2 : TQ (upd HP p2 (.tup [.int 1, .int 3])) (.ref p2) 20 (1, 3) := TQ.mk upd_same (by decide) (by decide) (by decide)
    generalize upd HP p2 (.tup [.int 1, .int 3]) = G2 at *
    replace t0 := t0.same sN
    replace tp := tp.same sN
    replace hh0 := hh0.same sN
    replace s_all := s_all.trans sN
    clear sN np2
    walk_at "wa"
    intro p3 np3
    have sN : Same G2 (upd G2 p3 (.tup [.int (-1), .int 2])) := same1 np3
    have t3 : TQ (upd G2 p3 (.tup [.int (-1), .int 2])) (.ref p3) 20 ((-1), 2) := TQ.mk upd_same (by decide) (by decide) (by decide)
    generalize upd G2 p3 (.tup [.int (-1), .int 2]) = G3 at *
    replace t0 := t0.same sN
    replace tp := tp.same sN
    replace t2 := t2.same sN
    replace hh0 := hh0.same sN
    replace s_all := s_all.trans sN
    clear sN np3
    walk_at "wa"
    intro p4 np4
    have sN : Same G3 (upd G3 p4 (.tup [.int (0 - 1), .int 7])) := same1 np4
    have t4 : TQ (upd G3 p4 (.tup [.int (0 - 1), .int 7])) (.ref p4) 20 ((0 - 1), 7) := TQ.mk upd_same (by decide) (by decide) (by decide)
    generalize upd G3 p4 (.tup [.int (0 - 1), .int 7]) = G4 at *
    replace t0 := t0.same sN
    replace tp := tp.same sN
    replace t2 := t2.same sN
    replace t3 := t3.same sN
    replace hh0 := hh0.same sN
    replace s_all := s_all.trans sN
    clear sN np4
    walk_at "wa"
    intro p5 np5
    have sN : Same G4 (upd G4 p5 (.tup [.int 2, .int 1])) := same1 np5
    have t5 : TQ (upd G4 p5 (.tup [.int 2, .int 1])) (.ref p5) 20 (2, 1) := TQ.mk upd_same (by decide) (by decide) (by decide)
    generalize upd G4 p5 (.tup [.int 2, .int 1]) = G5 at *
    replace t0 := t0.same sN
    replace tp := tp.same sN
    replace t2 := t2.same sN
    replace t3 := t3.same sN
    replace t4 := t4.same sN
    replace hh0 := hh0.same sN
    replace s_all := s_all.trans sN
    clear sN np5
    walk_at "wa"
    intro pl npl
    have sN : Same G5 (upd G5 pl (.lst [.ref p0, vp, .ref p2, .ref p3, .ref p4, .ref p5])) := same1 npl
    have all : ∀ x ∈ [V.ref p0, vp, V.ref p2, V.ref p3, V.ref p4, V.ref p5], ∃ z, TQ (upd G5 pl (.lst [.ref p0, vp, .ref p2, .ref p3, .ref p4, .ref p5])) x 20 z := fun x hx => by
      simp only [List.mem_cons, List.not_mem_nil, or_false] at hx
      rcases hx with rfl | rfl | rfl | rfl | rfl | rfl
      · exact ⟨_, t0.same sN⟩
      · exact ⟨_, tp.same sN⟩
      · exact ⟨_, t2.same sN⟩
      · exact ⟨_, t3.same sN⟩
      · exact ⟨_, t4.same sN⟩
      · exact ⟨_, t5.same sN⟩
    refine ⟨h, pl, _, _, rfl, hh0.same sN, by omega, SqL.of upd_same, hh0.ne npl, Nat.le_of_ble_eq_true rfl, Nat.le_of_ble_eq_true rfl, fun i vx HX hx hhX kX => ?_⟩
    obtain ⟨zx, tx⟩ := all vx (List.mem_of_getElem? hx)
    replace tx := tx.kp (hh0.same sN) kX
    exact kk vx zx HX hhX ((kA.trans (Kp.same (s_all.trans sN))).trans kX) tx
theorem ok_l_broad {P : Program} {w : World} {K : PySem.W.Frag} {mg : Str → Option Value} {base : Heap} {φ : Fds} (T : Txt K mg φ) : FnOk P w K mg base CX0 3 (He.fAd K ("_law_broad", none)) φ.l_broad p_l_broad sp_lbroad := by
  obtain ⟨_, B0v, B0⟩ := b_l_sum_2 T
  refine T.f_l_broad.ok sc_l_broad (fun vs H Q E h => ?_) (fun cdv A outer s H vs Q E hr h => ?_)
  · obtain ⟨h, p, i, w', k, zs, ys, g, b, rfl, hS, hb, hi, k0, k1, kk⟩ := h; rfl
  · obtain ⟨h, p, i, w', k, zs, ys, g, b, rfl, hS, hb, hi, k0, k1, kk⟩ := h
    refine ⟨_, PSs.nox (pss_one (ps_ret (pe_call (ok_l_sum (K := K) T) (hr.mono (by decide)) rfl T.g_l_sum T.f_l_sum.kp B0 B0v pass0 (pa_cons (pe_ix (ixl (K := K)) (pe_ix (ixl (K := K)) (pv 0) pe_int (fun _ _ => rfl)) (pv 2) (fun _ _ => rfl)) (pa_cons (pe_tup (pa_cons (pe_op op_mulA (pv 1) (pe_ix (ixt (K := K)) (pe_ix (ixl (K := K)) (pv 0) pe_int (fun _ _ => rfl)) pe_int (fun _ _ => rfl))) (pa_cons (pe_ix (ixt (K := K)) (pe_ix (ixl (K := K)) (pv 0) pe_int (fun _ _ => rfl)) pe_int (fun _ _ => rfl)) pa_nil))) pa_nil))))), ?_⟩
    obtain ⟨l1, l2, v, us, ws, hp, hl1, hl2, tq1, tq2, ⟨qv, rfl, hqv, pg, g1, g2⟩, _⟩ := hS.ob
    obtain ⟨vb, hvb, tb⟩ := tq2.at hb
    walk_at "wa"
    have si : Sz 5 ((i : Nat) : Int) := by
      show ((i : Nat) : Int).natAbs < 2 ^ 5
      omega
    try refine ⟨si.cmul g1 (by decide) (by decide) (by decide), ?_⟩
    walk_at "wa"
    intro p1 np1
    refine ⟨vb, .ref p1, k, 25, b, ((i : Int) * g.1, g.2), rfl, tb.same (same1 np1), TQ.mk upd_same pg (si.mul g1) (g2.mono (by decide)), k0, by decide, by omega, fun v2 z2 H2 s2 t2 r2 => ?_⟩
    rw [← grdQ_eq] at r2
    exact kk v2 z2 H2 ((same1 np1 : Same H _).trans s2) t2 r2
theorem ok_written {P : Program} {w : World} {K : PySem.W.Frag} {mg : Str → Option Value} {base : Heap} {φ : Fds} (T : Txt K mg φ) : FnOk P w K mg base CX0 1 (He.fAd K ("written", none)) φ.written p_written sp_written := by
  refine T.f_written.ok sc_written (fun vs H Q E h => ?_) (fun cdv A outer s H vs Q E hr h => ?_)
  · obtain ⟨a, u, rfl, h0, hu, sa, su, k⟩ := h; rfl
  · obtain ⟨a, u, rfl, h0, hu, sa, su, k⟩ := h
    refine ⟨_, PSs.nox (pss_cons (ps_asg (pe_callB (id := "divmod") call_dm (by rfl) T.z_divmod (by decide +kernel) (pa_cons (pv 0) (pa_cons (pv 1) pa_nil))) (pg_tup rfl (pgs_cons (pg_name (i := 2) sc_written.nd rfl (Or.inl rfl)) (pgs_cons (pg_name (i := 3) sc_written.nd rfl (Or.inl rfl)) pgs_nil))))
      (pss_cons (ps_if (pt_cmpR op_eq (pv 3) pe_int (nomark _))
      (pss_one (ps_ret (pe_joined1 (pe_fmt (pv 2)))))
      pss_nil)
      (pss_cons (ps_if (pt_cmpR op_eq (pv 2) pe_int (nomark _))
      (pss_one (ps_ret (pe_joined (PJ.cons (pe_fmt (pv 3)) (PJ.cons pe_str (PJ.cons (pe_fmt (pv 1)) PJ.nil))))))
      pss_nil)
      (pss_one (ps_ret (pe_joined (PJ.cons (pe_fmt (pv 2)) (PJ.cons pe_str (PJ.cons (pe_fmt (pv 3)) (PJ.cons pe_str (PJ.cons (pe_fmt (pv 1)) PJ.nil))))))))))), ?_⟩
    refine ⟨_, rfl, _, rfl, a, u, rfl, hu, su.log (by decide) (by decide), fun p np => ?_⟩
    refine ⟨p, _, rfl, SqT.of upd_same, rfl, _, _, rfl, _, _, rfl, rfl, ?_⟩
    have sd := sa.ediv h0 hu
    have sm := su.emod (a := a) hu
    have l1 := iT_len sd
    have l2 := iT_len sm
    have l3 := iT_len su
    have l1' : (Str.ofString (toString (a / u))).length ≤ 1921 := l1
    have l2' : (Str.ofString (toString (a % u))).length ≤ 1921 := l2
    have l3' : (Str.ofString (toString u)).length ≤ 1921 := l3
    have e0 : Str.empty.length = 0 := rfl
    have e1 : (Str.ofString "/").length = 1 := rfl
    have e2 : (Str.ofString " ").length = 1 := rfl
    have k := k _ (same1 (u := .tup [.int (a / u), .int (a % u)]) np)
    unfold wTxt at k
    refine ⟨_, rfl, rfl, _, rfl, ?_⟩
    rw [dI]
    refine ite2 (fun e => ?_) (fun e => ?_)
    · rw [if_pos (of_decide_eq_true e)] at k
      exact ⟨_, rfl, .inr ⟨_, rfl, sd.log' (by decide) (by decide), k⟩⟩
    · rw [if_neg (fun z => e (decide_eq_true z))] at k
      refine ⟨_, rfl, rfl, _, rfl, ?_⟩
      rw [dI]
      refine ite2 (fun e => ?_) (fun e => ?_)
      · rw [if_pos (of_decide_eq_true e)] at k
        refine ⟨_, rfl, .inr ⟨_, rfl, sm.log' (by decide) (by decide), _, rfl, ?_, _, rfl, ?_, _, rfl, .inr ⟨_, rfl, su.log' (by decide) (by decide), _, rfl, ?_, k⟩⟩⟩
        all_goals (rw [sizeLine_eq]; simp only [Str.length_append]; omega)
      · rw [if_neg (fun z => e (decide_eq_true z))] at k
        refine ⟨_, rfl, .inr ⟨_, rfl, sd.log' (by decide) (by decide), _, rfl, ?_, _, rfl, ?_, _, rfl, .inr ⟨_, rfl, sm.log' (by decide) (by decide), _, rfl, ?_, _, rfl, ?_, _, rfl, .inr ⟨_, rfl, su.log' (by decide) (by decide), _, rfl, ?_, k⟩⟩⟩⟩
        all_goals (rw [sizeLine_eq]; simp only [Str.length_append]; omega)
theorem ok_Measure_str {P : Program} {w : World} {K : PySem.W.Frag} {mg : Str → Option Value} {base : Heap} {φ : Fds} (T : Txt K mg φ) : FnOk P w K mg base CX0 2 (He.fAd K ("Measure", some "__str__")) φ.Measure_str p_Measure_str (sp_mstr (He.ga K "Measure")) := by
  obtain ⟨_, B0v, B0⟩ := b_written_2 T
  refine T.f_Measure_str.ok sc_Measure_str (fun vs H Q E h => ?_) (fun cdv A outer s H vs Q E hr h => ?_)
  · obtain ⟨p, t, u, rfl, ⟨dx, hp⟩, hu, st, su, k⟩ := h; rfl
  · obtain ⟨p, t, u, rfl, ⟨dx, hp⟩, hu, st, su, k⟩ := h
    refine ⟨_, PSs.nox (pss_cons (ps_if (pt_cmpR op_lt (fldK (K := K) (pv 0) rfl) pe_int (nomark _))
      (pss_one (ps_ret (pe_joined (PJ.cons pe_str (PJ.cons (pe_fmt (pe_call (ok_written (K := K) T) (hr.mono (by decide)) rfl T.g_written T.f_written.kp B0 B0v pass0 (pa_cons (pe_un un_neg (fldK (K := K) (pv 0) rfl)) (pa_cons (fldK (K := K) (pv 0) rfl) pa_nil)))) PJ.nil)))))
      pss_nil)
      (pss_one (ps_ret (pe_joined1 (pe_fmt (pe_call (ok_written (K := K) T) (hr.mono (by decide)) rfl T.g_written T.f_written.kp B0 B0v pass0 (pa_cons (fldK (K := K) (pv 0) rfl) (pa_cons (fldK (K := K) (pv 0) rfl) pa_nil)))))))), ?_⟩
    refine ⟨_, rfl, _, _, _, _, _, rfl, hp, T.cl_Measure, T.na_Measure_top, mf_top _ _, _, _, rfl, rfl, _, rfl, ?_⟩
    have e1 : (Str.ofString "-").length = 1 := rfl
    have e0 : Str.empty.length = 0 := rfl
    refine ite2 (fun e => ?_) (fun e => ?_)
    · have e : t < 0 := of_decide_eq_true e
      have wl := wTxt_len st.neg su (by omega) hu
      refine ⟨_, rfl, ?_, _, rfl, _, _, _, _, _, rfl, hp, T.cl_Measure, T.na_Measure_top, mf_top _ _, _, rfl, _, rfl, _, _, _, _, _, rfl, hp, T.cl_Measure, T.na_Measure_bottom, mf_bottom _ _, _, _, rfl, by omega, hu, st.neg, su, fun H' s => .inl ⟨_, rfl, ?_, _, rfl, ?_, ?_⟩⟩
      · rw [sizeLine_eq]; simp only [Str.length_append]; omega
      · rw [sizeLine_eq]; omega
      · rw [sizeLine_eq]; simp only [Str.length_append]; omega
      · have k := k H' s
        unfold mTxt at k
        rw [if_pos e] at k
        exact k
    · have e : ¬ t < 0 := fun z => e (decide_eq_true z)
      have wl := wTxt_len st su (by omega) hu
      refine ⟨_, rfl, _, _, _, _, _, rfl, hp, T.cl_Measure, T.na_Measure_top, mf_top _ _, _, rfl, _, _, _, _, _, rfl, hp, T.cl_Measure, T.na_Measure_bottom, mf_bottom _ _, _, _, rfl, by omega, hu, st, su, fun H' s => .inl ⟨_, rfl, ?_, ?_⟩⟩
      · rw [sizeLine_eq]; omega
      · have k := k H' s
        unfold mTxt at k
        rw [if_neg e] at k
        exact k
theorem ok_Measure_eqX {P : Program} {w : World} {K : PySem.W.Frag} {mg : Str → Option Value} {base : Heap} {φ : Fds} (T : Txt K mg φ) : FnOk P w K mg base CX0 1 (He.fAd K ("Measure", some "__eq__")) φ.Measure_eq p_Measure_eq (spEqB (REq K (He.ga K "Measure"))) := by
  refine T.f_Measure_eq.ok sc_Measure_eq (fun vs H Q E h => ?_) (fun cdv A outer s H vs Q E hr h => ?_)
  · obtain ⟨x, y, b, rfl, ⟨p, t, u, rfl, ⟨dp, hp⟩, hy⟩, k⟩ := h; rfl
  · obtain ⟨x, y, b, rfl, ⟨p, t, u, rfl, ⟨dp, hp⟩, hy⟩, k⟩ := h
    refine ⟨_, PSs.nox (pss_one (ps_ret (pe_and (pe_callB (id := "isinstance") (isi (K := K)) (by rfl) T.z_isinstance (by decide +kernel) (pa_cons (pv 1) (pa_cons (pe_glob (v := .ref (He.ga K "Measure")) rfl T.g_Measure rfl) pa_nil))) (pe_and (pe_cmpR op_eq (fldK (K := K) (pv 0) rfl) (fldK (K := K) (pv 1) rfl) (nomark _)) (pe_one (pe_cmpR op_eq (fldK (K := K) (pv 0) rfl) (fldK (K := K) (pv 1) rfl) (nomark _))))))), ?_⟩
    rcases hy with ⟨q, t', u', rfl, ⟨dq, hq⟩, rfl⟩ | ⟨tv, ty, kt, rfl⟩
    · refine ⟨_, rfl, _, _, _, _, true, rfl, .own _, tyM hq T.cl_Measure T.ii_Measure, T.k_Measure_Measure, _, rfl, iteT ?_⟩
      refine ⟨_, rfl, _, _, _, _, _, rfl, hp, T.cl_Measure, T.na_Measure_top, mf_top _ _, _, rfl, _, _, _, _, _, rfl, hq, T.cl_Measure, T.na_Measure_top, mf_top _ _, rfl, _, rfl, ?_⟩
      rw [dI]
      refine ite2 (fun e => ?_) (fun e => ?_)
      · rw [e] at k
        refine ⟨_, rfl, _, _, _, _, _, rfl, hp, T.cl_Measure, T.na_Measure_bottom, mf_bottom _ _, _, rfl, _, _, _, _, _, rfl, hq, T.cl_Measure, T.na_Measure_bottom, mf_bottom _ _, rfl, ?_⟩
        rw [dI]
        exact k
      · rw [isTrueN e] at k
        exact k
    · refine ⟨_, rfl, _, _, _, _, false, rfl, .own _, ty, kt, _, rfl, iteF ?_⟩
      exact k
theorem ok_Ladder_eq {P : Program} {w : World} {K : PySem.W.Frag} {mg : Str → Option Value} {base : Heap} {φ : Fds} (T : Txt K mg φ) : FnOk P w K mg base CX0 4 (He.fAd K ("Ladder", some "__eq__")) φ.Ladder_eq p_Ladder_eq (spEqB (REqL K (He.ga K "Measure") (He.ga K "Ladder"))) := by
  obtain ⟨_, B0v, B0⟩ := b_Measure_eq_2 T
  refine T.f_Ladder_eq.ok sc_Ladder_eq (fun vs H Q E h => ?_) (fun cdv A outer s H vs Q E hr h => ?_)
  · obtain ⟨x, y, b, rfl, ⟨p, k, zs, r, lo, hi, rfl, hL, k4, hy⟩, kk⟩ := h; rfl
  · obtain ⟨x, y, b, rfl, ⟨p, k, zs, r, lo, hi, rfl, hL, k4, hy⟩, kk⟩ := h
    refine ⟨_, PSs.nox (pss_one (ps_ret (pe_and (pe_callB (id := "isinstance") (isi (K := K)) (by rfl) T.z_isinstance (by decide +kernel) (pa_cons (pv 1) (pa_cons (pe_glob (v := .ref (He.ga K "Ladder")) rfl T.g_Ladder rfl) pa_nil))) (pe_and (pe_cmpR (op_eqB (rcB_tup (eqB_own (rcB_own (ok_Measure_eqX (K := K) T) T.me_Measure_eq (bnil B0v B0) pass0))) (hr.mono (by decide))) (fldK (K := K) (pv 0) rfl) (fldK (K := K) (pv 1) rfl) (nomark _)) (pe_and (pe_cmpR op_eq (fldK (K := K) (pv 0) rfl) (fldK (K := K) (pv 1) rfl) (nomark _)) (pe_and (pe_cmpR (op_eqB (RcB.or (RcB.or (rcB_own (ok_Measure_eqX (K := K) T) T.me_Measure_eq (bnil B0v B0) pass0) (rcB_ref (ok_Measure_eqX (K := K) T) T.me_Measure_eq T.ec_Measure (bnil B0v B0) pass0)) rcB_nn) (hr.mono (by decide))) (fldK (K := K) (pv 0) rfl) (fldK (K := K) (pv 1) rfl) (nomark _)) (pe_one (pe_cmpR (op_eqB (RcB.or (RcB.or (rcB_own (ok_Measure_eqX (K := K) T) T.me_Measure_eq (bnil B0v B0) pass0) (rcB_ref (ok_Measure_eqX (K := K) T) T.me_Measure_eq T.ec_Measure (bnil B0v B0) pass0)) rcB_nn) (hr.mono (by decide))) (fldK (K := K) (pv 0) rfl) (fldK (K := K) (pv 1) rfl) (nomark _))))))))), ?_⟩
    obtain ⟨⟨dx, T', ps, l, h, hp, hT, hm, ql, qh⟩, len0, len1, _, ru, _⟩ := id hL
    rcases hy with ⟨q, k', zs', r', lo', hi', rfl, hL', k4', rfl⟩ | ⟨tv, ty, kt, rfl⟩
    · obtain ⟨⟨dx', T2, ps', l', h', hp', hT', hm', ql', qh'⟩, len0', len1', _, ru', _⟩ := id hL'
      refine ⟨_, rfl, _, _, _, _, true, rfl, .own _, tyM hp' T.cl_Ladder T.ii_Ladder, T.k_Ladder_Ladder, _, rfl, iteT ?_⟩
      have cL := T.cl_Ladder
      have n1 := T.na_Ladder_marks
      have n2 := T.na_Ladder_rule
      have n3 := T.na_Ladder_least
      have n4 := T.na_Ladder_most
      obtain ⟨m1, lw1⟩ := qo_ms ql k4
      obtain ⟨m2, lw2⟩ := qo_ms qh k4
      obtain ⟨m1', lw1'⟩ := qo_ms ql' k4'
      obtain ⟨m2', lw2'⟩ := qo_ms qh' k4'
      unfold eqLQ at kk
      walk_at "w"
      refine ⟨marks_eq T.cl_Measure T.ii_Measure T.ec_Measure hT hT' hm hm' k4 k4', _, rfl, ?_⟩
      refine ite2 (fun e => ?_) (fun e => ?_)
      · rw [e, Bool.true_and] at kk
        walk_at "w"
        rw [show decide (V.str r = V.str r') = decide (r = r') from decide_eq_decide.mpr ⟨fun h => V.str.inj h, fun h => by rw [h]⟩]
        refine ite2 (fun e2 => ?_) (fun e2 => ?_)
        · rw [e2, Bool.true_and] at kk
          walk_at "w"
          refine ⟨ms_eq T.cl_Measure T.ii_Measure T.ec_Measure m1 m1' lw1 lw1', _, rfl, ?_⟩
          refine ite2 (fun e3 => ?_) (fun e3 => ?_)
          · rw [e3, Bool.true_and] at kk
            walk_at "w"
            exact ⟨ms_eq T.cl_Measure T.ii_Measure T.ec_Measure m2 m2' lw2 lw2', kk⟩
          · rw [isTrueN e3, Bool.false_and] at kk
            exact kk
        · rw [isTrueN e2, Bool.false_and] at kk
          exact kk
      · rw [isTrueN e, Bool.false_and] at kk
        exact kk
    · refine ⟨_, rfl, _, _, _, _, false, rfl, .own _, ty, kt, _, rfl, iteF ?_⟩
      exact kk
theorem okX_is_measure_or_none {P : Program} {w : World} {K : PySem.W.Frag} {mg : Str → Option Value} {base : Heap} {φ : Fds} (T : Txt K mg φ) : FnOk P w K mg base CX0 1 (He.fAd K ("is_measure_or_none", none)) φ.is_measure_or_none p_is_measure_or_none (sp_isendX K (He.ga K "Measure")) := by
  refine T.f_is_measure_or_none.ok sc_is_measure_or_none (fun vs H Q E h => ?_) (fun cdv A outer s H vs Q E hr h => ?_)
  · obtain ⟨v, rfl, nn, ⟨t, ht, e⟩, kk⟩ := h; rfl
  · obtain ⟨v, rfl, nn, ⟨t, ht, e⟩, kk⟩ := h
    refine ⟨_, PSs.nox (pss_one (ps_ret (pe_or (pe_cmpR op_isN (pv 0) pe_non (nomark _)) (pe_one (pe_callB (id := "isinstance") (isi (K := K)) (by rfl) T.z_isinstance (by decide +kernel) (pa_cons (pv 0) (pa_cons (pe_glob (v := .ref (He.ga K "Measure")) rfl T.g_Measure rfl) pa_nil))))))), ?_⟩
    have e0 : decide (v = V.non) = false := decide_eq_false nn
    walk_at "w"
    exact ⟨t, _, _, rfl, .own _, ht.ty, e, kk⟩
theorem okX_Grid_init {P : Program} {w : World} {K : PySem.W.Frag} {mg : Str → Option Value} {base : Heap} {φ : Fds} (T : Txt K mg φ) : FnOk P w K mg base (L2.CX P w) 5 (He.fAd K ("Grid", some "__init__")) φ.Grid_init p_Grid_init (sp_gbad K (He.ga K "Measure") (He.ga K "Ladder") (He.ga K "Grid") (He.ga K "NoLadder")) := by
  obtain ⟨_, B0v, B0⟩ := b_is_measure_or_none_1 T
  obtain ⟨_, B1v, B1⟩ := b_measure_or_2 T
  refine T.f_Grid_init.ok sc_Grid_init (fun vs H Q E h => ?_) (fun cdv A outer s H vs Q E hr h => ?_)
  · obtain ⟨p, dx, x, y, v, rfl, hp, hB, kE⟩ := h; rfl
  · obtain ⟨p, dx, x, y, v, rfl, hp, hB, kE⟩ := h
    refine ⟨_, (pss_cons (ps_if (PW.pt (pw_or (pt_not (pt_val (pe_callB (id := "isinstance") (isi (K := K)) (by rfl) T.z_isinstance (by decide +kernel) (pa_cons (pv 1) (pa_cons (pe_glob (v := .ref (He.ga K "Ladder")) rfl T.g_Ladder rfl) pa_nil))))) (pw_or1 (pt_not (pt_val (pe_callB (id := "isinstance") (isi (K := K)) (by rfl) T.z_isinstance (by decide +kernel) (pa_cons (pv 2) (pa_cons (pe_glob (v := .ref (He.ga K "Ladder")) rfl T.g_Ladder rfl) pa_nil))))))))
      (pss_one (ps_raise rfl (takes_of rfl rfl rfl rfl) (pmk_own PySem.F.excBase_ValueError T.xf_NoLadder.e T.g_NoLadder T.xf_NoLadder.k (raises_own T.xf_NoLadder.b T.xf_NoLadder.t) rfl)))
      pss_nil)
      (pss_cons (ps_if (pt_not (pt_val (pe_call (okX_is_measure_or_none (K := K) T) (hr.mono (by decide)) rfl T.g_is_measure_or_none T.f_is_measure_or_none.kp B0 B0v pass0 (pa_cons (pv 3) pa_nil))))
      (pss_one (ps_raise rfl (takes_of rfl rfl rfl rfl) (pmk_own PySem.F.excBase_ValueError T.xf_NoLadder.e T.g_NoLadder T.xf_NoLadder.k (raises_own T.xf_NoLadder.b T.xf_NoLadder.t) rfl)))
      pss_nil)
      (pss_cons (ps_fld (pv 0) (pv 1) rfl)
      (pss_cons (ps_fld (pv 0) (pv 2) rfl)
      (pss_one (ps_fld (pv 0) (pe_call (ok_measure_or (K := K) T) (hr.mono (by decide)) rfl T.g_measure_or T.f_measure_or.kp B1 B1v pass0 (pa_cons (pv 3) (pa_cons pe_int pa_nil))) rfl)))))), ?_⟩
    rcases hB with ⟨t, ht, e⟩ | ⟨⟨q1, d1, f1, rfl, h1⟩, ⟨t, ht, e⟩ | ⟨⟨q2, d2, f2, rfl, h2⟩, nn, hv⟩⟩
    · refine ⟨_, rfl, _, _, _, _, _, rfl, .own _, ht.ty, e, _, rfl, iteT ?_⟩
      exact kE
    · refine ⟨_, rfl, _, _, _, _, _, rfl, .own _, tyM h1 T.cl_Ladder T.ii_Ladder, T.k_Ladder_Ladder, _, rfl, iteF ?_⟩
      refine ⟨_, rfl, _, _, _, _, _, rfl, .own _, ht.ty, e, _, rfl, iteT ?_⟩
      exact kE
    · refine ⟨_, rfl, _, _, _, _, _, rfl, .own _, tyM h1 T.cl_Ladder T.ii_Ladder, T.k_Ladder_Ladder, _, rfl, iteF ?_⟩
      refine ⟨_, rfl, _, _, _, _, _, rfl, .own _, tyM h2 T.cl_Ladder T.ii_Ladder, T.k_Ladder_Ladder, _, rfl, iteF ?_⟩
      refine ⟨_, rfl, v, rfl, nn, hv, _, rfl, iteT ?_⟩
      exact kE
theorem ok_l_refused {P : Program} {w : World} {K : PySem.W.Frag} {mg : Str → Option Value} {base : Heap} {φ : Fds} (T : Txt K mg φ) : FnOk P w K mg base CX0 7 (He.fAd K ("_law_refused", none)) φ.l_refused p_l_refused (sp_lrefG K (He.ga K "Measure") (He.ga K "Ladder")) := by
  obtain ⟨_, B0v, B0⟩ := b_Grid_init_4 T
  refine T.f_l_refused.ok sc_l_refused (fun vs H Q E h => ?_) (fun cdv A outer s H vs Q E hr h => ?_)
  · obtain ⟨x, y, v, rfl, hB, kk⟩ := h; rfl
  · obtain ⟨x, y, v, rfl, hB, kk⟩ := h
    refine ⟨_, PSs.nox (pss_cons (ps_set (i := 3) sc_l_refused.nd rfl (Or.inl rfl) pe_non)
      (pss_cons (ps_tryK (i := 4) rfl rfl sc_l_refused.nd rfl rfl rfl (fun W pn xe tk _ => (pss_one (ps_expr (pe_makeS T.mk_Grid (okX_Grid_init (K := K) T) (hr.mono (by decide)) rfl T.g_Grid B0 B0v (fun σ => passAt tk σ) (pa_cons (pv 0) (pa_cons (pv 1) (pa_cons (pv 2) pa_nil))))))) (KClauses.named ⟨rfl, by decide, .inl T.g_LadderError⟩ (fun a oe cls d pn hz hf => (pss_one (ps_set (i := 3) sc_l_refused.nd rfl (Or.inl rfl) (pv 4)))) KClauses.none))
      (pss_cons (ps_set (i := 5) sc_l_refused.nd rfl (Or.inl rfl) (pe_or (pe_callB (id := "isinstance") (callR_or (isiT (K := K)) (isKT (K := K))) (by rfl) T.z_isinstance (by decide +kernel) (pa_cons (pv 3) (pa_cons (pe_tup (pa_cons (pe_glob (v := .ref (He.ga K "NoLine")) rfl T.g_NoLine rfl) (pa_cons (pe_glob (v := .ref (He.ga K "NoMeasure")) rfl T.g_NoMeasure rfl) (pa_cons (pe_glob (v := .ref (He.ga K "NoStretch")) rfl T.g_NoStretch rfl) pa_nil)))) pa_nil))) (pe_one (pe_callB (id := "isinstance") (callR_or (isiT (K := K)) (isKT (K := K))) (by rfl) T.z_isinstance (by decide +kernel) (pa_cons (pv 3) (pa_cons (pe_tup (pa_cons (pe_glob (v := .ref (He.ga K "NoText")) rfl T.g_NoText rfl) (pa_cons (pe_glob (v := .ref (He.ga K "Slip")) rfl T.g_Slip rfl) pa_nil))) pa_nil))))))
      (pss_one (ps_ret (pe_and (pe_callB (id := "isinstance") (callR_or (isi (K := K)) (isK (K := K))) (by rfl) T.z_isinstance (by decide +kernel) (pa_cons (pv 3) (pa_cons (pe_glob (v := .ref (He.ga K "NoLadder")) rfl T.g_NoLadder rfl) pa_nil))) (pe_and (pe_callB (id := "isinstance") (callR_or (isi (K := K)) (isK (K := K))) (by rfl) T.z_isinstance (by decide +kernel) (pa_cons (pv 3) (pa_cons (pe_bltn (v := .ty "ValueError") rfl T.z_ValueError (by decide +kernel) rfl) pa_nil))) (pe_one (pe_not (pv 5)))))))))), ?_⟩
    walk_at "w"
    intro o dx no nd ne
    have s0 : Same H (upd (upd H dx (.own o)) o (.ins (He.ga K "Grid") dx [])) := fun c u e => by
      rw [upd_ne (ne_of_none e no)]; exact up1 nd e
    refine ⟨o, dx, x, y, v, rfl, upd_same, hB.same s0, ?_⟩
    generalize upd (upd H dx (.own o)) o (.ins (He.ga K "Grid") dx []) = H1 at *
    refine ⟨true, T.xm_NoLadder_LadderError, fun _ q nq => ?_, fun z => nomatch z⟩
    refine ⟨_, rfl, fun nq => ?_⟩
    have s1 : Same H (upd H1 q (errO (.ref (He.ga K "NoLadder")) none q)) := s0.up nq
    have eA : ErrAt K (upd H1 q (errO (.ref (He.ga K "NoLadder")) none q)) q (He.ga K "NoLadder") := ⟨T.xc_NoLadder, .inl upd_same⟩
    generalize upd H1 q (errO (.ref (He.ga K "NoLadder")) none q) = H2 at *
    refine ⟨_, rfl, by show 3 ≤ sizeLine; decide, fun tp ntp => ?_⟩
    have ea1 : ErrAt K (upd H2 tp (.tup [V.ref (He.ga K "NoLine"), V.ref (He.ga K "NoMeasure"), V.ref (He.ga K "NoStretch")])) q (He.ga K "NoLadder") := ⟨eA.1, eA.2.elim (fun z => .inl (up1 ntp z)) fun ⟨dd, fs, z1, z2⟩ => .inr ⟨dd, fs, up1 ntp z1, up1 ntp z2⟩⟩
    replace s1 := s1.up (u := .tup [V.ref (He.ga K "NoLine"), V.ref (He.ga K "NoMeasure"), V.ref (He.ga K "NoStretch")]) ntp
    refine .inr ⟨q, _, tp, _, _, false, rfl, ea1, upd_same, .cons (.own _) (.cons (.own _) (.cons (.own _) .nil)), kitAny_cons T.k_NoLadder_NoLine (fun _ => kitAny_cons T.k_NoLadder_NoMeasure (fun _ => kitAny_cons T.k_NoLadder_NoStretch (fun _ => kitAny_nil) (fun z => nomatch z)) (fun z => nomatch z)) (fun z => nomatch z), ?_⟩
    generalize upd H2 tp _ = H3 at *
    refine ⟨false, rfl, iteF ?_⟩
    refine ⟨_, rfl, by show 2 ≤ sizeLine; decide, fun tp2 ntp2 => ?_⟩
    have ea2 : ErrAt K (upd H3 tp2 (.tup [V.ref (He.ga K "NoText"), V.ref (He.ga K "Slip")])) q (He.ga K "NoLadder") := ⟨ea1.1, ea1.2.elim (fun z => .inl (up1 ntp2 z)) fun ⟨dd, fs, z1, z2⟩ => .inr ⟨dd, fs, up1 ntp2 z1, up1 ntp2 z2⟩⟩
    replace s1 := s1.up (u := .tup [V.ref (He.ga K "NoText"), V.ref (He.ga K "Slip")]) ntp2
    refine .inr ⟨q, _, tp2, _, _, false, rfl, ea2, upd_same, .cons (.own _) (.cons (.own _) .nil), kitAny_cons T.k_NoLadder_NoText (fun _ => kitAny_cons T.k_NoLadder_Slip (fun _ => kitAny_nil) (fun z => nomatch z)) (fun z => nomatch z), ?_⟩
    generalize upd H3 tp2 _ = H4 at *
    refine ⟨_, rfl, .inr ⟨q, _, _, _, true, rfl, ea2, fun u h => h, T.k_NoLadder_NoLadder, ?_⟩⟩
    refine ⟨true, rfl, iteT ?_⟩
    refine ⟨_, rfl, .inr ⟨q, _, _, _, true, rfl, ea2, fun u h => h, T.k_NoLadder_ValueError, ?_⟩⟩
    refine ⟨true, rfl, iteT ?_⟩
    walk_at "w"
    exact kk _ s1
theorem ok_l_deep {P : Program} {w : World} {K : PySem.W.Frag} {mg : Str → Option Value} {base : Heap} {φ : Fds} (T : Txt K mg φ) : FnOk P w K mg base CX0 2 (He.fAd K ("_law_deep", none)) φ.l_deep p_l_deep sp_ldeep := by
  obtain ⟨_, B0v, B0⟩ := b_l_take_2 T
  refine T.f_l_deep.ok sc_l_deep (fun vs H Q E h => ?_) (fun cdv A outer s H vs Q E hr h => ?_)
  · obtain ⟨h, n, v, rfl, hh, hn, kk⟩ := h; rfl
  · obtain ⟨h, n, v, rfl, hh, hn, kk⟩ := h
    refine ⟨_, PSs.nox (pss_cons (ps_set (i := 2) sc_l_deep.nd rfl (Or.inl rfl) (pe_call (ok_l_take (K := K) T) (hr.mono (by decide)) rfl T.g_l_take T.f_l_take.kp B0 B0v pass0 (pa_cons (pv 0) (pa_cons pe_int pa_nil))))
      (pss_cons (ps_for PassesOwn.never rfl (pi_range1 rfl T.z_range (pa_cons (pe_op op_add pe_int (pe_call (ok_l_take (K := K) T) (hr.mono (by decide)) rfl T.g_l_take T.f_l_take.kp B0 B0v pass0 (pa_cons (pv 0) (pa_cons pe_int pa_nil)))) pa_nil)) (pg_name (i := 3) sc_l_deep.nd rfl (Or.inl rfl))
      (pss_one (ps_set (i := 1) sc_l_deep.nd rfl (Or.inl rfl) (pe_ix (ixl (K := K)) (pe_lst (pa_cons (pe_tup (pa_cons (pv 1) pa_nil)) (pa_cons (pe_lst (pa_cons (pv 1) pa_nil)) pa_nil))) (pv 2) (fun _ _ => rfl)))))
      (pss_one (ps_ret (pv 1))))), ?_⟩
    walk_at "w"
    intro d H1 d0 d1 hh1 k1
    walk_at "w"
    intro t H2 t0 t1 hh2 k2
    have kA := k1.trans k2
    clear hh hh1 k1 k2
    obtain ⟨t, rfl⟩ := Int.eq_ofNat_of_zero_le t0
    walk_at "w"
    refine for_range (fun i σ H' => ∃ w vk, σ = [some (.ref h), some w, some (.int d), vk] ∧ HandAt H' h (n + 2) ∧ Kp h H H' ∧ (0 < i → ∃ a xs, w = .ref a ∧ a ≠ h ∧ (H' a = some (.lst xs) ∨ H' a = some (.tup xs)))) ?_ ?_ ?_
    · exact ⟨v, _, rfl, hh2, kA, fun z => by omega⟩
    · rintro i σ H3 hi ⟨w, vk, rfl, hh3, k3, _⟩
      walk_at "w"
      intro p1 n1
      walk_at "w"
      intro p2 n2
      walk_at "w"
      intro p3 n3
      have kB : Kp h H3 (upd (upd (upd H3 p1 (.tup [w])) p2 (.lst [w])) p3 (.lst [V.ref p1, V.ref p2])) := ((Kp.refl h H3).up n1).up n2 |>.up n3
      have hhB : HandAt (upd (upd (upd H3 p1 (.tup [w])) p2 (.lst [w])) p3 (.lst [V.ref p1, V.ref p2])) h (n + 2) := ((hh3.up n1).up n2).up n3
      have f1 := up1 (u := .lst [V.ref p1, V.ref p2]) n3 (up1 (u := .lst [w]) n2 (upd_same (H := H3) (a := p1) (o := .tup [w])))
      have f2 := up1 (u := .lst [V.ref p1, V.ref p2]) n3 (upd_same (H := upd H3 p1 (.tup [w])) (a := p2) (o := .lst [w]))
      have e1 : p1 ≠ h := hh3.ne n1
      have e2 : p2 ≠ h := (hh3.up n1).ne n2
      obtain rfl | rfl : d = 0 ∨ d = 1 := by omega
      · refine ⟨_, rfl, p3, _, _, _, rfl, rfl, SqL.of upd_same, rfl, ?_⟩
        exact ⟨.ref p1, _, rfl, hhB, k3.trans kB, fun _ => ⟨p1, _, rfl, e1, .inr f1⟩⟩
      · refine ⟨_, rfl, p3, _, _, _, rfl, rfl, SqL.of upd_same, rfl, ?_⟩
        exact ⟨.ref p2, _, rfl, hhB, k3.trans kB, fun _ => ⟨p2, _, rfl, e2, .inl f2⟩⟩
    rintro σ H3 ⟨w, vk, rfl, hh3, k3, hw⟩
    walk_at "w"
    exact kk w H3 hh3 k3 (hw (by omega))
theorem ok_l_is_grid {P : Program} {w : World} {K : PySem.W.Frag} {mg : Str → Option Value} {base : Heap} {φ : Fds} (T : Txt K mg φ) : FnOk P w K mg base CX0 8 (He.fAd K ("_law_is_grid", none)) φ.l_is_grid p_l_is_grid (sp_isgrid K (He.ga K "Measure") (He.ga K "Ladder") (He.ga K "Grid")) := by
  obtain ⟨_, B0v, B0⟩ := b_Measure_init_3 T
  obtain ⟨_, B1v, B1⟩ := b_Measure_eq_2 T
  obtain ⟨_, B2v, B2⟩ := b_Ladder_eq_2 T
  obtain ⟨_, B3v, B3⟩ := b_l_broad_3 T
  obtain ⟨_, B4v, B4⟩ := b_Grid_broad_mark_2 T
  obtain ⟨_, B5v, B5⟩ := b_Grid_long_mark_2 T
  obtain ⟨_, B6⟩ := b_Grid_broad_mark_1_pair T
  obtain ⟨_, B7⟩ := b_Grid_long_mark_1_pair T
  refine T.f_l_is_grid.ok sc_l_is_grid (fun vs H Q E h => ?_) (fun cdv A outer s H vs Q E hr h => ?_)
  · obtain ⟨h, p, pc, ps, L1, L2', zs, ys, g, r1, r2, lo1, hi1, lo2, hi2, rfl, hG, hpc, A1, A2, SD, kk⟩ := h; rfl
  · obtain ⟨h, p, pc, ps, L1, L2', zs, ys, g, r1, r2, lo1, hi1, lo2, hi2, rfl, hG, hpc, A1, A2, SD, kk⟩ := h
    refine ⟨_, PSs.nox (pss_cons (ps_set (i := 3) sc_l_is_grid.nd rfl (Or.inl rfl) (pe_make T.mk_Measure (ok_Measure_init (K := K) T) (hr.mono (by decide)) rfl T.g_Measure B0 B0v pass0 (pa_cons (pe_ix (ixt (K := K)) (pe_ix (ixl (K := K)) (pv 2) pe_int (fun _ _ => rfl)) pe_int (fun _ _ => rfl)) (pa_cons (pe_ix (ixt (K := K)) (pe_ix (ixl (K := K)) (pv 2) pe_int (fun _ _ => rfl)) pe_int (fun _ _ => rfl)) pa_nil))))
      (pss_cons (ps_if (PW.pt (pw_or (pt_cmpR (op_neBK (K := K) (ok_Ladder_eq (K := K) T) T.me_Ladder_eq T.ec_Ladder (bnil B2v B2) pass0 (hr.mono (by decide))) (fldK (K := K) (pv 0) rfl) (pe_ix (ixl (K := K)) (pv 1) pe_int (fun _ _ => rfl)) (nomark _)) (pw_or (pt_cmpR (op_neBK (K := K) (ok_Ladder_eq (K := K) T) T.me_Ladder_eq T.ec_Ladder (bnil B2v B2) pass0 (hr.mono (by decide))) (fldK (K := K) (pv 0) rfl) (pe_ix (ixl (K := K)) (pv 1) pe_int (fun _ _ => rfl)) (nomark _)) (pw_or1 (pt_cmpR (op_neB (ok_Measure_eqX (K := K) T) T.me_Measure_eq T.ec_Measure (bnil B1v B1) pass0 (hr.mono (by decide))) (fldK (K := K) (pv 0) rfl) (pv 3) (nomark _))))))
      (pss_one (ps_ret pe_bl))
      pss_nil)
      (pss_cons (ps_for PassesOwn.never rfl (pi_range1 rfl T.z_range (pa_cons (pe_callB (id := "len") (lenS (K := K)) (by rfl) T.z_len PySem.boot_len (pa_cons (pe_ix (ixl (K := K)) (pv 2) pe_int (fun _ _ => rfl)) pa_nil)) pa_nil)) (pg_name (i := 4) sc_l_is_grid.nd rfl (Or.inl rfl))
      (pss_one (ps_for PassesOwn.never rfl (pi_range1 rfl T.z_range (pa_cons (pe_callB (id := "len") (lenS (K := K)) (by rfl) T.z_len PySem.boot_len (pa_cons (pe_ix (ixl (K := K)) (pv 2) pe_int (fun _ _ => rfl)) pa_nil)) pa_nil)) (pg_name (i := 5) sc_l_is_grid.nd rfl (Or.inl rfl))
      (pss_cons (ps_asg (pe_call (ok_l_broad (K := K) T) (hr.mono (by decide)) rfl T.g_l_broad T.f_l_broad.kp B3 B3v pass0 (pa_cons (pv 2) (pa_cons (pv 4) (pa_cons (pv 5) pa_nil)))) (pg_tup rfl (pgs_cons (pg_name (i := 6) sc_l_is_grid.nd rfl (Or.inl rfl)) (pgs_cons (pg_name (i := 7) sc_l_is_grid.nd rfl (Or.inl rfl)) pgs_nil))))
      (pss_cons (ps_par (i := 8) (j := 9) rfl sc_l_is_grid.nd rfl rfl (by decide) rfl rfl (pa_cons (pe_make T.mk_Measure (ok_Measure_init (K := K) T) (hr.mono (by decide)) rfl T.g_Measure B0 B0v pass0 (pa_cons (pe_ix (ixt (K := K)) (pe_ix (ixl (K := K)) (pe_ix (ixl (K := K)) (pv 2) pe_int (fun _ _ => rfl)) (pv 4) (fun _ _ => rfl)) pe_int (fun _ _ => rfl)) (pa_cons (pe_ix (ixt (K := K)) (pe_ix (ixl (K := K)) (pe_ix (ixl (K := K)) (pv 2) pe_int (fun _ _ => rfl)) (pv 4) (fun _ _ => rfl)) pe_int (fun _ _ => rfl)) pa_nil))) (pa_cons (pe_make T.mk_Measure (ok_Measure_init (K := K) T) (hr.mono (by decide)) rfl T.g_Measure B0 B0v pass0 (pa_cons (pv 6) (pa_cons (pv 7) pa_nil))) pa_nil)) (by rfl))
      (pss_cons (ps_if (PW.pt (pw_or (pt_cmpR (op_neB (ok_Measure_eqX (K := K) T) T.me_Measure_eq T.ec_Measure (bnil B1v B1) pass0 (hr.mono (by decide))) (pe_meth (pv 0) T.cl_Grid T.me_Grid_long_mark (ok_Grid_long_mark (K := K) T) (hr.mono (by decide)) B5 B5v pass0 (pa_cons (pe_tup (pa_cons (pv 4) (pa_cons (pv 5) pa_nil))) pa_nil)) (pv 8) (nomark _)) (pw_or1 (pt_cmpR (op_neB (ok_Measure_eqX (K := K) T) T.me_Measure_eq T.ec_Measure (bnil B1v B1) pass0 (hr.mono (by decide))) (pe_meth (pv 0) T.cl_Grid T.me_Grid_broad_mark (ok_Grid_broad_mark (K := K) T) (hr.mono (by decide)) B4 B4v pass0 (pa_cons (pe_tup (pa_cons (pv 4) (pa_cons (pv 5) pa_nil))) pa_nil)) (pv 9) (nomark _)))))
      (pss_one (ps_ret pe_bl))
      pss_nil)
      (pss_one (ps_if (PW.pt (pw_or (pt_cmpR (op_neB (ok_Measure_eqX (K := K) T) T.me_Measure_eq T.ec_Measure (bnil B1v B1) pass0 (hr.mono (by decide))) (pe_methK0 (pv 0) T.cl_Grid T.me_Grid_long_mark (ok_Grid_long_mark (K := K) T) (hr.mono (by decide)) B7 pass0 (pk_cons (pe_tup (pa_cons (pv 4) (pa_cons (pv 5) pa_nil))) pk_nil)) (pv 8) (nomark _)) (pw_or1 (pt_cmpR (op_neB (ok_Measure_eqX (K := K) T) T.me_Measure_eq T.ec_Measure (bnil B1v B1) pass0 (hr.mono (by decide))) (pe_methK0 (pv 0) T.cl_Grid T.me_Grid_broad_mark (ok_Grid_broad_mark (K := K) T) (hr.mono (by decide)) B6 pass0 (pk_cons (pe_tup (pa_cons (pv 4) (pa_cons (pv 5) pa_nil))) pk_nil)) (pv 9) (nomark _)))))
      (pss_one (ps_ret pe_bl))
      pss_nil))))))))
      (pss_one (ps_ret pe_bl))))), ?_⟩
    have na_Grid_lengths := T.na_Grid_lengths
    have na_Grid_breadths := T.na_Grid_breadths
    have na_Grid_grade := T.na_Grid_grade
    have cl_Grid := T.cl_Grid
    
    obtain ⟨l1, l2, v, us, ws, hps, hl1, hl2, tq1, tq2, ⟨qv, rfl, hqv, pg, g1, g2⟩, n1, n2, n3⟩ := SD.ob
    have lu := tq1.len
    have lw := tq2.len
    have b1 := SD.l1
    have b2 := SD.m1
    obtain ⟨dxG, qg, hp, ag⟩ := hG.ob
    walk_at "wa"
    refine q_made (k := 20) pg g1 g2 (by decide) (by decide) fun qb H1 s1 ab => ?_
    have hp1 := s1 _ _ hp
    have hpc1 := s1 _ _ hpc
    have A11 := A1.same s1
    have A21 := A2.same s1
    have ag1 := ag.same s1
    walk_at "wa"
    refine ⟨lad_self T.cl_Ladder T.ii_Ladder A11 (by decide) (eqLQ_same rfl rfl rfl rfl), ?_⟩
    refine ⟨false, rfl, iteF ?_⟩
    walk_at "wa"
    refine ⟨lad_self T.cl_Ladder T.ii_Ladder A21 (by decide) (eqLQ_same rfl rfl rfl rfl), ?_⟩
    refine ⟨false, rfl, iteF ?_⟩
    walk_at "wa"
    refine ⟨q_dn T.cl_Measure T.ii_Measure T.ec_Measure ag1 ab (Re.refl pg), ?_⟩
    refine ⟨false, rfl, iteF ?_⟩
    have hps1 := s1 _ _ hps
    have hl11 := s1 _ _ hl1
    have hl21 := s1 _ _ hl2
    have tq11 := tq1.same s1
    have tq21 := tq2.same s1
    have SD1 := SD.same s1
    have hG1 := hG.same s1
    clear hps hl1 hl2 tq1 tq2 SD hG hp hpc A1 A2 ag
    walk_at "wa"
    refine for_range (fun i σ H' => (∃ v4 v5 v6 v7 v8 v9, σ = [some (.ref p), some (.ref pc), some (.ref ps), some (.ref qb), v4, v5, v6, v7, v8, v9]) ∧ Same H1 H') ?_ ?_ ?_
    · exact ⟨⟨_, _, _, _, _, _, rfl⟩, fun _ _ z => z⟩
    · rintro i σ H2 hi ⟨⟨v4, v5, v6, v7, v8, v9, rfl⟩, s2⟩
      have hi' : i < zs.length := by omega
      replace hp1 := s2 _ _ hp1
      replace ag1 := ag1.same s2
      replace hps1 := s2 _ _ hps1
      replace hl11 := s2 _ _ hl11
      replace hl21 := s2 _ _ hl21
      replace tq11 := tq11.same s2
      replace tq21 := tq21.same s2
      replace SD1 := SD1.same s2
      replace hG1 := hG1.same s2
      replace A11 := A11.same s2
      replace A21 := A21.same s2
      clear hpc1 ab
      walk_at "wa"
      refine for_range (fun w σ H' => (∃ v5 v6 v7 v8 v9, σ = [some (.ref p), some (.ref pc), some (.ref ps), some (.ref qb), some (.int (0 + (i : Int))), v5, v6, v7, v8, v9]) ∧ Same H2 H') ?_ ?_ ?_
      · exact ⟨⟨_, _, _, _, _, rfl⟩, fun _ _ z => z⟩
      · rintro w σ H3 hw ⟨⟨v5, v6, v7, v8, v9, rfl⟩, s3⟩
        have hw' : w < ys.length := by omega
        have hl12 := s3 _ _ hl11
        have hps2 := s3 _ _ hps1
        have tq12 := tq11.same s3
        obtain ⟨a0, ha0⟩ := ge2 (zs := zs) hi'
        obtain ⟨b0, hb0⟩ := ge2 (zs := ys) hw'
        walk_at "wa"
        refine ⟨zs, ys, g, b0, (by show [V.ref ps, V.int (0 + (i : Int)), V.int (0 + (w : Int))] = _; rw [Int.zero_add, Int.zero_add]), SD1.same s3, hb0, by omega, by decide, by decide, fun vz z H4 s4 tz rz => ?_⟩
        obtain ⟨qz, rfl, hqz, pz, z1, z2⟩ := tz
        obtain ⟨va, hva, ⟨qa, rfl, hqa, pa, a1, a2⟩⟩ := tq12.at ha0
        have hl13 := s4 _ _ hl12
        have hps3 := s4 _ _ hps2
        have hqa3 := s4 _ _ hqa
        have s5 := s3.trans s4
        clear hl12 hps2 hqa tq12 s4
        walk_at "wa"
        refine ⟨atI_of (by omega) hva, ?_⟩
        walk_at "wa"
        refine ⟨atI_of (by omega) hva, ?_⟩
        walk_at "wa"
        refine q_made (k := 184) pa (a1.mono (by decide)) (a2.mono (by decide)) (by decide) (by decide) fun q1 H5 t5 ab1 => ?_
        walk_at "wa"
        refine q_made (k := 206) pz z1 z2 (by decide) (by decide) fun q2 H6 t6 ab2 => ?_
        replace ab1 := ab1.same t6
        have s7 := (s5.trans t5).trans t6
        have hpG := s7 _ _ hp1
        have G' := hG1.same s7
        have A1' := A11.same s7
        have A2' := A21.same s7
        clear s5 t5 t6 hl13 hps3 hqa3 hqz
        walk_at "wa"
        intro T1 nT1
        have sa1 : Same H6 (upd H6 T1 (.tup [.int (0 + (i : Int)), .int (0 + (w : Int))])) := same1 nT1
        have hT1 : upd H6 T1 (.tup [.int (0 + (i : Int)), .int (0 + (w : Int))]) T1 = some (.tup [.int (0 + (i : Int)), .int (0 + (w : Int))]) := upd_same
        generalize upd H6 T1 (.tup [.int (0 + (i : Int)), .int (0 + (w : Int))]) = Ha1 at *
        rw [Int.zero_add, Int.zero_add] at hT1
        replace s7 := s7.trans sa1
        replace hpG := sa1 _ _ hpG
        replace G' := G'.same sa1
        replace A1' := A1'.same sa1
        replace A2' := A2'.same sa1
        replace ab1 := ab1.same sa1
        replace ab2 := ab2.same sa1
        clear sa1 nT1
        walk_at "wa"
        refine ⟨g, a0, zs, rfl, G', ⟨_, _, _, A1'⟩, SqT.of hT1, ha0, fun qm1 am1 => ?_⟩
        walk_at "wa"
        refine ⟨q_dn T.cl_Measure T.ii_Measure T.ec_Measure am1 ab1 (Re.refl pa), ?_⟩
        refine ⟨false, rfl, iteF ?_⟩
        walk_at "wa"
        intro T2 nT2
        have sa2 : Same Ha1 (upd Ha1 T2 (.tup [.int (0 + (i : Int)), .int (0 + (w : Int))])) := same1 nT2
        have hT2 : upd Ha1 T2 (.tup [.int (0 + (i : Int)), .int (0 + (w : Int))]) T2 = some (.tup [.int (0 + (i : Int)), .int (0 + (w : Int))]) := upd_same
        generalize upd Ha1 T2 (.tup [.int (0 + (i : Int)), .int (0 + (w : Int))]) = Ha2 at *
        rw [Int.zero_add, Int.zero_add] at hT2
        replace s7 := s7.trans sa2
        replace hpG := sa2 _ _ hpG
        replace G' := G'.same sa2
        replace A1' := A1'.same sa2
        replace A2' := A2'.same sa2
        replace ab1 := ab1.same sa2
        replace ab2 := ab2.same sa2
        clear sa2 nT2
        walk_at "wa"
        refine ⟨g, b0, ys, rfl, G', ⟨_, _, _, A2'⟩, SqT.of hT2, hb0, by omega, by decide, by decide, by decide, by decide, fun qm2 Hb2 sb2 am2 => ?_⟩
        replace s7 := s7.trans sb2
        replace hpG := sb2 _ _ hpG
        replace G' := G'.same sb2
        replace A1' := A1'.same sb2
        replace A2' := A2'.same sb2
        replace ab1 := ab1.same sb2
        replace ab2 := ab2.same sb2
        clear sb2
        walk_at "wa"
        refine ⟨q_dn T.cl_Measure T.ii_Measure T.ec_Measure am2 ab2 rz.symm, ?_⟩
        refine ⟨false, rfl, iteF ?_⟩
        walk_at "wa"
        intro T3 nT3
        have sa3 : Same Hb2 (upd Hb2 T3 (.tup [.int (0 + (i : Int)), .int (0 + (w : Int))])) := same1 nT3
        have hT3 : upd Hb2 T3 (.tup [.int (0 + (i : Int)), .int (0 + (w : Int))]) T3 = some (.tup [.int (0 + (i : Int)), .int (0 + (w : Int))]) := upd_same
        generalize upd Hb2 T3 (.tup [.int (0 + (i : Int)), .int (0 + (w : Int))]) = Ha3 at *
        rw [Int.zero_add, Int.zero_add] at hT3
        replace s7 := s7.trans sa3
        replace hpG := sa3 _ _ hpG
        replace G' := G'.same sa3
        replace A1' := A1'.same sa3
        replace A2' := A2'.same sa3
        replace ab1 := ab1.same sa3
        replace ab2 := ab2.same sa3
        clear sa3 nT3
        walk_at "wa"
        refine ⟨g, a0, zs, rfl, G', ⟨_, _, _, A1'⟩, SqT.of hT3, ha0, fun qm3 am3 => ?_⟩
        walk_at "wa"
        refine ⟨q_dn T.cl_Measure T.ii_Measure T.ec_Measure am3 ab1 (Re.refl pa), ?_⟩
        refine ⟨false, rfl, iteF ?_⟩
        walk_at "wa"
        intro T4 nT4
        have sa4 : Same Ha3 (upd Ha3 T4 (.tup [.int (0 + (i : Int)), .int (0 + (w : Int))])) := same1 nT4
        have hT4 : upd Ha3 T4 (.tup [.int (0 + (i : Int)), .int (0 + (w : Int))]) T4 = some (.tup [.int (0 + (i : Int)), .int (0 + (w : Int))]) := upd_same
        generalize upd Ha3 T4 (.tup [.int (0 + (i : Int)), .int (0 + (w : Int))]) = Ha4 at *
        rw [Int.zero_add, Int.zero_add] at hT4
        replace s7 := s7.trans sa4
        replace hpG := sa4 _ _ hpG
        replace G' := G'.same sa4
        replace A1' := A1'.same sa4
        replace A2' := A2'.same sa4
        replace ab1 := ab1.same sa4
        replace ab2 := ab2.same sa4
        clear sa4 nT4
        walk_at "wa"
        refine ⟨g, b0, ys, rfl, G', ⟨_, _, _, A2'⟩, SqT.of hT4, hb0, by omega, by decide, by decide, by decide, by decide, fun qm4 Hb4 sb4 am4 => ?_⟩
        replace s7 := s7.trans sb4
        replace hpG := sb4 _ _ hpG
        replace G' := G'.same sb4
        replace A1' := A1'.same sb4
        replace A2' := A2'.same sb4
        replace ab1 := ab1.same sb4
        replace ab2 := ab2.same sb4
        clear sb4
        walk_at "wa"
        refine ⟨q_dn T.cl_Measure T.ii_Measure T.ec_Measure am4 ab2 rz.symm, ?_⟩
        refine ⟨false, rfl, iteF ?_⟩
        walk_at "wa"
        exact ⟨⟨_, _, _, _, _, rfl⟩, s7⟩
      · rintro σ H3 ⟨⟨v5, v6, v7, v8, v9, rfl⟩, s3⟩
        exact ⟨⟨_, _, _, _, _, _, rfl⟩, s2.trans s3⟩
    rintro σ H2 ⟨⟨v4, v5, v6, v7, v8, v9, rfl⟩, s2⟩
    walk_at "wa"
    exact kk _ (s1.trans s2)
theorem ok_law {P : Program} {w : World} {K : PySem.W.Frag} {mg : Str → Option Value} {base : Heap} {φ : Fds} (T : Txt K mg φ) : FnOk P w K mg base CX0 9 (He.fAd K ("law", none)) φ.law p_law (sp_law K) := by
  obtain ⟨_, B0v, B0⟩ := b_l_hand_2 T
  obtain ⟨_, B1v, B1⟩ := b_l_grades_1 T
  obtain ⟨_, B2v, B2⟩ := b_l_marks_of_2 T
  obtain ⟨_, B3v, B3⟩ := b_l_take_2 T
  obtain ⟨_, B4v, B4⟩ := b_l_any_ladder_2 T
  obtain ⟨_, B5v, B5⟩ := b_Measure_init_3 T
  obtain ⟨_, B6⟩ := b_Grid_init_1_grade_breadths_lengths T
  obtain ⟨_, B7v, B7⟩ := b_Grid_init_4 T
  obtain ⟨_, B8⟩ := b_Grid_init_2_grade_breadths T
  obtain ⟨_, B9v, B9⟩ := b_Grid_init_3 T
  obtain ⟨_, B10v, B10⟩ := b_l_is_grid_3 T
  obtain ⟨_, B11v, B11⟩ := b_l_deep_2 T
  obtain ⟨_, B12v, B12⟩ := b_l_refused_3 T
  obtain ⟨_, B13v, B13⟩ := b_Measure_str_1 T
  refine T.f_law.ok sc_law (fun vs H Q E h => ?_) (fun cdv A outer s H vs Q E hr h => ?_)
  · obtain ⟨a, ns, rfl, hS, hlen, kk⟩ := h; rfl
  · obtain ⟨a, ns, rfl, hS, hlen, kk⟩ := h
    refine ⟨_, PSs.nox (pss_cons (ps_for PassesOwn.never rfl (pi_range1 rfl T.z_range (pa_cons (pe_callB (id := "max") (call_max2 rfl) (by rfl) T.z_max (by decide +kernel) (pa_cons pe_int (pa_cons (pe_callB (id := "min") (call_min2 rfl) (by rfl) T.z_min (by decide +kernel) (pa_cons pe_int (pa_cons (pe_callB (id := "len") (lenS (K := K)) (by rfl) T.z_len PySem.boot_len (pa_cons (pv 0) pa_nil)) pa_nil))) pa_nil))) pa_nil)) (pg_name (i := 1) sc_law.nd rfl (Or.inl rfl))
      (pss_cons (ps_cut (ps_set (i := 2) sc_law.nd rfl (Or.inl rfl) (pe_call (ok_l_hand (K := K) T) (hr.mono (by decide)) rfl T.g_l_hand T.f_l_hand.kp B0 B0v pass0 (pa_cons (pv 0) (pa_cons (pv 1) pa_nil)))))
      (pss_cons (ps_cut (ps_asg (pe_tup (pa_cons (pe_call (ok_l_take (K := K) T) (hr.mono (by decide)) rfl T.g_l_take T.f_l_take.kp B3 B3v pass0 (pa_cons (pv 2) (pa_cons pe_int pa_nil))) (pa_cons (pe_lst (pa_cons (pe_call (ok_l_marks_of (K := K) T) (hr.mono (by decide)) rfl T.g_l_marks_of T.f_l_marks_of.kp B2 B2v pass0 (pa_cons (pv 2) (pa_cons pe_int pa_nil))) (pa_cons (pe_call (ok_l_marks_of (K := K) T) (hr.mono (by decide)) rfl T.g_l_marks_of T.f_l_marks_of.kp B2 B2v pass0 (pa_cons (pv 2) (pa_cons pe_int pa_nil))) (pa_cons (pe_call (ok_l_grades (K := K) T) (hr.mono (by decide)) rfl T.g_l_grades T.f_l_grades.kp B1 B1v pass0 (pa_cons (pv 2) pa_nil)) pa_nil)))) pa_nil))) (pg_tup rfl (pgs_cons (pg_name (i := 3) sc_law.nd rfl (Or.inl rfl)) (pgs_cons (pg_name (i := 4) sc_law.nd rfl (Or.inr rfl)) pgs_nil)))))
      (pss_cons (ps_cut (ps_if (pt_cmpR op_eq (pv 3) pe_int (nomark _))
      (pss_one (ps_asg (pe_tup (pa_cons pe_int (pa_cons pe_int pa_nil))) (pg_sub (pv 4) pe_int set_list)))
      pss_nil))
      (pss_cons (ps_cut (ps_set (i := 5) sc_law.nd rfl (Or.inr rfl) (pe_lst (pa_cons (pe_call (ok_l_any_ladder (K := K) T) (hr.mono (by decide)) rfl T.g_l_any_ladder T.f_l_any_ladder.kp B4 B4v pass0 (pa_cons (pv 2) (pa_cons (pe_ix (ixl (K := K)) (pv 4) pe_int (fun _ _ => rfl)) pa_nil))) (pa_cons (pe_call (ok_l_any_ladder (K := K) T) (hr.mono (by decide)) rfl T.g_l_any_ladder T.f_l_any_ladder.kp B4 B4v pass0 (pa_cons (pv 2) (pa_cons (pe_ix (ixl (K := K)) (pv 4) pe_int (fun _ _ => rfl)) pa_nil))) pa_nil)))))
      (pss_cons (ps_cut (ps_set (i := 6) sc_law.nd rfl (Or.inl rfl) (pe_make T.mk_Measure (ok_Measure_init (K := K) T) (hr.mono (by decide)) rfl T.g_Measure B5 B5v pass0 (pa_cons (pe_ix (ixt (K := K)) (pe_ix (ixl (K := K)) (pv 4) pe_int (fun _ _ => rfl)) pe_int (fun _ _ => rfl)) (pa_cons (pe_ix (ixt (K := K)) (pe_ix (ixl (K := K)) (pv 4) pe_int (fun _ _ => rfl)) pe_int (fun _ _ => rfl)) pa_nil)))))
      (pss_cons (ps_cut (ps_set (i := 7) sc_law.nd rfl (Or.inl rfl) (pe_lst (pa_cons (pe_make T.mk_Grid (ok_Grid_init (K := K) T) (hr.mono (by decide)) rfl T.g_Grid B7 B7v pass0 (pa_cons (pe_ix (ixl (K := K)) (pv 5) pe_int (fun _ _ => rfl)) (pa_cons (pe_ix (ixl (K := K)) (pv 5) pe_int (fun _ _ => rfl)) (pa_cons (pv 6) pa_nil)))) (pa_cons (pe_makeK0 T.mk_Grid (ok_Grid_init (K := K) T) (hr.mono (by decide)) rfl T.g_Grid B6 pass0 (pk_cons (pv 6) (pk_cons (pe_ix (ixl (K := K)) (pv 5) pe_int (fun _ _ => rfl)) (pk_cons (pe_ix (ixl (K := K)) (pv 5) pe_int (fun _ _ => rfl)) pk_nil)))) pa_nil)))))
      (pss_cons (ps_cut (ps_if (pt_cmpR op_eq (pv 3) pe_int (nomark _))
      (pss_one (ps_set (i := 7) sc_law.nd rfl (Or.inl rfl) (pe_op op_cat (pv 7) (pe_lst (pa_cons (pe_make T.mk_Grid (ok_Grid_init (K := K) T) (hr.mono (by decide)) rfl T.g_Grid B9 B9v pass0 (pa_cons (pe_ix (ixl (K := K)) (pv 5) pe_int (fun _ _ => rfl)) (pa_cons (pe_ix (ixl (K := K)) (pv 5) pe_int (fun _ _ => rfl)) pa_nil))) (pa_cons (pe_makeK T.mk_Grid (ok_Grid_init (K := K) T) (hr.mono (by decide)) rfl T.g_Grid B8 pass0 (pa_cons (pe_ix (ixl (K := K)) (pv 5) pe_int (fun _ _ => rfl)) pa_nil) (pk_cons pe_non (pk_cons (pe_ix (ixl (K := K)) (pv 5) pe_int (fun _ _ => rfl)) pk_nil))) pa_nil))))))
      pss_nil))
      (pss_cons (ps_cut (ps_if (pt_not (pt_val (pe_callB (id := "all") (allK (K := K)) (by rfl) T.z_all (by decide +kernel) (pa_cons (pe_lc (own := [("_law_one", 9)]) (g := gName 9) rfl sc_law.nd (pi_list (pv 7)) (blkOk_by (own := [("_law_one", 9)]) (N := N_law) (sc := (defScope s_law)) (by decide +kernel)) (fun _ _ _ _ _ => (pg_name (i := 9) sc_law.nd rfl (Or.inl rfl))) (fun _ _ _ _ _ => pts_nil) (fun _ _ _ _ _ => (pe_call (ok_l_is_grid (K := K) T) (hr.mono (by decide)) rfl T.g_l_is_grid T.f_l_is_grid.kp B10 B10v pass0 (pa_cons (pv 9) (pa_cons (pv 5) (pa_cons (pv 4) pa_nil)))))) pa_nil))))
      (pss_one (ps_ret pe_bl))
      pss_nil))
      (pss_cons (ps_cut (ps_set (i := 8) sc_law.nd rfl (Or.inl rfl) (pe_lst (pa_cons pe_bl (pa_cons pe_bl (pa_cons pe_int (pa_cons pe_int (pa_cons (pe_un un_neg pe_int) (pa_cons (pe_op op_pow pe_int pe_int) (pa_cons pe_str (pa_cons pe_str (pa_cons (pe_tup pa_nil) (pa_cons (pe_lst pa_nil) (pa_cons pe_dnewK (pa_cons (fldK (K := K) (pe_ix (ixl (K := K)) (pv 5) pe_int (fun _ _ => rfl)) rfl) (pa_cons (pe_ix (ixl (K := K)) (pv 7) pe_int (fun _ _ => rfl)) pa_nil))))))))))))))))
      (pss_cons (ps_cut (ps_set (i := 8) sc_law.nd rfl (Or.inl rfl) (pe_op op_cat (pv 8) (pe_lst (pa_cons (pe_call (ok_l_deep (K := K) T) (hr.mono (by decide)) rfl T.g_l_deep T.f_l_deep.kp B11 B11v pass0 (pa_cons (pv 2) (pa_cons (pe_ix (ixl (K := K)) (pv 5) pe_int (fun _ _ => rfl)) pa_nil))) (pa_cons (pe_call (ok_l_deep (K := K) T) (hr.mono (by decide)) rfl T.g_l_deep T.f_l_deep.kp B11 B11v pass0 (pa_cons (pv 2) (pa_cons (pv 6) pa_nil))) (pa_cons (pe_disp (pps_cons pe_str (pe_ix (ixl (K := K)) (pv 5) pe_int (fun _ _ => rfl)) pps_nil) (by rfl) (by rfl) (fun z => by cases z) (by decide)) (pa_cons (pe_callTy (T := "list") (listOf (K := K)) (by rfl) T.z_list (by decide +kernel) (pa_cons (fldK (K := K) (pe_ix (ixl (K := K)) (pv 5) pe_int (fun _ _ => rfl)) rfl) pa_nil)) pa_nil))))))))
      (pss_cons (ps_cut (ps_for PassesOwn.never rfl (pi_list (pe_op op_cat (pv 8) (pe_lst (pa_cons pe_non (pa_cons (pv 6) pa_nil))))) (pg_name (i := 9) sc_law.nd rfl (Or.inl rfl))
      (pss_one (ps_if (PW.pt (pw_or (pt_not (pt_val (pe_call (ok_l_refused (K := K) T) (hr.mono (by decide)) rfl T.g_l_refused T.f_l_refused.kp B12 B12v pass0 (pa_cons (pv 9) (pa_cons (pe_ix (ixl (K := K)) (pv 5) pe_int (fun _ _ => rfl)) (pa_cons (pv 6) pa_nil)))))) (pw_or1 (pt_not (pt_val (pe_call (ok_l_refused (K := K) T) (hr.mono (by decide)) rfl T.g_l_refused T.f_l_refused.kp B12 B12v pass0 (pa_cons (pe_ix (ixl (K := K)) (pv 5) pe_int (fun _ _ => rfl)) (pa_cons (pv 9) (pa_cons pe_non pa_nil)))))))))
      (pss_one (ps_ret pe_bl))
      pss_nil))))
      (pss_cons (ps_cut (ps_for PassesOwn.never rfl (pi_list (pe_op op_cat (pv 8) (pe_lst (pa_cons (pe_ix (ixl (K := K)) (pv 5) pe_int (fun _ _ => rfl)) (pa_cons (pe_tup (pa_cons (pe_ix (ixl (K := K)) (pv 5) pe_int (fun _ _ => rfl)) pa_nil)) (pa_cons (pe_callTy (T := "str") (call_strO (ok_Measure_str (K := K) T) T.me_Measure_str (bnil B13v B13) pass0 (hr.mono (by decide))) (by rfl) T.z_str (by decide +kernel) (pa_cons (pv 6) pa_nil)) pa_nil)))))) (pg_name (i := 9) sc_law.nd rfl (Or.inl rfl))
      (pss_one (ps_if (pt_not (pt_val (pe_call (ok_l_refused (K := K) T) (hr.mono (by decide)) rfl T.g_l_refused T.f_l_refused.kp B12 B12v pass0 (pa_cons (pe_ix (ixl (K := K)) (pv 5) pe_int (fun _ _ => rfl)) (pa_cons (pe_ix (ixl (K := K)) (pv 5) pe_int (fun _ _ => rfl)) (pa_cons (pv 9) pa_nil))))))
      (pss_one (ps_ret pe_bl))
      pss_nil))))
      (pss_one (ps_cut (ps_if (pt_not (pt_val (pe_callB (id := "all") (allK (K := K)) (by rfl) T.z_all (by decide +kernel) (pa_cons (pe_lc (own := [("_law_one", 9)]) (g := gName 9) rfl sc_law.nd (pi_list (pv 7)) (blkOk_by (own := [("_law_one", 9)]) (N := N_law) (sc := (defScope s_law)) (by decide +kernel)) (fun _ _ _ _ _ => (pg_name (i := 9) sc_law.nd rfl (Or.inl rfl))) (fun _ _ _ _ _ => pts_nil) (fun _ _ _ _ _ => (pe_call (ok_l_is_grid (K := K) T) (hr.mono (by decide)) rfl T.g_l_is_grid T.f_l_is_grid.kp B10 B10v pass0 (pa_cons (pv 9) (pa_cons (pv 5) (pa_cons (pv 4) pa_nil)))))) pa_nil))))
      (pss_one (ps_ret pe_bl))
      pss_nil))))))))))))))))
      (pss_one (ps_ret pe_bl))), ?_⟩
    have cl_Ladder := T.cl_Ladder
    have na_Ladder_marks := T.na_Ladder_marks
    have na_Ladder_rule := T.na_Ladder_rule
    have na_Ladder_least := T.na_Ladder_least
    have na_Ladder_most := T.na_Ladder_most
    
    walk_at "w"
    refine for_range (fun i σ H' => (∃ v1 v2 v3 v4 v5 v6 v7 v8 v9, σ = [some (.ref a), v1, v2, v3, v4, v5, v6, v7, v8, v9]) ∧ Same H H') ?_ ?_ ?_
    · exact ⟨⟨_, _, _, _, _, _, _, _, _, rfl⟩, fun _ _ z => z⟩
    · rintro i σ H1 hi ⟨⟨v1, v2, v3, v4, v5, v6, v7, v8, v9, rfl⟩, s1⟩
      have hi4 : i < 3 := by
        refine Nat.lt_of_lt_of_le hi ?_
        split <;> split <;> omega
      clear hi
      obtain ⟨J1, eJ1⟩ : ∃ J : L2.St → Hp → Prop, J = fun σ' H' => ∃ h, σ' = [some (.ref a), some (.int (0 + (i : Int))), some (.ref h), v3, v4, v5, v6, v7, v8, v9] ∧ HandAt H' h 0 ∧ Same H1 H' ∧ H1 h = none := ⟨_, rfl⟩
      refine ⟨J1, ?_, ?_⟩
      · walk_at "w"
        refine ⟨ns, i, by show [V.ref a, V.int (0 + (i : Int))] = _; rw [Int.zero_add], s1.seq hS, by omega, fun h H3 nh s3 hh => ?_⟩
        subst eJ1
        exact ⟨h, rfl, hh, s3, nh⟩
      rintro σ1 H2 hJ1
      subst eJ1
      obtain ⟨h, rfl, hh, S2, nh⟩ := hJ1
      obtain ⟨J2, eJ2⟩ : ∃ J : L2.St → Hp → Prop, J = fun σ' H' => ∃ (b : Int) (ps l1 l2 : Addr) (us ws : List V) (zs ys : List Q2) (g : Q2), σ' = [some (.ref a), some (.int (0 + (i : Int))), some (.ref h), some (.int b), some (.ref ps), v5, v6, v7, v8, v9] ∧ HandAt H' h 1000 ∧ Kp h H2 H' ∧ H2 ps = none ∧ Sd47 H' h ps l1 l2 us ws zs ys g := ⟨_, rfl⟩
      refine ⟨J2, ?_, ?_⟩
      · walk_at "w"
        intro b Ha b0 b1 hha ka
        walk_at "w"
        refine ⟨by decide, by decide, fun l1 us zs Hb hhb kb nl1 hl1 tq1 l10 l11 ri1 => ?_⟩
        replace l11 : zs.length ≤ 8 := Nat.le_trans l11 (by decide)
        replace tq1 : Tqs Hb 180 us zs := tq1.mono (by decide)
        have kB := ka.trans kb
        clear hha ka kb
        walk_at "w"
        refine ⟨by decide, by decide, fun l2 ws ys Hc hhc kc nl2 hl2 tq2 l20 l21 ri2 => ?_⟩
        replace l21 : ys.length ≤ 8 := Nat.le_trans l21 (by decide)
        replace tq2 : Tqs Hc 180 ws ys := tq2.mono (by decide)
        replace tq1 := tq1.kp hhb kc
        replace hl1 := kc _ _ hl1 nl1
        have kC := kB.trans kc
        clear hhb kc kB
        walk_at "w"
        intro vg g Hd hhd kd tg
        replace tq1 := tq1.kp hhc kd
        replace hl1 := kd _ _ hl1 nl1
        replace tq2 := tq2.kp hhc kd
        replace hl2 := kd _ _ hl2 nl2
        have kD := kC.trans kd
        clear hhc kd kC
        walk_at "w"
        intro ps nps
        have npsh := hhd.ne nps
        have m1 : l1 ≠ ps := ne_of_none hl1 nps
        have m2 : l2 ≠ ps := ne_of_none hl2 nps
        have f2 : H2 ps = none := kD.fresh nps npsh
        have sN : Same Hd (upd Hd ps (.lst [.ref l1, .ref l2, vg])) := same1 nps
        have hps : upd Hd ps (.lst [.ref l1, .ref l2, vg]) ps = some (.lst [.ref l1, .ref l2, vg]) := upd_same
        generalize upd Hd ps (.lst [.ref l1, .ref l2, vg]) = He' at *
        have SD : Sd47 He' h ps l1 l2 us ws zs ys g := ⟨⟨vg, hps, tg.same sN⟩, sN _ _ hl1, sN _ _ hl2, tq1.same sN, tq2.same sN, npsh, nl1, nl2, m1, m2, l10, l11, l20, l21, ri1, ri2⟩
        walk_at "w"
        intro pt npt
        have sO : Same He' (upd He' pt (.tup [.int b, .ref ps])) := same1 npt
        have hpt : upd He' pt (.tup [.int b, .ref ps]) pt = some (.tup [.int b, .ref ps]) := upd_same
        generalize upd He' pt (.tup [.int b, .ref ps]) = Hf at *
        walk_at "w"
        subst eJ2
        exact ⟨b, ps, l1, l2, us, ws, zs, ys, g, rfl, ((hhd.same sN).same sO).mono (by omega), (kD.trans (Kp.same sN)).trans (Kp.same sO), f2, SD.same sO⟩
      rintro σ2 H3 hJ2
      subst eJ2
      obtain ⟨b, ps, l1, l2, us, ws, zs, ys, g0, rfl, hh3, k3, f2, SD0⟩ := hJ2
      have f1 : H1 ps = none := by
        rcases hx : H1 ps with _ | o
        · rfl
        · rw [S2 _ _ hx] at f2; cases f2
      have S3 := S2.ofKp nh k3
      clear k3 f2 S2 hh
      obtain ⟨J3, eJ3⟩ : ∃ J : L2.St → Hp → Prop, J = fun σ' H' => ∃ g : Q2, σ' = [some (.ref a), some (.int (0 + (i : Int))), some (.ref h), some (.int b), some (.ref ps), v5, v6, v7, v8, v9] ∧ HandAt H' h 1000 ∧ Same H1 H' ∧ (b = 0 → g = (0, 1)) ∧ Sd47 H' h ps l1 l2 us ws zs ys g := ⟨_, rfl⟩
      refine ⟨J3, ?_, ?_⟩
      · repeat (first | apply @Exists.intro V | apply @Exists.intro Bool | refine And.intro (by walk_at "c") ?_)
        refine ite2 (fun hb => ?_) (fun hb => ?_)
        · have b0 : b = 0 := by simpa using hb
          walk_at "w"
          intro w nw
          obtain ⟨vg, hps, tg⟩ := SD0.ob
          have SD1 := SD0.same (same1 (u := .tup [.int 0, .int 1]) nw)
          have hps1 := up1 (u := .tup [.int 0, .int 1]) nw hps
          walk_at "w"
          subst eJ3
          exact ⟨(0, 1), rfl, put_hand (hh3.up nw) SD0.n0, put_same (S3.up nw) f1, fun _ => rfl, SD1.put upd_same⟩
        · have b0 : ¬ b = 0 := by simpa using hb
          walk_at "w"
          subst eJ3
          exact ⟨g0, rfl, hh3, S3, fun z => absurd z b0, SD0⟩
      rintro σ3 H4 hJ3
      subst eJ3
      obtain ⟨g, rfl, hh4, S4, hg, SD⟩ := hJ3
      clear SD0 S3 hh3 f1
      obtain ⟨J4, eJ4⟩ : ∃ J : L2.St → Hp → Prop, J = fun σ' H' => ∃ pc L1 L2, σ' = [some (.ref a), some (.int (0 + (i : Int))), some (.ref h), some (.int b), some (.ref ps), some (.ref pc), v6, v7, v8, v9] ∧ HandAt H' h 1010 ∧ Kp h H4 H' ∧ H' pc = some (.lst [.ref L1, .ref L2]) ∧ pc ≠ h ∧ LadE K (He.ga K "Measure") (He.ga K "Ladder") H' L1 184 zs ∧ LadE K (He.ga K "Measure") (He.ga K "Ladder") H' L2 184 ys := ⟨_, rfl⟩
      refine ⟨J4, ?_, ?_⟩
      · have b11 := SD.b11
        have b21 := SD.b21
        obtain ⟨vg, hps, tg⟩ := SD.ob
        have hl1 := SD.h1
        walk_at "w"
        refine ⟨zs, rfl, hh4, by omega, SD.n1, SD.h1, SD.t1, by decide, by decide, SD.b10, by omega, SD.r1, fun L1 r1 lo1 hi1 Ha hha ka A1 => ?_⟩
        have SDa := SD.kp hh4 ka
        replace hps := ka _ _ hps SD.n0
        walk_at "w"
        refine ⟨ys, rfl, hha, by omega, SD.n2, SDa.h2, SDa.t2, by decide, by decide, SD.b20, by omega, SD.r2, fun L2' r2 lo2 hi2 Hb hhb kb A2 => ?_⟩
        replace A1 := A1.kp hha kb
        walk_at "w"
        intro pc npc
        have sN : Same Hb (upd Hb pc (.lst [.ref L1, .ref L2'])) := same1 npc
        subst eJ4
        exact ⟨pc, L1, L2', rfl, (hhb.up npc).mono (by omega), (ka.trans kb).up npc, upd_same, hhb.ne npc, ⟨_, _, _, A1.same sN⟩, ⟨_, _, _, A2.same sN⟩⟩
      rintro σ4 H5 hJ4
      subst eJ4
      obtain ⟨pc, L1, L2', rfl, hh5, k5, hpc, pch, LA1, LA2⟩ := hJ4
      have S5 := S4.ofKp nh k5
      replace SD := SD.kp hh4 k5
      clear k5 S4 hh4
      obtain ⟨J5, eJ5⟩ : ∃ J : L2.St → Hp → Prop, J = fun σ' H' => ∃ qb, σ' = [some (.ref a), some (.int (0 + (i : Int))), some (.ref h), some (.int b), some (.ref ps), some (.ref pc), some (.ref qb), v7, v8, v9] ∧ Same H5 H' ∧ QAt (He.ga K "Measure") H' qb 20 g := ⟨_, rfl⟩
      refine ⟨J5, ?_, ?_⟩
      · obtain ⟨vg, hps, ⟨qg, rfl, hqg, pg, g1, g2⟩⟩ := SD.ob
        walk_at "w"
        refine q_made (k := 20) pg g1 g2 (by decide) (by decide) fun qb Ha sa ab => ?_
        subst eJ5
        exact ⟨qb, rfl, sa, ab⟩
      rintro σ5 H6 hJ5
      subst eJ5
      obtain ⟨qb, rfl, sa, ab⟩ := hJ5
      have G : G47 K (He.ga K "Measure") (He.ga K "Ladder") H6 h ps pc L1 L2' qb zs ys g := by
        obtain ⟨r1, lo1, hi1, A1⟩ := LA1
        obtain ⟨r2, lo2, hi2, A2⟩ := LA2
        exact ⟨sa _ _ hpc, pch, ⟨_, _, _, A1.same sa⟩, ⟨_, _, _, A2.same sa⟩, (SD.same sa).side, ab⟩
      have hh6 := hh5.same sa
      have S6 := S5.trans sa
      clear S5 hh5 hpc pch LA1 LA2 SD ab sa
      obtain ⟨J6, eJ6⟩ : ∃ J : L2.St → Hp → Prop, J = fun σ' H' => ∃ md ms, σ' = [some (.ref a), some (.int (0 + (i : Int))), some (.ref h), some (.int b), some (.ref ps), some (.ref pc), some (.ref qb), some (.ref md), v8, v9] ∧ Same H6 H' ∧ ms.length = 2 ∧ M47 K (He.ga K "Measure") (He.ga K "Ladder") (He.ga K "Grid") H' h md L1 L2' ms g := ⟨_, rfl⟩
      refine ⟨J6, ?_, ?_⟩
      · obtain ⟨c, ch, ⟨r1, lo1, hi1, A1⟩, ⟨r2, lo2, hi2, A2⟩, sd, ab⟩ := G
        walk_at "w"
        refine grd_made (k := 184) (j := 20) (e := some g) A1 A2 ⟨qb, rfl, ab⟩ (by decide) (by decide) fun p1 Ha _ sa ag1 => ?_
        replace ag1 : GrdAt K (He.ga K "Measure") (He.ga K "Ladder") (He.ga K "Grid") Ha p1 20 L1 L2' g := ag1
        replace c := sa _ _ c
        replace A1 := A1.same sa
        replace A2 := A2.same sa
        replace ab := ab.same sa
        walk_at "w"
        refine grd_made (k := 184) (j := 20) (e := some g) A1 A2 ⟨qb, rfl, ab⟩ (by decide) (by decide) fun p2 Hb _ sb ag2 => ?_
        replace ag2 : GrdAt K (He.ga K "Measure") (He.ga K "Ladder") (He.ga K "Grid") Hb p2 20 L1 L2' g := ag2
        replace ag1 := ag1.same sb
        walk_at "w"
        intro md nmd
        have sN : Same Hb (upd Hb md (.lst [.ref p1, .ref p2])) := same1 nmd
        subst eJ6
        refine ⟨md, [p1, p2], rfl, (sa.trans sb).trans sN, rfl, upd_same, ((hh6.same sa).same sb).ne nmd, Nat.le_refl _, (show 2 ≤ 4 by decide), ?_⟩
        intro p hp
        simp only [List.mem_cons, List.not_mem_nil, or_false] at hp
        rcases hp with rfl | rfl
        · exact ag1.same sN
        · exact ag2.same sN
      rintro σ6 H7 hJ6
      subst eJ6
      obtain ⟨md, ms, rfl, s7, l2, MD⟩ := hJ6
      replace G := G.same s7
      have hh7 := hh6.same s7
      have S7 := S6.trans s7
      clear S6 hh6 s7
      obtain ⟨J7, eJ7⟩ : ∃ J : L2.St → Hp → Prop, J = fun σ' H' => ∃ md ms, σ' = [some (.ref a), some (.int (0 + (i : Int))), some (.ref h), some (.int b), some (.ref ps), some (.ref pc), some (.ref qb), some (.ref md), v8, v9] ∧ Same H7 H' ∧ M47 K (He.ga K "Measure") (He.ga K "Ladder") (He.ga K "Grid") H' h md L1 L2' ms g := ⟨_, rfl⟩
      refine ⟨J7, ?_, ?_⟩
      · repeat (first | apply @Exists.intro V | apply @Exists.intro Bool | refine And.intro (by walk_at "c") ?_)
        refine ite2 (fun hb => ?_) (fun hb => ?_)
        · have b0 : b = 0 := by simpa using hb
          have g0 := hg b0
          subst g0
          obtain ⟨c, ch, ⟨r1, lo1, hi1, A1⟩, ⟨r2, lo2, hi2, A2⟩, sd, ab⟩ := G
          walk_at "w"
          refine grd_made (k := 184) (j := 20) (e := none) A1 A2 rfl (by decide) (by decide) fun p1 Ha _ sa ag1 => ?_
          replace ag1 : GrdAt K (He.ga K "Measure") (He.ga K "Ladder") (He.ga K "Grid") Ha p1 20 L1 L2' (0, 1) := ag1
          replace c := sa _ _ c
          replace A1 := A1.same sa
          replace A2 := A2.same sa
          replace MD := MD.same sa
          walk_at "w"
          refine grd_made (k := 184) (j := 20) (e := none) A1 A2 rfl (by decide) (by decide) fun p2 Hb _ sb ag2 => ?_
          replace ag2 : GrdAt K (He.ga K "Measure") (He.ga K "Ladder") (He.ga K "Grid") Hb p2 20 L1 L2' (0, 1) := ag2
          replace ag1 := ag1.same sb
          replace MD := MD.same sb
          walk_at "w"
          intro m2 nm2
          have sN : Same Hb (upd Hb m2 (.lst [.ref p1, .ref p2])) := same1 nm2
          have hm2 : upd Hb m2 (.lst [.ref p1, .ref p2]) m2 = some (.lst [.ref p1, .ref p2]) := upd_same
          generalize upd Hb m2 (.lst [.ref p1, .ref p2]) = Hc at *
          replace MD := MD.same sN
          have l0 := MD.l0
          have l1 := MD.l1
          walk_at "w"
          refine ⟨MD.m, hm2, (by rw [List.length_map]; exact Nat.le_of_lt (szs (show ms.length + 2 < _ by omega))), fun m3 nm3 => ?_⟩
          have sM : Same Hc (upd Hc m3 (.lst (ms.map V.ref ++ [.ref p1, .ref p2]))) := same1 nm3
          subst eJ7
          refine ⟨m3, ms ++ [p1, p2], rfl, ((sa.trans sb).trans sN).trans sM, ?_, (((hh7.same sa).same sb).same sN).ne nm3, (by rw [List.length_append]; show 2 ≤ ms.length + 2; omega), (by rw [List.length_append]; show ms.length + 2 ≤ 4; omega), ?_⟩
          · rw [List.map_append]; exact upd_same
          intro p hp
          rcases List.mem_append.mp hp with hp | hp
          · exact (MD.all p hp).same sM
          simp only [List.mem_cons, List.not_mem_nil, or_false] at hp
          rcases hp with rfl | rfl
          · exact (ag1.same sN).same sM
          · exact (ag2.same sN).same sM
        · have b0 : ¬ b = 0 := by simpa using hb
          walk_at "w"
          subst eJ7
          exact ⟨md, ms, rfl, Same.refl _, MD⟩
      rintro σ7 H8 hJ7
      subst eJ7
      obtain ⟨md, ms, rfl, s8, MD⟩ := hJ7
      replace G := G.same s8
      have hh8 := hh7.same s8
      have S8 := S7.trans s8
      clear S7 hh7 s8
      obtain ⟨J8, eJ8⟩ : ∃ J : L2.St → Hp → Prop, J = fun σ' H' => σ' = [some (.ref a), some (.int (0 + (i : Int))), some (.ref h), some (.int b), some (.ref ps), some (.ref pc), some (.ref qb), some (.ref md), v8, v9] ∧ Same H8 H' := ⟨_, rfl⟩
      refine ⟨J8, ?_, ?_⟩
      · walk_at "w"
        refine ⟨⟨_, SqL.of MD.m⟩, fun D nD => ?_⟩
        have lm : (ms.map V.ref).length = ms.length := List.length_map ..
        have l4 := MD.l1
        refine lcz (n := (ms.map V.ref).length) walk_list (fun _ _ g s => s.seq g) (List.replicate (ms.map V.ref).length (some (V.bl true))) List.length_replicate (szs (by omega)) (SqL.of MD.m) nD (fun k x Ha Hb o N M hk ho sa yy hN hM => ?_) (fun Ha sa hD => ?_)
        · obtain ⟨rfl, hx⟩ := yy
          obtain ⟨p, hp, rfl⟩ := List.mem_map.mp (List.mem_of_getElem? hx)
          rw [List.getElem?_replicate, if_pos hk] at ho
          cases ho
          have AG := (MD.all p hp).same sa
          obtain ⟨c, ch, ⟨r1, lo1, hi1, A1⟩, ⟨r2, lo2, hi2, A2⟩, sd, ab⟩ := G.same sa
          refine ⟨rfl, yesT ?_⟩
          walk_at "w"
          exact ⟨zs, ys, g, r1, r2, lo1, hi1, lo2, hi2, rfl, AG, c, A1, A2, sd, fun H' s' => hN _ _ rfl s'⟩
        rw [filT] at hD
        refine ⟨D, _, rfl, SqL.of hD, ?_⟩
        rw [allT]
        walk_at "w"
        subst eJ8
        exact ⟨rfl, sa⟩
      rintro σ8 H9 hJ8
      subst eJ8
      obtain ⟨rfl, s9⟩ := hJ8
      replace G := G.same s9
      replace MD := MD.same s9
      have hh9 := hh8.same s9
      have S9 := S8.trans s9
      clear S8 hh8 s9
      obtain ⟨J9, eJ9⟩ : ∃ J : L2.St → Hp → Prop, J = fun σ' H' => ∃ ss vs, σ' = [some (.ref a), some (.int (0 + (i : Int))), some (.ref h), some (.int b), some (.ref ps), some (.ref pc), some (.ref qb), some (.ref md), some (.ref ss), v9] ∧ Same H9 H' ∧ vs.length ≤ 13 ∧ O47 K (He.ga K "Measure") (He.ga K "Ladder") H' h ss vs := ⟨_, rfl⟩
      refine ⟨J9, ?_, ?_⟩
      · obtain ⟨p0, ms', rfl⟩ : ∃ p0 ms', ms = p0 :: ms' := by
          have := MD.l0
          match ms, this with
          | x :: xs, _ => exact ⟨x, xs, rfl⟩
        obtain ⟨dG, qG, hG0, _⟩ := (MD.all p0 (List.mem_cons_self ..)).ob
        have m := MD.m
        obtain ⟨c, ch, ⟨r1, lo1, hi1, A1⟩, a2, sd, ab⟩ := G
        obtain ⟨dL, TL, psL, lL, hL, hL1, hTL, _⟩ := A1.ob
        walk_at "w"
        refine ⟨⟨by decide, by decide +kernel⟩, ?_⟩
        walk_at "w"
        intro pT npT
        have spT : Same H9 (upd H9 pT (.tup [])) := same1 npT
        have hpT : upd H9 pT (.tup []) pT = some (.tup []) := upd_same
        generalize upd H9 pT (.tup []) = Ha at *
        replace c := spT _ _ c
        replace hL1 := spT _ _ hL1
        replace hG0 := spT _ _ hG0
        replace m := spT _ _ m
        replace hTL := spT.sqt hTL
        walk_at "w"
        intro pE npE
        have spE : Same Ha (upd Ha pE (.lst [])) := same1 npE
        have hpE : upd Ha pE (.lst []) pE = some (.lst []) := upd_same
        generalize upd Ha pE (.lst []) = Hb at *
        replace c := spE _ _ c
        replace hL1 := spE _ _ hL1
        replace hG0 := spE _ _ hG0
        replace m := spE _ _ m
        replace hpT := spE _ _ hpT
        replace hTL := spE.sqt hTL
        walk_at "w"
        intro pD npD
        have spD : Same Hb (upd Hb pD (.dK [])) := same1 npD
        have hpD : upd Hb pD (.dK []) pD = some (.dK []) := upd_same
        generalize upd Hb pD (.dK []) = Hc at *
        replace c := spD _ _ c
        replace hL1 := spD _ _ hL1
        replace hG0 := spD _ _ hG0
        replace m := spD _ _ m
        replace hpT := spD _ _ hpT
        replace hpE := spD _ _ hpE
        replace hTL := spD.sqt hTL
        have sA := (spT.trans spE).trans spD
        walk_at "w"
        refine ⟨atI_of (n := 0) rfl rfl, ?_⟩
        walk_at "w"
        intro ss nss
        have nssh : ss ≠ h := (hh9.same sA).ne nss
        generalize hd : upd Hc ss _ = Hd
        have sB : Same Hc Hd := by rw [← hd]; exact same1 nss
        have hss : Hd ss = some (.lst [.bl true, .bl false, .int 0, .int 7, .int (-1), .int (10 ^ 30), .str "", .str "up: 3", .ref pT, .ref pE, .ref pD, .ref TL, .ref p0]) := by rw [← hd]; exact upd_same
        clear hd
        subst eJ9
        refine ⟨ss, _, rfl, sA.trans sB, Nat.le_refl _, hss, nssh, Nat.le_of_ble_eq_true rfl, ?_⟩
        intro v hv
        simp only [List.mem_cons, List.not_mem_nil, or_false] at hv
        rcases hv with rfl | rfl | rfl | rfl | rfl | rfl | rfl | rfl | rfl | rfl | rfl | rfl | rfl
        · exact .kd (.inr (.inl ⟨_, rfl, rfl⟩)) (fun z => nomatch z) T.k_bool_Measure T.k_bool_Ladder
        · exact .kd (.inr (.inl ⟨_, rfl, rfl⟩)) (fun z => nomatch z) T.k_bool_Measure T.k_bool_Ladder
        · exact .kd (.inr (.inr (.inl ⟨_, rfl, rfl⟩))) (fun z => nomatch z) T.k_int_Measure T.k_int_Ladder
        · exact .kd (.inr (.inr (.inl ⟨_, rfl, rfl⟩))) (fun z => nomatch z) T.k_int_Measure T.k_int_Ladder
        · exact .kd (.inr (.inr (.inl ⟨_, rfl, rfl⟩))) (fun z => nomatch z) T.k_int_Measure T.k_int_Ladder
        · exact .kd (.inr (.inr (.inl ⟨_, rfl, rfl⟩))) (fun z => nomatch z) T.k_int_Measure T.k_int_Ladder
        · exact .kd (.inr (.inr (.inr (.inl ⟨_, rfl, rfl⟩)))) (fun z => nomatch z) T.k_str_Measure T.k_str_Ladder
        · exact .kd (.inr (.inr (.inr (.inl ⟨_, rfl, rfl⟩)))) (fun z => nomatch z) T.k_str_Measure T.k_str_Ladder
        · exact .kd (.inr (.inr (.inr (.inr (.inr (.inl ⟨pT, _, rfl, sB _ _ hpT, rfl⟩)))))) (fun z => nomatch z) T.k_tuple_Measure T.k_tuple_Ladder
        · exact .kd (.inr (.inr (.inr (.inr (.inl ⟨pE, _, rfl, sB _ _ hpE, rfl⟩))))) (fun z => nomatch z) T.k_list_Measure T.k_list_Ladder
        · exact .kd (.inr (.inr (.inr (.inr (.inr (.inr ⟨pD, _, rfl, sB _ _ hpD, rfl⟩)))))) (fun z => nomatch z) T.k_dict_Measure T.k_dict_Ladder
        · exact ⟨(fun z => nomatch z), ⟨_, .inr (.inr ⟨TL, _, rfl, sB.sqt hTL, rfl⟩), T.k_tuple_Measure⟩, ⟨_, .inr (.inr ⟨TL, _, rfl, sB.sqt hTL, rfl⟩), T.k_tuple_Ladder⟩⟩
        · exact ⟨(fun z => nomatch z), ⟨_, .inr (.inl ⟨p0, _, _, _, rfl, sB _ _ hG0, T.cl_Grid, T.ii_Grid, rfl⟩), T.k_Grid_Measure⟩, ⟨_, .inr (.inl ⟨p0, _, _, _, rfl, sB _ _ hG0, T.cl_Grid, T.ii_Grid, rfl⟩), T.k_Grid_Ladder⟩⟩
      rintro σ9 H10 hJ9
      subst eJ9
      obtain ⟨ss, vs, rfl, s10, l13, OD⟩ := hJ9
      replace G := G.same s10
      replace MD := MD.same s10
      have hh10 := hh9.same s10
      have S10 := S9.trans s10
      clear S9 hh9 s10
      obtain ⟨J10, eJ10⟩ : ∃ J : L2.St → Hp → Prop, J = fun σ' H' => ∃ ss vs, σ' = [some (.ref a), some (.int (0 + (i : Int))), some (.ref h), some (.int b), some (.ref ps), some (.ref pc), some (.ref qb), some (.ref md), some (.ref ss), v9] ∧ Kp h H10 H' ∧ HandAt H' h 1020 ∧ O47 K (He.ga K "Measure") (He.ga K "Ladder") H' h ss vs := ⟨_, rfl⟩
      refine ⟨J10, ?_, ?_⟩
      · have m := OD.m
        obtain ⟨c, ch, ⟨r1, lo1, hi1, A1⟩, a2, sd, ab⟩ := G
        obtain ⟨⟨tm, um, ⟨dm, hqm⟩, _⟩, _⟩ := ab
        obtain ⟨dL, TL, psL, lL, hL, hL1, hTL, _⟩ := A1.ob
        walk_at "w"
        intro w1 Ha hha ka ⟨d1, x1, hw1, d1h, hd1⟩
        subst hw1
        replace c := ka _ _ c ch
        replace hL1 := ka.get hh10 hL1 rfl
        replace hTL := sqt_kp hTL hh10 ka
        replace hqm := ka.get hh10 hqm rfl
        walk_at "w"
        intro w2 Hb hhb kb ⟨d2, x2, hw2, d2h, hd2⟩
        subst hw2
        replace c := kb _ _ c ch
        replace hL1 := kb.get hha hL1 rfl
        replace hTL := sqt_kp hTL hha kb
        replace hqm := kb.get hha hqm rfl
        replace hd1 : Hb d1 = some (.lst x1) ∨ Hb d1 = some (.tup x1) := hd1.elim (fun z => .inl (kb _ _ z d1h)) (fun z => .inr (kb _ _ z d1h))
        replace OD := OD.kp hhb (ka.trans kb) hh10
        have kA := ka.trans kb
        clear ka kb hha
        walk_at "w"
        refine fun pd npd => ?_
        have c1 := up1 (u := .dK []) npd c
        have hpd : upd Hb pd (.dK []) pd = some (.dK []) := upd_same
        walk_at "w"
        refine ⟨[(.inr "k", .ref L1)], rfl, Nat.le_of_ble_eq_true rfl, ?_⟩
        generalize hu : (HO.dK (mergeK _ _)) = u at *
        have sD : Same Hb (upd (upd Hb pd (.dK [])) pd u) := fun x o e => by
          rw [upd_ne (ne_of_none e npd)]
          exact up1 npd e
        have hpd2 : upd (upd Hb pd (.dK [])) pd u pd = some u := upd_same
        clear hpd c1
        generalize upd (upd Hb pd (.dK [])) pd u = Hc at *
        subst hu
        replace c := sD _ _ c
        replace hL1 := sD _ _ hL1
        replace hTL := sD.sqt hTL
        walk_at "w"
        intro pl npl
        have spl : Same Hc (upd Hc pl (.lst psL)) := same1 npl
        have hpl : upd Hc pl (.lst psL) pl = some (.lst psL) := upd_same
        generalize upd Hc pl (.lst psL) = Hd at *
        walk_at "w"
        intro pz npz
        have spz : Same Hd (upd Hd pz (.lst [.ref d1, .ref d2, .ref pd, .ref pl])) := same1 npz
        have hpz : upd Hd pz (.lst [.ref d1, .ref d2, .ref pd, .ref pl]) pz = some (.lst [.ref d1, .ref d2, .ref pd, .ref pl]) := upd_same
        generalize upd Hd pz (.lst [.ref d1, .ref d2, .ref pd, .ref pl]) = He' at *
        have sE := (sD.trans spl).trans spz
        have OE := OD.same sE
        walk_at "w"
        refine ⟨OE.m, hpz, Nat.le_of_lt (szs (show vs.length + 4 < _ by have := OE.l1; omega)), ?_⟩
        intro p1 np1
        have sF : Same He' (upd He' p1 (.lst (vs ++ [.ref d1, .ref d2, .ref pd, .ref pl]))) := same1 np1
        have hp1 : upd He' p1 (.lst (vs ++ [.ref d1, .ref d2, .ref pd, .ref pl])) p1 = some (.lst (vs ++ [.ref d1, .ref d2, .ref pd, .ref pl])) := upd_same
        have hhE := hhb.same sE
        have n1 := hhE.ne np1
        generalize upd He' p1 (.lst (vs ++ [.ref d1, .ref d2, .ref pd, .ref pl])) = HF at *
        have sG := sE.trans sF
        subst eJ10
        refine ⟨p1, _, rfl, kA.trans (Kp.same sG), (hhE.same sF).mono (by omega), hp1, n1, (by rw [List.length_append]; show vs.length + 4 ≤ 20; omega), ?_⟩
        intro v hv
        rcases List.mem_append.mp hv with hv | hv
        · exact (OE.all v hv).same sF
        simp only [List.mem_cons, List.not_mem_nil, or_false] at hv
        have deep : ∀ {d : Addr} {xs : List V}, (Hb d = some (.lst xs) ∨ Hb d = some (.tup xs)) → Odd47 K (He.ga K "Measure") (He.ga K "Ladder") HF (.ref d) := by
          intro d xs e
          rcases e with e | e
          · exact .kd (.inr (.inr (.inr (.inr (.inl ⟨d, _, rfl, sG _ _ e, rfl⟩))))) (fun z => nomatch z) T.k_list_Measure T.k_list_Ladder
          · exact .kd (.inr (.inr (.inr (.inr (.inr (.inl ⟨d, _, rfl, sG _ _ e, rfl⟩)))))) (fun z => nomatch z) T.k_tuple_Measure T.k_tuple_Ladder
        rcases hv with rfl | rfl | rfl | rfl
        · exact deep hd1
        · exact deep hd2
        · exact .kd (.inr (.inr (.inr (.inr (.inr (.inr ⟨pd, _, rfl, sF _ _ (spz _ _ (spl _ _ hpd2)), rfl⟩)))))) (fun z => nomatch z) T.k_dict_Measure T.k_dict_Ladder
        · exact .kd (.inr (.inr (.inr (.inr (.inl ⟨pl, _, rfl, sF _ _ (spz _ _ hpl), rfl⟩))))) (fun z => nomatch z) T.k_list_Measure T.k_list_Ladder
      rintro σ10 H11 hJ10
      subst eJ10
      obtain ⟨ss, vs, rfl, k11, hh11, OD⟩ := hJ10
      replace G := G.kp hh10 k11
      replace MD := MD.kp hh10 k11
      have S11 := S10.ofKp nh k11
      clear S10 hh10 k11
      obtain ⟨J11, eJ11⟩ : ∃ J : L2.St → Hp → Prop, J = fun σ' H' => (∃ v9, σ' = [some (.ref a), some (.int (0 + (i : Int))), some (.ref h), some (.int b), some (.ref ps), some (.ref pc), some (.ref qb), some (.ref md), some (.ref ss), v9]) ∧ Same H11 H' := ⟨_, rfl⟩
      refine ⟨J11, ?_, ?_⟩
      · obtain ⟨c, ch, ⟨r1, lo1, hi1, A1⟩, ⟨r2, lo2, hi2, A2⟩, sd, ab⟩ := G
        obtain ⟨dm, hqm⟩ := qat_low ab (by decide)
        obtain ⟨_, st, su, pu⟩ := mT_len ab.pos ab.s1 ab.s2 (show 20 ≤ 1900 by decide)
        obtain ⟨dL, TL, psL, lL, hL, hL1, hTL, _⟩ := A1.ob
        obtain ⟨dL2, TL2, psL2, lL2, hL2, hL12, hTL2, _⟩ := A2.ob
        have m := OD.m
        walk_at "w"
        intro pn npn
        have sN : Same H11 (upd H11 pn (.lst [.non, .ref qb])) := same1 npn
        have hpn : upd H11 pn (.lst [.non, .ref qb]) pn = some (.lst [.non, .ref qb]) := upd_same
        generalize upd H11 pn (.lst [.non, .ref qb]) = Ha at *
        replace m := sN _ _ m
        walk_at "w"
        refine ⟨Nat.le_of_lt (szs (show vs.length + 2 < _ by have := OD.l1; omega)), ?_⟩
        intro pq npq
        have sP : Same Ha (upd Ha pq (.lst (vs ++ [.non, .ref qb]))) := same1 npq
        have hpq : upd Ha pq (.lst (vs ++ [.non, .ref qb])) pq = some (.lst (vs ++ [.non, .ref qb])) := upd_same
        generalize upd Ha pq (.lst (vs ++ [.non, .ref qb])) = Hb at *
        have sB := sN.trans sP
        replace c := sB _ _ c
        replace hL1 := sB _ _ hL1
        replace hL12 := sB _ _ hL12
        replace hqm := sB _ _ hqm
        replace OD := OD.same sB
        clear m hpn sN sP npn npq
        refine ⟨pq, rfl, ⟨_, SqL.of hpq⟩, for_list (K := K) (a := pq) (xs := vs ++ [.non, .ref qb]) (fun k σ H' => (∃ v9, σ = [some (.ref a), some (.int (0 + (i : Int))), some (.ref h), some (.int b), some (.ref ps), some (.ref pc), some (.ref qb), some (.ref md), some (.ref ss), v9]) ∧ Same Hb H') ⟨⟨_, rfl⟩, Same.refl _⟩ (fun k σ H' _ q => q.2.seq (SqL.of hpq)) ?_ ?_⟩
        · rintro k x σ Hc hx ⟨⟨v9, rfl⟩, sc⟩
          have nl : NotC K (He.ga K "Ladder") Hc x := by
            rcases List.mem_append.mp (List.mem_of_getElem? hx) with hx | hx
            · exact (OD.all x hx).l.same sc
            · simp only [List.mem_cons, List.not_mem_nil, or_false] at hx
              rcases hx with rfl | rfl
              · exact ⟨_, .inl ⟨"NoneType", .inl ⟨rfl, rfl⟩, rfl⟩, T.k_NoneType_Ladder⟩
              · exact ⟨_, .inr (.inl ⟨qb, _, _, _, rfl, sc _ _ hqm, T.cl_Measure, T.ii_Measure, rfl⟩), T.k_Measure_Ladder⟩
          clear hx
          have c1 := sc _ _ c
          have hL := sc _ _ hL1
          clear OD hpq c hL1 hL12 hTL hTL2 hqm
          walk_at "w"
          refine fun Hd sd => ?_
          have c2 := sd _ _ c1
          replace hL := sd _ _ hL
          replace nl := nl.same sd
          clear c1
          walk_at "w"
          refine ⟨.inr ⟨⟨L1, _, _, rfl, hL⟩, .inl nl⟩, fun He' se => ?_⟩
          walk_at "w"
          exact ⟨⟨_, rfl⟩, (sc.trans sd).trans se⟩
        · rintro σ Hc ⟨⟨v9, rfl⟩, sc⟩
          subst eJ11
          exact ⟨⟨_, rfl⟩, sB.trans sc⟩
      rintro σ11 H12 hJ11
      subst eJ11
      obtain ⟨⟨v9, rfl⟩, s12⟩ := hJ11
      replace G := G.same s12
      replace MD := MD.same s12
      replace OD := OD.same s12
      have hh12 := hh11.same s12
      have S12 := S11.trans s12
      clear S11 hh11 s12
      obtain ⟨J12, eJ12⟩ : ∃ J : L2.St → Hp → Prop, J = fun σ' H' => (∃ v9, σ' = [some (.ref a), some (.int (0 + (i : Int))), some (.ref h), some (.int b), some (.ref ps), some (.ref pc), some (.ref qb), some (.ref md), some (.ref ss), v9]) ∧ Same H12 H' := ⟨_, rfl⟩
      refine ⟨J12, ?_, ?_⟩
      · obtain ⟨c, ch, ⟨r1, lo1, hi1, A1⟩, ⟨r2, lo2, hi2, A2⟩, sd, ab⟩ := G
        obtain ⟨dm, hqm⟩ := qat_low ab (by decide)
        obtain ⟨_, st, su, pu⟩ := mT_len ab.pos ab.s1 ab.s2 (show 20 ≤ 1900 by decide)
        obtain ⟨dL, TL, psL, lL, hL, hL1, hTL, _⟩ := A1.ob
        obtain ⟨dL2, TL2, psL2, lL2, hL2, hL12, hTL2, _⟩ := A2.ob
        have m := OD.m
        walk_at "w"
        intro pt npt
        have sN : Same H12 (upd H12 pt (.tup [.ref L2'])) := same1 npt
        have hpt : upd H12 pt (.tup [.ref L2']) pt = some (.tup [.ref L2']) := upd_same
        generalize upd H12 pt (.tup [.ref L2']) = Ha at *
        replace hqm := sN _ _ hqm
        walk_at "w"
        refine ⟨⟨dm, hqm⟩, pu, st, su, fun Hb sb => ?_⟩
        walk_at "w"
        intro pn npn
        have sB0 : Same Hb (upd Hb pn (.lst [.ref L1, .ref pt, .str (mTxt (lowQ g).1 (lowQ g).2)])) := same1 npn
        have hpn : upd Hb pn (.lst [.ref L1, .ref pt, .str (mTxt (lowQ g).1 (lowQ g).2)]) pn = some (.lst [.ref L1, .ref pt, .str (mTxt (lowQ g).1 (lowQ g).2)]) := upd_same
        generalize upd Hb pn (.lst [.ref L1, .ref pt, .str (mTxt (lowQ g).1 (lowQ g).2)]) = Hc at *
        have sC := (sN.trans sb).trans sB0
        replace m := sC _ _ m
        replace hpt := sB0 _ _ (sb _ _ hpt)
        walk_at "w"
        refine ⟨Nat.le_of_lt (szs (show vs.length + 3 < _ by have := OD.l1; omega)), ?_⟩
        intro pq npq
        have sP : Same Hc (upd Hc pq (.lst (vs ++ [.ref L1, .ref pt, .str (mTxt (lowQ g).1 (lowQ g).2)]))) := same1 npq
        have hpq : upd Hc pq (.lst (vs ++ [.ref L1, .ref pt, .str (mTxt (lowQ g).1 (lowQ g).2)])) pq = some (.lst (vs ++ [.ref L1, .ref pt, .str (mTxt (lowQ g).1 (lowQ g).2)])) := upd_same
        generalize upd Hc pq (.lst (vs ++ [.ref L1, .ref pt, .str (mTxt (lowQ g).1 (lowQ g).2)])) = Hd at *
        have sB := sC.trans sP
        replace c := sB _ _ c
        replace hL1 := sB _ _ hL1
        replace hL12 := sB _ _ hL12
        replace hpt := sP _ _ hpt
        replace OD := OD.same sB
        clear m hpn sN sP npn npq sb sB0 sC hqm
        refine ⟨pq, rfl, ⟨_, SqL.of hpq⟩, for_list (K := K) (a := pq) (xs := vs ++ [.ref L1, .ref pt, .str (mTxt (lowQ g).1 (lowQ g).2)]) (fun k σ H' => (∃ v9, σ = [some (.ref a), some (.int (0 + (i : Int))), some (.ref h), some (.int b), some (.ref ps), some (.ref pc), some (.ref qb), some (.ref md), some (.ref ss), v9]) ∧ Same Hd H') ⟨⟨_, rfl⟩, Same.refl _⟩ (fun k σ H' _ q => q.2.seq (SqL.of hpq)) ?_ ?_⟩
        · rintro k x σ He' hx ⟨⟨v9, rfl⟩, sc⟩
          have nl : x ≠ .non ∧ NotC K (He.ga K "Measure") He' x := by
            rcases List.mem_append.mp (List.mem_of_getElem? hx) with hx | hx
            · exact ⟨(OD.all x hx).nn, (OD.all x hx).m.same sc⟩
            · simp only [List.mem_cons, List.not_mem_nil, or_false] at hx
              rcases hx with rfl | rfl | rfl
              · exact ⟨(fun z => nomatch z), ⟨_, .inr (.inl ⟨L1, _, _, _, rfl, sc _ _ hL1, T.cl_Ladder, T.ii_Ladder, rfl⟩), T.k_Ladder_Measure⟩⟩
              · exact ⟨(fun z => nomatch z), ⟨_, .inl ⟨"tuple", .inr (.inr (.inr (.inr (.inr (.inl ⟨pt, _, rfl, sc _ _ hpt, rfl⟩))))), rfl⟩, T.k_tuple_Measure⟩⟩
              · exact ⟨(fun z => nomatch z), ⟨_, .inl ⟨"str", .inr (.inr (.inr (.inl ⟨_, rfl, rfl⟩))), rfl⟩, T.k_str_Measure⟩⟩
          clear hx
          have c1 := sc _ _ c
          have hL := sc _ _ hL1
          have hL2 := sc _ _ hL12
          clear OD hpq c hL1 hL12 hTL hTL2 hpt
          walk_at "w"
          refine ⟨.inr ⟨⟨L1, _, _, rfl, hL⟩, .inr ⟨⟨L2', _, _, rfl, hL2⟩, nl⟩⟩, fun Hf sd => ?_⟩
          walk_at "w"
          exact ⟨⟨_, rfl⟩, sc.trans sd⟩
        · rintro σ He' ⟨⟨v9, rfl⟩, sc⟩
          subst eJ12
          exact ⟨⟨_, rfl⟩, sB.trans sc⟩
      rintro σ12 H13 hJ12
      subst eJ12
      obtain ⟨⟨v9, rfl⟩, s13⟩ := hJ12
      replace G := G.same s13
      replace MD := MD.same s13
      have hh13 := hh12.same s13
      have S13 := S12.trans s13
      clear S12 hh12 s13 OD
      obtain ⟨J13, eJ13⟩ : ∃ J : L2.St → Hp → Prop, J = fun σ' H' => (∃ v9, σ' = [some (.ref a), some (.int (0 + (i : Int))), some (.ref h), some (.int b), some (.ref ps), some (.ref pc), some (.ref qb), some (.ref md), some (.ref ss), v9]) ∧ Same H13 H' := ⟨_, rfl⟩
      refine ⟨J13, ?_, ?_⟩
      · walk_at "w"
        refine ⟨⟨_, SqL.of MD.m⟩, fun D nD => ?_⟩
        have lm : (ms.map V.ref).length = ms.length := List.length_map ..
        have l4 := MD.l1
        refine lcz (n := (ms.map V.ref).length) walk_list (fun _ _ g s => s.seq g) (List.replicate (ms.map V.ref).length (some (V.bl true))) List.length_replicate (szs (by omega)) (SqL.of MD.m) nD (fun k x Ha Hb o N M hk ho sa yy hN hM => ?_) (fun Ha sa hD => ?_)
        · obtain ⟨rfl, hx⟩ := yy
          obtain ⟨p, hp, rfl⟩ := List.mem_map.mp (List.mem_of_getElem? hx)
          rw [List.getElem?_replicate, if_pos hk] at ho
          cases ho
          have AG := (MD.all p hp).same sa
          obtain ⟨c, ch, ⟨r1, lo1, hi1, A1⟩, ⟨r2, lo2, hi2, A2⟩, sd, ab⟩ := G.same sa
          refine ⟨rfl, yesT ?_⟩
          walk_at "w"
          exact ⟨zs, ys, g, r1, r2, lo1, hi1, lo2, hi2, rfl, AG, c, A1, A2, sd, fun H' s' => hN _ _ rfl s'⟩
        rw [filT] at hD
        refine ⟨D, _, rfl, SqL.of hD, ?_⟩
        rw [allT]
        walk_at "w"
        subst eJ13
        exact ⟨⟨_, rfl⟩, sa⟩
      rintro σ13 H14 hJ13
      subst eJ13
      obtain ⟨⟨v9, rfl⟩, s14⟩ := hJ13
      exact ⟨⟨_, _, _, _, _, _, _, _, _, rfl⟩, s1.trans (S13.trans s14)⟩
    · rintro σ H1 ⟨⟨v1, v2, v3, v4, v5, v6, v7, v8, v9, rfl⟩, s1⟩
      walk_at "w"
      exact kk _
end K47

open PySem PySem.W PySem.Calls PyProof.Rows
set_option maxRecDepth 100000 in
set_option maxHeartbeats 0 in
theorem PySem.Challenge.cw_sizeladders_k47_grids_made_or_refused_holds : PySem.Challenge.rw_sizeladders_k47_grids_made_or_refused.Holds := by
  exact K47.pre fun T => K47.ok_law T
