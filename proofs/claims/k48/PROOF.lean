import PyProof.Rows.All
import Wide.All
import OpenK.AllK
import Wide.FinOn
import KE.KStateDown
import HandS.ForMost
import HandS.More
import HandS.WordsExc
import HandS.Defaults
import HandS.MakeKw
import HandS.MakeKwOnly
import HandS.Wide
import HandS.IsInst
import HandS.Flow
import HandS.Style
import HandS.OwnEq
import HandS.Head0
import HandS.Head1
import HandS.Head2
import HandS.HeadEnd
import HandS.HeadHook1
import HandS.HeadHook2
import HandS.ExcIs
import HandS.ExcOwn
import HandS.TryOnly
import HandS.ExcBuiltin
import HandS.FStr
import HandS.Text
import HandS.Codes
import HandS.StrMore
import HandS.Walk
import HandS.Zip
import HandS.Conv
import HandS.Iter
import KE.GoesEnum
import KE.DataMinMax
import HandS.SortKw
import HandS.TupAny
import HandS.FStrTup
import HandS.Deep
import HandS.SetFor
import HandS.Strs
import PySem.Challenge.RW_sizeladders_k48_own_pairs
set_option Elab.async false
set_option linter.all false
set_option maxRecDepth 100000
set_option maxHeartbeats 4000000
namespace My
open PySem PySem.Spec PyProof.Rows L2
/-! ### operators of great numbers -/
section
variable {X : Cx}
theorem op_fd : OpR X (binaryOp .FloorDiv) (rI (fun _ j => j ≠ 0 ∧ j.natAbs.log2 < 9000) fun i j => .int (i.fdiv j)) :=
  opI fun _ _ _ _ _ _ _ hc q => floordiv_int hc.1 q (.inl (PyProof.noPylong_of_log2 hc.2))
theorem op_mulA : OpR X (binaryOp .Mult) (rI (fun i j => CMul i j ∨ CMulW i j) fun i j => .int (i * j)) :=
  opI fun _ _ _ _ _ _ _ hc q => mul_int q (hc.elim (fun h => h.ok) (fun h => h.ok))
/-! ### cuts: what is wanted behind a piece, said by a word of one's own -/
def tCutS (t : TS) : TS := fun D σ H => ∃ J : L2.St → Hp → Prop, t { D with nx := J } σ H ∧ ∀ σ' H', J σ' H' → D.nx σ' H'
theorem ps_cut {st : Stmt} {t : TS} (h : PS X st t) : PS X st (tCutS t) := by
  refine ⟨fun pins s σ H D I hw => ?_⟩
  obtain ⟨J, h1, h2⟩ := hw
  refine thn (h.run pins s σ H _ I h1) fun f s' q => ?_
  cases f with
  | next => obtain ⟨σ', H', I', q'⟩ := q; exact ⟨σ', H', I', h2 _ _ q'⟩
  | brk => exact q
  | cont => exact q
  | ret u => exact q
/-! ### calls by keywords -/
variable {CX : CXT} {k n : Nat} {f C : Addr} {fd : FuncData} {ps ks : List Str} {sp : Sp} {E : XK} {x m : Str} {p pos apos : Pos} {o e : Expr} {es : List Expr} {kws : List Keyword} {ta : TE} {t tk : TA} {g : List Value → List Value → List Value} {gV : List V → List V → List V}
/-- o.m(e, .., k = v, ..) -/
def tMethN (C : Addr) (m : Str) (n l : Nat) (sp : Sp) (gV : List V → List V → List V) (E : XK) (ta : TE) (t tk : TA) : TE := fun σ H Q => ta σ H fun x H1 => ∃ a dx fs, x = .ref a ∧ H1 a = some (.ins C dx fs) ∧ fs.lookup m = none ∧
  t σ H1 fun vs H2 => tk σ H2 fun zs H3 => vs.length = n ∧ zs.length = l ∧ sp (gV (.ref a :: vs) zs) H3 Q E
theorem pe_methK0 {pl : Sem Bool} (he : PE X o ta) (c : Cls X.K C) (hm : Meth X.K C m f) (F : FnOk X.prog X.w X.K X.mg X.base CX k f fd ps sp) (hr : Room k X.A) (hb : KBn X.K fd ps 1 ks g gV) (hx : Passes CX X E) (hkw : PK X kws tk)
    (hall : (backToKw pos (keywordEach kws X.env)).all (·.1.isSome) = true := by rfl) (hks : (backToKw pos (keywordEach kws X.env)).filterMap (·.1) = ks := by rfl)
    (hpl : ((backTo pos (starEach [] X.env)).any (·.1) || (backToKw pos (keywordEach kws X.env)).any (·.1.isNone)) = false := by rfl)
    (ht : eval (.Call (.Attribute o m apos) [] kws pos) X.env = (do
      let ov ← eval o X.env
      standAt apos.atName
      let (f, first) ← holding [ov] (getMethod ov m pl)
      callWith pos f first (backTo pos (starEach [] X.env)) (backToKw pos (keywordEach kws X.env))) := by rfl) :
    PE X (.Call (.Attribute o m apos) [] kws pos) (tMethN C m 0 ks.length sp gV E ta tNil tk) := by
  refine ⟨fun pins s σ H Q I h => ?_⟩
  refine PySem.W.methodCall_KW (pl := pl) (thn (he.run pins s σ H _ I h) fun u s1 ⟨x, H1, I1, rx, a, dx, fs, ex, ea, l, q⟩ => ?_) ht
  subst ex
  obtain rfl : u = Value.ref a := rx
  refine getmeth_ok I1 ea c hm l ?_
  refine PySem.W.callWith_KW0 (first := [.ref a]) (h₀ := X.base) I.ok.mod.kin hm.kp hall ?_ hpl
  refine thn (hkw.run pos pins s1 σ H1 _ I1 q) fun ws s3 ⟨zs, H3, I3, rz, l1, l2, q3⟩ => ⟨I3.kIn, ?_⟩
  rw [hks]
  exact run_fnN (us := [.ref a]) (vs := [.ref a]) F hr hb hx I3 (.cons rfl .nil) rz rfl l2 q3
end
theorem kb_none {K : PySem.W.Frag} {x qual : Str} {params : Arguments} {body : List Stmt} {scope : Scope} {kws : List (Str × V)} {f : Addr} {fd : FuncData} {ps : List Str} {n : Nat} {ks : List Str}
    (F : FunD K x qual params body scope [] kws f fd) (g : {α : Type} → List α → List α → List α)
    (hrel : ∀ {vs zs : List V} {us ws : List Value}, Vals vs us → Vals zs ws → Vals (g vs zs) (g us ws))
    (h : ∀ (kV doc pm : Value) (an : Option Addr) (cdv ct : Value) (us ws : List Value), us.length = n → ws.length = ks.length → bindArgs (PySem.W.fnOf x qual params body scope .none kV doc pm an cdv ct) ⟨us, ks.zip ws⟩ = pure (ps.zip (g us ws))) :
    KBn K fd ps n ks (fun us ws => g us ws) (fun vs zs => g vs zs) := by
  obtain ⟨oc, od, dV, kV, doc, pm, an, cdv, ct, osl, rfl, lk, hcd, hD, hK⟩ := F.ex
  rcases hD with ⟨_, rfl⟩ | ⟨e, _⟩
  · exact ⟨fun s us ws X l1 l2 => .of_eq (h kV doc pm an cdv ct us ws l1 l2), fun r1 r2 => hrel r1 r2⟩
  · exact absurd rfl e
/-! ### heaps -/
theorem up1 {H : Hp} {p x : Addr} {o u : HO} (hp : H p = none) (hx : H x = some o) : upd H p u x = some o := by
  rw [upd_ne (ne_of_none hx hp)]; exact hx
theorem same1 {H : Hp} {p : Addr} {u : HO} (hp : H p = none) : Same H (upd H p u) := fun _ _ e => up1 hp e
theorem _root_.L2.Same.sqt {K : PySem.W.Frag} {H H' : Hp} {a : Addr} {xs : List V} (e : Same H H') (h : SqT K H a xs) : SqT K H' a xs := by
  rcases h with (h | ⟨o, h⟩) | h
  · exact .inl (.inl (e _ _ h))
  · exact .inl (.inr ⟨o, e _ _ h⟩)
  · exact .inr h
/-- all stays but what stands at h -/
def Kp (h : Addr) (H H' : Hp) : Prop := ∀ b o, H b = some o → b ≠ h → H' b = some o
theorem Kp.refl (h : Addr) (H : Hp) : Kp h H H := fun _ _ e _ => e
theorem Kp.trans {h : Addr} {H H1 H2 : Hp} (a : Kp h H H1) (b : Kp h H1 H2) : Kp h H H2 := fun c o e n => b c o (a c o e n) n
theorem Kp.same {h : Addr} {H H1 : Hp} (a : Same H H1) : Kp h H H1 := fun c o e _ => a c o e
theorem Kp.up {h p : Addr} {H H1 : Hp} {u : HO} (a : Kp h H H1) (hp : H1 p = none) : Kp h H (upd H1 p u) := fun c o e n => up1 hp (a c o e n)
theorem Kp.set {h : Addr} {H H1 : Hp} {u : HO} (a : Kp h H H1) : Kp h H (upd H1 h u) := fun c o e n => by
  rw [upd_ne n]; exact a c o e n
/-- a list other than that at h, the script among them -/
theorem Kp.seq {K : PySem.W.Frag} {h a : Addr} {H H1 : Hp} {xs : List V} (k : Kp h H H1) (n : a ≠ h) (s : SqL K H a xs) : SqL K H1 a xs := by
  rcases s with (s | ⟨o, s⟩) | s
  · exact .inl (.inl (k _ _ s n))
  · exact .inl (.inr ⟨o, k _ _ s n⟩)
  · exact .inr s
/-! ### the hand: a list of three ints, drawn from -/
def HandAt (H : Hp) (h : Addr) (n : Nat) : Prop := ∃ a b c : Int, H h = some (.lst [.int a, .int b, .int c]) ∧ 0 ≤ a ∧ 0 ≤ b ∧ b < 4611686018427387904 ∧ 0 ≤ c ∧ c ≤ n
theorem HandAt.mono {H : Hp} {h : Addr} {n m : Nat} (a : HandAt H h n) (l : n ≤ m) : HandAt H h m := by
  obtain ⟨x, y, z, h1, h2, h3, h4, h5, h6⟩ := a
  exact ⟨x, y, z, h1, h2, h3, h4, h5, by omega⟩
theorem HandAt.same {H H' : Hp} {h : Addr} {n : Nat} (a : HandAt H h n) (s : Same H H') : HandAt H' h n := by
  obtain ⟨x, y, z, h1, h2⟩ := a
  exact ⟨x, y, z, s _ _ h1, h2⟩
theorem HandAt.up {H : Hp} {h p : Addr} {u : HO} {n : Nat} (a : HandAt H h n) (hp : H p = none) : HandAt (upd H p u) h n := a.same (same1 hp)
theorem HandAt.ne {H : Hp} {h p : Addr} {n : Nat} (a : HandAt H h n) (hp : H p = none) : p ≠ h := by
  obtain ⟨x, y, z, h1, _⟩ := a
  exact (ne_of_none h1 hp).symm
def notHand : HO → Bool
  | .lst _ => false
  | _ => true
theorem HandAt.apart {H : Hp} {h p : Addr} {o : HO} {n : Nat} (a : HandAt H h n) (hp : H p = some o) (ho : notHand o = true) : p ≠ h := by
  obtain ⟨x, y, z, h1, _⟩ := a
  exact ne_of hp h1 (by intro e; rw [e] at ho; cases ho)
def sp_take : Sp := fun vs H Q _ => ∃ (h : Addr) (n : Nat) (m : Int), vs = [.ref h, .int m] ∧ HandAt H h n ∧ n < 1000000 ∧ 0 < m ∧ m.natAbs.log2 < 9000 ∧
  ∀ (d : Int) (H' : Hp), 0 ≤ d → d < m → HandAt H' h (n + 1) → Kp h H H' → Q (.int d) H'
def sp_hand (K : PySem.W.Frag) : Sp := fun vs H Q _ => ∃ (a : Addr) (ns : List Int) (k : Nat), vs = [.ref a, .int k] ∧ SqL K H a (ns.map V.int) ∧ k ≤ 1000 ∧
  ∀ (p : Addr) (H' : Hp), H p = none → Same H H' → HandAt H' p 0 → Q (.ref p) H'
/-! ### numbers -/
abbrev Sz (k : Nat) (z : Int) : Prop := z.natAbs < 2 ^ k
theorem Sz.mono {a b : Nat} {z : Int} (h : Sz a z) (l : a ≤ b) : Sz b z := Nat.lt_of_lt_of_le h (Nat.pow_le_pow_right (by decide) l)
theorem Sz.mul {a b : Nat} {x y : Int} (h : Sz a x) (g : Sz b y) : Sz (a + b) (x * y) := wide_lt h g
theorem Sz.neg {a : Nat} {x : Int} (h : Sz a x) : Sz a (-x) := by
  show (-x).natAbs < 2 ^ a
  rw [Int.natAbs_neg]; exact h
theorem Sz.add {a : Nat} {x y : Int} (h : Sz a x) (g : Sz a y) : Sz (a + 1) (x + y) := by
  show (x + y).natAbs < 2 ^ (a + 1)
  have h1 : x.natAbs < 2 ^ a := h
  have h2 : y.natAbs < 2 ^ a := g
  rw [Nat.pow_succ]; omega
theorem Sz.sub {a : Nat} {x y : Int} (h : Sz a x) (g : Sz a y) : Sz (a + 1) (x - y) := by
  show (x - y).natAbs < 2 ^ (a + 1)
  have h1 : x.natAbs < 2 ^ a := h
  have h2 : y.natAbs < 2 ^ a := g
  rw [Nat.pow_succ]; omega
theorem Sz.le {a : Nat} {x y : Int} (h : Sz a x) (l : y.natAbs ≤ x.natAbs) : Sz a y := Nat.lt_of_le_of_lt l h
theorem Sz.cmul {a b : Nat} {x y : Int} (h : Sz a x) (g : Sz b y) (h0 : 0 < a) (h1 : 0 < b) (l : a + b ≤ 1000000) : CMul x y ∨ CMulW x y := .inr (wide_mul h g h0 h1 l)
theorem Sz.log {a : Nat} {x : Int} (h : Sz a x) (h0 : 0 < a) (l : a ≤ 9000) : x.natAbs.log2 < 9000 := Nat.lt_of_lt_of_le (PySem.Flt.log2_lt_of h0 h) l
theorem dI {i j : Int} : decide (V.int i = V.int j) = decide (i = j) := by
  rw [dec_int, Bool.beq_eq_decide_eq]
/-- t / u is a / b in lowest terms -/
structure Fr (t u a b : Int) : Prop where
  pos : 0 < u
  eq : t * b = a * u
  co : Int.gcd t u = 1
  lt : t.natAbs ≤ a.natAbs
  lu : u.natAbs ≤ b.natAbs
def sgn (b : Int) : Int := if 0 < b then 1 else -1
theorem gcd_step {g s : Int} (hs : 0 < s) (hg : 0 ≤ g) : Int.gcd s (g % s) = Int.gcd g s := by
  obtain ⟨m, rfl⟩ := Int.eq_ofNat_of_zero_le hg
  obtain ⟨n, rfl⟩ := Int.eq_ofNat_of_zero_le (Int.le_of_lt hs)
  show Nat.gcd n (m % n) = Nat.gcd m n
  rw [Nat.gcd_comm m n, Nat.gcd_comm n (m % n), ← Nat.gcd_rec]
theorem fr_mk {a b c : Int} (hb : b ≠ 0) (hc : c = sgn b * (Int.gcd a b : Int)) : c ≠ 0 ∧ c.natAbs ≤ b.natAbs ∧ Fr (a.fdiv c) (b.fdiv c) a b := by
  have g0 : 0 < Int.gcd a b := Int.gcd_pos_of_ne_zero_right a hb
  have gd : (Int.gcd a b : Int) ∣ a := Int.gcd_dvd_left ..
  have gb : (Int.gcd a b : Int) ∣ b := Int.gcd_dvd_right ..
  have hs : sgn b = 1 ∨ sgn b = -1 := by unfold sgn; split <;> simp
  have cd : c ∣ a := by
    rcases hs with e | e <;> rw [hc, e]
    · rw [Int.one_mul]; exact gd
    · rw [Int.neg_one_mul]; exact (Int.neg_dvd).mpr gd
  have cb : c ∣ b := by
    rcases hs with e | e <;> rw [hc, e]
    · rw [Int.one_mul]; exact gb
    · rw [Int.neg_one_mul]; exact (Int.neg_dvd).mpr gb
  have cn : c.natAbs = Int.gcd a b := by
    rcases hs with e | e <;> rw [hc, e]
    · rw [Int.one_mul, Int.natAbs_natCast]
    · rw [Int.neg_one_mul, Int.natAbs_neg, Int.natAbs_natCast]
  have c0 : c ≠ 0 := by
    intro e; rw [e] at cn; simp at cn; omega
  have ta : a.fdiv c * c = a := Int.fdiv_mul_cancel cd
  have tb : b.fdiv c * c = b := Int.fdiv_mul_cancel cb
  have c1 : 1 ≤ c.natAbs := by omega
  have na : a.natAbs = (a.fdiv c).natAbs * c.natAbs := by rw [← Int.natAbs_mul, ta]
  have nb : b.natAbs = (b.fdiv c).natAbs * c.natAbs := by rw [← Int.natAbs_mul, tb]
  refine ⟨c0, ?_, ?_, ?_, ?_, ?_, ?_⟩
  · rw [cn]
    exact Nat.le_of_dvd (by omega) (Int.gcd_dvd_natAbs_right a b)
  · rcases Int.lt_trichotomy b 0 with h | h | h
    · have e : sgn b = -1 := by unfold sgn; rw [if_neg (by omega)]
      have cneg : c < 0 := by rw [hc, e]; omega
      rcases Int.lt_or_le 0 (b.fdiv c) with z | z
      · exact z
      · have : 0 ≤ b.fdiv c * c := Int.mul_nonneg_of_nonpos_of_nonpos z (by omega)
        omega
    · exact absurd h hb
    · have e : sgn b = 1 := by unfold sgn; rw [if_pos h]
      have cpos : 0 < c := by rw [hc, e]; omega
      rcases Int.lt_or_le 0 (b.fdiv c) with z | z
      · exact z
      · have : b.fdiv c * c ≤ 0 := Int.mul_nonpos_of_nonpos_of_nonneg z (by omega)
        omega
  · have : a.fdiv c * (b.fdiv c * c) = a.fdiv c * c * b.fdiv c := by
      rw [Int.mul_assoc, Int.mul_comm c]
    rw [tb, ta] at this
    exact this
  · have e : Int.gcd a b = Int.gcd (a.fdiv c) (b.fdiv c) * c.natAbs := by
      have := Int.gcd_mul_right (a.fdiv c) c (b.fdiv c)
      rw [ta, tb] at this
      exact this
    rw [← cn] at e
    have e2 : 1 * c.natAbs = Int.gcd (a.fdiv c) (b.fdiv c) * c.natAbs := by rw [Nat.one_mul]; exact e
    exact (Nat.eq_of_mul_eq_mul_right (by omega) e2).symm
  · rw [na]; exact Nat.le_mul_of_pos_right _ (by omega)
  · rw [nb]; exact Nat.le_mul_of_pos_right _ (by omega)
/-! ### a Measure -/
def mf (t u : Int) : List (Str × V) := [("top", .int t), ("bottom", .int u)]
theorem ne_tb : ¬ (("top" : Str) = "bottom") := by decide +kernel
theorem mf_put (t u : Int) : putF "bottom" (.int u) (putF "top" (.int t) []) = mf t u := by
  show (if ("top" : Str) = "bottom" then [(("top" : Str), V.int u)] else (("top" : Str), V.int t) :: putF "bottom" (V.int u) []) = mf t u
  rw [if_neg ne_tb] <;> rfl
theorem mf_top (t u : Int) : (mf t u).lookup ("top" : Str) = some (.int t) := by
  rw [← mf_put, lookup_putF, if_neg ne_tb, lookup_putF, if_pos rfl]
theorem mf_bottom (t u : Int) : (mf t u).lookup ("bottom" : Str) = some (.int u) := by
  rw [← mf_put, lookup_putF, if_pos rfl]
theorem mf_no (t u : Int) {m : Str} (h1 : ¬ m = "top") (h2 : ¬ m = "bottom") : (mf t u).lookup m = none := by
  rw [← mf_put, lookup_putF, if_neg h2, lookup_putF, if_neg h1] <;> rfl
def MAt (C : Addr) (H : Hp) (p : Addr) (t u : Int) : Prop := ∃ dx, H p = some (.ins C dx (mf t u))
theorem MAt.same {C p : Addr} {H H' : Hp} {t u : Int} (m : MAt C H p t u) (s : Same H H') : MAt C H' p t u := by
  obtain ⟨dx, h⟩ := m; exact ⟨dx, s _ _ h⟩
theorem MAt.kp {C p h : Addr} {H H' : Hp} {t u : Int} {n : Nat} (m : MAt C H p t u) (hh : HandAt H h n) (s : Kp h H H') : MAt C H' p t u := by
  obtain ⟨dx, e⟩ := m; exact ⟨dx, s _ _ e (hh.apart e rfl)⟩
def sp_minit (C : Addr) : Sp := fun vs H Q _ => ∃ (p dx : Addr) (a b : Int), vs = [.ref p, .int a, .int b] ∧ H p = some (.ins C dx []) ∧ b ≠ 0 ∧ b.natAbs.log2 < 9000 ∧
  ∀ (t u : Int) (H' : Hp), Fr t u a b → H' p = some (.ins C dx (mf t u)) → (∀ c o, H c = some o → c ≠ p → H' c = some o) → Q .non H'
theorem made {C : Addr} {H : Hp} {Q : VK} {E : XK} {a b : Int} (hb : b ≠ 0) (hl : b.natAbs.log2 < 9000) (k : ∀ (p : Addr) (t u : Int) (H' : Hp), H p = none → Same H H' → MAt C H' p t u → Fr t u a b → Q (.ref p) H') :
    ∀ x dx, H x = none → H dx = none → dx ≠ x → sp_minit C [.ref x, .int a, .int b] (upd (upd H dx (.own x)) x (.ins C dx [])) (fun v H2 => v = .non ∧ Q (.ref x) H2) E := by
  intro x dx nx nd ne
  refine ⟨x, dx, a, b, rfl, upd_same, hb, hl, fun t u H' fr hx kp => ⟨rfl, ?_⟩⟩
  refine k x t u H' nx (fun c o e => ?_) ⟨dx, hx⟩ fr
  have n1 : c ≠ x := ne_of_none e nx
  refine kp c o ?_ n1
  rw [upd_ne n1]
  exact up1 nd e
def sp_whole : Sp := fun vs H Q _ => ∃ n : Int, vs = [.int n] ∧ Q (.bl true) H
def sp_common : Sp := fun vs H Q _ => ∃ a b : Int, vs = [.int a, .int b] ∧ Q (.int (Int.gcd a b : Int)) H
def lessA (t u t' u' : Int) (al : Bool) : Bool := decide (t * u' < t' * u) || (al && decide (t * u' = t' * u))
def sp_below (C : Addr) : Sp := fun vs H Q _ => ∃ (p q : Addr) (t u t' u' : Int) (al : Bool), vs = [.ref p, .ref q, .bl al] ∧ MAt C H p t u ∧ MAt C H q t' u' ∧ Sz 9000 t ∧ Sz 9000 u ∧ Sz 9000 t' ∧ Sz 9000 u' ∧ Q (.bl (lessA t u t' u' al)) H
theorem Kp.get {h q : Addr} {H H' : Hp} {o : HO} {n : Nat} (k : Kp h H H') (hh : HandAt H h n) (e : H q = some o) (no : notHand o = true) : H' q = some o := k _ _ e (hh.apart e no)
theorem _root_.L2.Same.get {q : Addr} {H H' : Hp} {o : HO} (k : Same H H') (e : H q = some o) : H' q = some o := k _ _ e
theorem _root_.L2.Same.ofKp {h : Addr} {H H1 H2 : Hp} (s : Same H H1) (nh : H h = none) (k : Kp h H1 H2) : Same H H2 := fun c o e => k c o (s c o e) (ne_of_none e nh)
theorem _root_.L2.Same.up {p : Addr} {H H1 : Hp} {u : HO} (s : Same H H1) (hp : H1 p = none) : Same H (upd H1 p u) := s.trans (same1 hp)
theorem sgn_cases (b : Int) : sgn b = 1 ∨ sgn b = -1 := by unfold sgn; split <;> simp
/-! ### rules with the written part by its name (for the blocks of comprehensions) -/
section
variable {X : Cx} {K : PySem.W.Frag}
theorem ixl (hK : X.K = K := by rfl) : IxR X (rIxL K) := by subst hK; exact ix_list
theorem ixt (hK : X.K = K := by rfl) : IxR X (rIxT K) := by subst hK; exact ix_tup
theorem isi (hK : X.K = K := by rfl) : CallR X (.builtin "isinstance") (rIsi K) := by subst hK; exact call_isi
def rLenS (K : PySem.W.Frag) : List V → Hp → VK → Prop := fun xs H Q => ∃ p ys, xs = [.ref p] ∧ (SqL K H p ys ∨ SqT K H p ys) ∧ Q (.int (ys.length : Int)) H
theorem lenS (hK : X.K = K := by rfl) : CallR X (.builtin "len") (rLenS K) := by subst hK; exact call_len_seq
theorem allK (hK : X.K = K := by rfl) (hc : X.calm = true := by rfl) : CallR X (.builtin "all") (rAll K) := by subst hK; exact cr_all hc
theorem eqDK (hu : X.A.units + 64 < cLine) (hK : X.K = K := by rfl) : OpR X (compareOp .Eq) (rEqD K) := by subst hK; exact op_eqD hu
theorem inK (hK : X.K = K := by rfl) : OpR X (compareOp .In) (rIn K false) := by subst hK; exact op_in_seq
theorem fldK {e : Expr} {f : Str} {pos : Pos} {ta : TE} (he : PE X e ta) (hb : attributeBase e f X.env (eval e X.env) = eval e X.env) (hK : X.K = K := by rfl) : PE X (.Attribute e f pos) (tFld K ta f) := by subst hK; exact pe_fld he hb
end
theorem yesT {te : TE} {σ : L2.St} {H : Hp} {N : VK} {M : Hp → Prop} (h : te σ H N) : tYes σ H (fun b H3 => if b = true then te σ H3 N else M H3) := by
  show (if true = true then te σ H N else M H)
  rw [if_pos rfl]; exact h
theorem made_same {H H' : Hp} {x dx C : Addr} (nx : H x = none) (nd : H dx = none) (kp : ∀ c o, (upd (upd H dx (.own x)) x (.ins C dx [])) c = some o → c ≠ x → H' c = some o) : Same H H' := fun c o e => by
  have n1 : c ≠ x := ne_of_none e nx
  refine kp c o ?_ n1
  rw [upd_ne n1]
  exact up1 nd e
/-! ### the head's facts, and more of them -/
def obsM (n : Nat) (fa : List He.Fa) (fn : List He.DefD) (ex : List (PySem.W.Frag → Bool)) (g : Addr → Option Obj) : He.AlD × Bool := (He.obsDG n fa fn g, ex.all fun f => f (He.frG g (He.asD g n)))
def hookM (n : Nat) (fa : List He.Fa) (fn : List He.DefD) (ex : List (PySem.W.Frag → Bool)) : PySem.W.Hook where
  α := He.AlD × Bool
  obs := fun s => obsM n fa fn ex s.heap.get?
  val := fun _ => (He.valD fn, true)
  says := fun _ h => ∃ K : PySem.W.Frag, K.In h ∧ He.SaysD fa fn K ∧ (ex.all fun f => f K) = true
  of := fun _ _ e => ⟨_, He.frG_in, congrArg (fun z : He.AlD × Bool => z.1) e, congrArg (fun z : He.AlD × Bool => z.2) e⟩
  keeps := fun _ _ _ ⟨K, hK, c⟩ k => ⟨K, PySem.W.Frag.In.keeps hK k, c⟩
theorem obsM_eq {n : Nat} {fa : List He.Fa} {fn : List He.DefD} {ex : List (PySem.W.Frag → Bool)} {g : Addr → Option Obj} {s : Shared} (h : ∀ a, g a = s.heap.get? a) : obsM n fa fn ex g = (hookM n fa fn ex).obs s := by
  have e : g = s.heap.get? := funext h
  rw [e] <;> rfl
theorem ex_at {ex : List (PySem.W.Frag → Bool)} {K : PySem.W.Frag} (c : (ex.all fun f => f K) = true) (i : Nat) {f : PySem.W.Frag → Bool} (h : ex[i]? = some f) : f K = true := List.all_eq_true.mp c f (List.mem_of_getElem? h)
/-- what isinstance asks of an own class -/
structure IsC (K : PySem.W.Frag) (C : Addr) : Prop where
  ha : PySem.W.findIn K (.ref C) "__class__" = some (some (.builtin "object.__class__"))
  hn : PySem.W.specialIn K (.builtin "object.__class__") "__get__" = some (some (.builtin "getset_descriptor.__get__"))
  htk : PySem.W.takesIn K (.builtin "object.__class__") = some true
  hm : PySem.W.mroIn K C (.type "object") = some true
def isCB (x : Str) : PySem.W.Frag → Bool := fun K => He.eqO (PySem.W.findIn K (.ref (He.ga K x)) "__class__") (some (some (.builtin "object.__class__"))) && (He.eqO (PySem.W.specialIn K (.builtin "object.__class__") "__get__") (some (some (.builtin "getset_descriptor.__get__"))) &&
  (decide (PySem.W.takesIn K (.builtin "object.__class__") = some true) && decide (PySem.W.mroIn K (He.ga K x) (.type "object") = some true)))
theorem isC_ok {x : Str} {K : PySem.W.Frag} (c : isCB x K = true) : IsC K (He.ga K x) := by
  obtain ⟨c1, c⟩ := He.ba c
  obtain ⟨c2, c⟩ := He.ba c
  obtain ⟨c3, c4⟩ := He.ba c
  exact ⟨He.eqO_ok c1, He.eqO_ok c2, of_decide_eq_true c3, of_decide_eq_true c4⟩
/-- a class by name: an own one, a built-in one -/
def cv (K : PySem.W.Frag) : Str ⊕ String → Value
  | .inl x => .ref (He.ga K x)
  | .inr n => .type n
def kitF (a b : Str ⊕ String) (r : Bool) : PySem.W.Frag → Bool := fun K => decide (PySem.W.kitOne K (cv K a) (cv K b) = some r)
theorem kitF_ok {a b : Str ⊕ String} {r : Bool} {K : PySem.W.Frag} (c : kitF a b r K = true) : PySem.W.kitOne K (cv K a) (cv K b) = some r := of_decide_eq_true c
theorem tyM {K : PySem.W.Frag} {H : Hp} {a C dx : Addr} {fs : List (Str × V)} (e : H a = some (.ins C dx fs)) (cl : Cls K C) (i : IsC K C) : TyX K H (.ref a) (.ref C) := .base (.ins e cl i.ha i.hn i.htk i.hm)
/-! ### sums and parts of Measures -/
/-- the same fraction once more -/
theorem Fr.of {t u a b c d : Int} (f : Fr t u a b) (hb : b ≠ 0) (e : a * d = c * b) : t * d = c * u := by
  have h1 := f.eq
  have h2 : (t * d) * b = (c * u) * b := by
    calc (t * d) * b = (t * b) * d := by simp only [Int.mul_assoc, Int.mul_comm, Int.mul_left_comm]
      _ = (a * u) * d := by rw [h1]
      _ = (a * d) * u := by simp only [Int.mul_assoc, Int.mul_comm, Int.mul_left_comm]
      _ = (c * b) * u := by rw [e]
      _ = (c * u) * b := by simp only [Int.mul_assoc, Int.mul_comm, Int.mul_left_comm]
  exact Int.eq_of_mul_eq_mul_right hb h2
/-- what stood at the start stands (by another name than the steps') -/
structure Old (H H' : Hp) : Prop where
  s : Same H H'
theorem Old.refl (H : Hp) : Old H H := ⟨Same.refl _⟩
theorem Old.up {p : Addr} {H H1 : Hp} {u : HO} (a : Old H H1) (hp : H1 p = none) : Old H (upd H1 p u) := ⟨a.s.up hp⟩
theorem Old.then {H H1 H2 : Hp} (a : Old H H1) (b : Same H1 H2) : Old H H2 := ⟨a.s.trans b⟩
theorem Old.kp {h : Addr} {H H1 H2 : Hp} (a : Old H H1) (nh : H h = none) (k : Kp h H1 H2) : Old H H2 := ⟨a.s.ofKp nh k⟩
theorem Old.put {h : Addr} {H H1 : Hp} {u : HO} (a : Old H H1) (nh : H h = none) : Old H (upd H1 h u) := ⟨fun c o e => by rw [upd_ne (ne_of_none e nh)]; exact a.s _ _ e⟩
/-- a list is changed, what is no list stays -/
theorem up2 {H : Hp} {l x : Addr} {xs : List V} {o u : HO} (hl : H l = some (.lst xs)) (hx : H x = some o) (no : notHand o = true) : upd H l u x = some o := by
  rw [upd_ne (ne_of hx hl (by intro e; rw [e] at no; cases no))]; exact hx
end My
namespace My
open PySem PySem.Spec PyProof.Rows L2
/-! ### fractions as pairs, stretches as ends -/
abbrev Q2 := Int × Int
def ltq (a b : Q2) : Bool := decide (a.1 * b.2 < b.1 * a.2)
def eqq (a b : Q2) : Bool := decide (a.1 * b.2 = b.1 * a.2)
def someB : Option Q2 → Option Q2 → Bool → Bool → Bool
  | some a, some b, ia, ib => ltq a b || (eqq a b && ia && ib)
  | _, _, _, _ => true
def Re (a b : Q2) : Prop := 0 < a.2 ∧ 0 < b.2 ∧ a.1 * b.2 = b.1 * a.2
def ReO : Option Q2 → Option Q2 → Prop
  | none, none => True
  | some a, some b => Re a b
  | _, _ => False
theorem Re.symm {a b : Q2} (h : Re a b) : Re b a := ⟨h.2.1, h.1, h.2.2.symm⟩
theorem Re.refl {a : Q2} (h : 0 < a.2) : Re a a := ⟨h, h, rfl⟩
theorem ReO.symm : ∀ {a b : Option Q2}, ReO a b → ReO b a
  | none, none, _ => trivial
  | some _, some _, h => Re.symm h
  | none, some _, h => h.elim
  | some _, none, h => h.elim
theorem pos_key {a b c d : Q2} (h : Re a c) (g : Re b d) : (a.1 * b.2) * (c.2 * d.2) = (c.1 * d.2) * (a.2 * b.2) := by
  have := h.2.2
  grind
theorem pos_key' {a b c d : Q2} (h : Re a c) (g : Re b d) : (b.1 * a.2) * (c.2 * d.2) = (d.1 * c.2) * (a.2 * b.2) := by
  have := g.2.2
  grind
theorem ltq_congr {a b c d : Q2} (h : Re a c) (g : Re b d) : ltq a b = ltq c d := by
  unfold ltq
  have k1 := pos_key h g
  have k2 := pos_key' h g
  have p1 : 0 < c.2 * d.2 := Int.mul_pos h.2.1 g.2.1
  have p2 : 0 < a.2 * b.2 := Int.mul_pos h.1 g.1
  refine decide_eq_decide.mpr ⟨fun x => ?_, fun x => ?_⟩
  · have := Int.mul_lt_mul_of_pos_right x p1
    rw [k1, k2] at this
    exact Int.lt_of_mul_lt_mul_right this (Int.le_of_lt p2)
  · have := Int.mul_lt_mul_of_pos_right x p2
    rw [← k1, ← k2] at this
    exact Int.lt_of_mul_lt_mul_right this (Int.le_of_lt p1)
theorem eqq_congr {a b c d : Q2} (h : Re a c) (g : Re b d) : eqq a b = eqq c d := by
  unfold eqq
  have k1 := pos_key h g
  have k2 := pos_key' h g
  have p1 : 0 < c.2 * d.2 := Int.mul_pos h.2.1 g.2.1
  have p2 : 0 < a.2 * b.2 := Int.mul_pos h.1 g.1
  refine decide_eq_decide.mpr ⟨fun x => ?_, fun x => ?_⟩
  · rw [x] at k1
    rw [k1] at k2
    exact Int.eq_of_mul_eq_mul_right (by omega) k2
  · rw [x] at k1
    rw [← k2] at k1
    exact Int.eq_of_mul_eq_mul_right (by omega) k1
theorem someB_congr : ∀ {a b c d : Option Q2} {i j : Bool}, ReO a c → ReO b d → someB a b i j = someB c d i j
  | some a, some b, some c, some d, i, j, h, g => by
    show (ltq a b || (eqq a b && i && j)) = (ltq c d || (eqq c d && i && j))
    rw [ltq_congr h g, eqq_congr h g]
  | none, some _, none, some _, _, _, _, _ => rfl
  | none, none, none, none, _, _, _, _ => rfl
  | some _, none, some _, none, _, _, _, _ => rfl
  | some _, _, none, _, _, _, h, _ => h.elim
  | none, _, some _, _, _, _, h, _ => h.elim
  | some _, some _, some _, none, _, _, _, g => g.elim
  | some _, none, some _, some _, _, _, _, g => g.elim
  | none, some _, none, none, _, _, _, g => g.elim
  | none, none, none, some _, _, _, _, g => g.elim
/-- in lowest terms, its numbers of less than four thousand bits -/
structure Low (a : Q2) : Prop where
  pos : 0 < a.2
  co : Int.gcd a.1 a.2 = 1
  s1 : Sz 4000 a.1
  s2 : Sz 4000 a.2
def LowO : Option Q2 → Prop
  | none => True
  | some a => Low a
theorem dvd_co {a b c : Int} (h : a ∣ b * c) (g : Int.gcd a b = 1) : a ∣ c := by
  have h1 : a.natAbs ∣ b.natAbs * c.natAbs := by rw [← Int.natAbs_mul]; exact Int.natAbs_dvd_natAbs.mpr h
  exact Int.natAbs_dvd_natAbs.mp (Nat.Coprime.dvd_of_dvd_mul_left g h1)
/-! ### their values -/
/-- None, or the tuple of an end's two numbers -/
def EndV (k : Nat) (H : Hp) (v : V) : Option Q2 → Prop
  | none => v = .non
  | some a => ∃ p, v = .ref p ∧ H p = some (.tup [.int a.1, .int a.2]) ∧ 0 < a.2 ∧ Sz k a.1 ∧ Sz k a.2
theorem EndV.mono {k j : Nat} (l : k ≤ j) {H : Hp} {v : V} : ∀ {e : Option Q2}, EndV k H v e → EndV j H v e
  | none, h => h
  | some _, ⟨p, h1, h2, h3, h4, h5⟩ => ⟨p, h1, h2, h3, h4.mono l, h5.mono l⟩
def MsV (C : Addr) (H : Hp) (v : V) : Option Q2 → Prop
  | none => v = .non
  | some a => ∃ p, v = .ref p ∧ MAt C H p a.1 a.2
theorem EndV.same {k : Nat} {H H' : Hp} {v : V} : ∀ {e : Option Q2}, EndV k H v e → Same H H' → EndV k H' v e
  | none, h, _ => h
  | some _, ⟨p, h1, h2, h3⟩, s => ⟨p, h1, s _ _ h2, h3⟩
theorem EndV.kp {j : Nat} {H H' : Hp} {h : Addr} {n : Nat} {v : V} : ∀ {e : Option Q2}, EndV j H v e → HandAt H h n → Kp h H H' → EndV j H' v e
  | none, h, _, _ => h
  | some _, ⟨p, h1, h2, h3⟩, hh, k => ⟨p, h1, k.get hh h2 rfl, h3⟩
theorem MsV.same {C : Addr} {H H' : Hp} {v : V} : ∀ {e : Option Q2}, MsV C H v e → Same H H' → MsV C H' v e
  | none, h, _ => h
  | some _, ⟨p, h1, h2⟩, s => ⟨p, h1, h2.same s⟩
theorem MsV.kp {C : Addr} {H H' : Hp} {h : Addr} {n : Nat} {v : V} : ∀ {e : Option Q2}, MsV C H v e → HandAt H h n → Kp h H H' → MsV C H' v e
  | none, h, _, _ => h
  | some _, ⟨p, h1, h2⟩, hh, k => ⟨p, h1, h2.kp hh k⟩
/-! ### a Stretch -/
def sf (l h : V) (li hi : Bool) : List (Str × V) := [("low", l), ("high", h), ("low_in", .bl li), ("high_in", .bl hi)]
theorem sf_put (l h : V) (li hi : Bool) : putF "high_in" (.bl hi) (putF "low_in" (.bl li) (putF "high" h (putF "low" l []))) = sf l h li hi := by
  have e1 : putF ("high" : Str) h (putF ("low" : Str) l []) = ([("low", l), ("high", h)] : List (Str × V)) := by
    show (if ("low" : Str) = "high" then [(("low" : Str), h)] else (("low" : Str), l) :: putF "high" h []) = _
    rw [if_neg (by decide +kernel)] <;> rfl
  have e2 : putF ("low_in" : Str) (.bl li) [("low", l), ("high", h)] = ([("low", l), ("high", h), ("low_in", .bl li)] : List (Str × V)) := by
    show (if ("low" : Str) = "low_in" then _ else (("low" : Str), l) :: (if ("high" : Str) = "low_in" then _ else (("high" : Str), h) :: putF "low_in" (V.bl li) [])) = _
    rw [if_neg (by decide +kernel), if_neg (by decide +kernel)] <;> rfl
  have e3 : putF ("high_in" : Str) (.bl hi) [("low", l), ("high", h), ("low_in", .bl li)] = sf l h li hi := by
    show (if ("low" : Str) = "high_in" then _ else (("low" : Str), l) :: (if ("high" : Str) = "high_in" then _ else (("high" : Str), h) :: (if ("low_in" : Str) = "high_in" then _ else (("low_in" : Str), V.bl li) :: putF "high_in" (V.bl hi) []))) = _
    rw [if_neg (by decide +kernel), if_neg (by decide +kernel), if_neg (by decide +kernel)] <;> rfl
  rw [e1, e2, e3]
theorem sf_low (l h : V) (li hi : Bool) : (sf l h li hi).lookup ("low" : Str) = some l := by
  rw [← sf_put, lookup_putF, if_neg (by decide +kernel), lookup_putF, if_neg (by decide +kernel), lookup_putF, if_neg (by decide +kernel), lookup_putF, if_pos rfl]
theorem sf_high (l h : V) (li hi : Bool) : (sf l h li hi).lookup ("high" : Str) = some h := by
  rw [← sf_put, lookup_putF, if_neg (by decide +kernel), lookup_putF, if_neg (by decide +kernel), lookup_putF, if_pos rfl]
theorem sf_low_in (l h : V) (li hi : Bool) : (sf l h li hi).lookup ("low_in" : Str) = some (.bl li) := by
  rw [← sf_put, lookup_putF, if_neg (by decide +kernel), lookup_putF, if_pos rfl]
theorem sf_high_in (l h : V) (li hi : Bool) : (sf l h li hi).lookup ("high_in" : Str) = some (.bl hi) := by
  rw [← sf_put, lookup_putF, if_pos rfl]
theorem sf_no (l h : V) (li hi : Bool) {m : Str} (h1 : ¬ m = "low") (h2 : ¬ m = "high") (h3 : ¬ m = "low_in") (h4 : ¬ m = "high_in") : (sf l h li hi).lookup m = none := by
  rw [← sf_put, lookup_putF, if_neg h4, lookup_putF, if_neg h3, lookup_putF, if_neg h2, lookup_putF, if_neg h1] <;> rfl
/-- a Stretch at p: its ends, whether they are in -/
structure StAt (CM CS : Addr) (H : Hp) (p : Addr) (lo hi : Option Q2) (li hj : Bool) : Prop where
  ob : ∃ dx l h, H p = some (.ins CS dx (sf l h li hj)) ∧ MsV CM H l lo ∧ MsV CM H h hi
  l1 : LowO lo
  l2 : LowO hi
  n1 : lo = none → li = false
  n2 : hi = none → hj = false
theorem StAt.same {CM CS p : Addr} {H H' : Hp} {lo hi : Option Q2} {li hj : Bool} (a : StAt CM CS H p lo hi li hj) (s : Same H H') : StAt CM CS H' p lo hi li hj := by
  obtain ⟨⟨dx, l, h, h1, h2, h3⟩, a1, a2, a3, a4⟩ := a
  exact ⟨⟨dx, l, h, s _ _ h1, h2.same s, h3.same s⟩, a1, a2, a3, a4⟩
theorem StAt.kp {CM CS p h : Addr} {H H' : Hp} {n : Nat} {lo hi : Option Q2} {li hj : Bool} (a : StAt CM CS H p lo hi li hj) (hh : HandAt H h n) (s : Kp h H H') : StAt CM CS H' p lo hi li hj := by
  obtain ⟨⟨dx, l, h, h1, h2, h3⟩, a1, a2, a3, a4⟩ := a
  exact ⟨⟨dx, l, h, s.get hh h1 rfl, h2.kp hh s, h3.kp hh s⟩, a1, a2, a3, a4⟩
/-! ### promises -/
/-- the tuple of two ends and two truths, between which something is -/
structure EndsAt (H : Hp) (p : Addr) (ea eb : Option Q2) (ia ib : Bool) : Prop where
  ob : ∃ va vb, H p = some (.tup [va, vb, .bl ia, .bl ib]) ∧ EndV 140 H va ea ∧ EndV 140 H vb eb
  so : someB ea eb ia ib = true
theorem EndsAt.same {H H' : Hp} {p : Addr} {ea eb : Option Q2} {ia ib : Bool} (a : EndsAt H p ea eb ia ib) (s : Same H H') : EndsAt H' p ea eb ia ib := by
  obtain ⟨⟨va, vb, h1, h2, h3⟩, h4⟩ := a
  exact ⟨⟨va, vb, s _ _ h1, h2.same s, h3.same s⟩, h4⟩
theorem EndsAt.kp {H H' : Hp} {p h : Addr} {n : Nat} {ea eb : Option Q2} {ia ib : Bool} (a : EndsAt H p ea eb ia ib) (hh : HandAt H h n) (s : Kp h H H') : EndsAt H' p ea eb ia ib := by
  obtain ⟨⟨va, vb, h1, h2, h3⟩, h4⟩ := a
  exact ⟨⟨va, vb, s.get hh h1 rfl, h2.kp hh s, h3.kp hh s⟩, h4⟩
theorem MsV.put {CM p C dx : Addr} {H : Hp} {v : V} {o : HO} (hp : H p = some (.ins C dx [])) : ∀ {m : Option Q2}, MsV CM H v m → MsV CM (upd H p o) v m
  | none, h => h
  | some _, ⟨q, h1, ⟨dy, h2⟩⟩ => ⟨q, h1, ⟨dy, by
      rw [upd_ne (ne_of h2 hp (by intro e; injection e with _ _ e; cases e))]; exact h2⟩⟩
theorem ReO.isS : ∀ {a b : Option Q2}, ReO a b → a.isSome = b.isSome
  | none, none, _ => rfl
  | some _, some _, _ => rfl
  | none, some _, h => h.elim
  | some _, none, h => h.elim
/-! ### what two stretches have in common -/
def cutLo : Option Q2 → Bool → Option Q2 → Bool → Option Q2 × Bool
  | none, _, n, j => (n, j)
  | some a, i, none, _ => (some a, i)
  | some a, i, some b, j => if ltq a b then (some b, j) else if eqq a b then (some a, i && j) else (some a, i)
def cutHi : Option Q2 → Bool → Option Q2 → Bool → Option Q2 × Bool
  | none, _, n, j => (n, j)
  | some a, i, none, _ => (some a, i)
  | some a, i, some b, j => if ltq b a then (some b, j) else if eqq a b then (some a, i && j) else (some a, i)
/-- the same end, and in or not alike where there is one -/
def Alike (x y : Option Q2 × Bool) : Prop := ReO x.1 y.1 ∧ (x.1.isSome = true → x.2 = y.2)
theorem Alike.someB {x y z w : Option Q2 × Bool} (h : Alike x y) (g : Alike z w) : My.someB x.1 z.1 x.2 z.2 = My.someB y.1 w.1 y.2 w.2 := by
  obtain ⟨x, i⟩ := x
  obtain ⟨y, j⟩ := y
  obtain ⟨z, k⟩ := z
  obtain ⟨w, l⟩ := w
  obtain ⟨h1, h2⟩ := h
  obtain ⟨g1, g2⟩ := g
  rw [someB_congr h1 g1]
  cases x with
  | none => cases y with
    | none => rfl
    | some _ => exact h1.elim
  | some a => cases z with
    | none => cases w with
      | none => cases y <;> rfl
      | some _ => exact g1.elim
    | some b =>
      have e1 : i = j := h2 rfl
      have e2 : k = l := g2 rfl
      rw [e1, e2]
/-- a Stretch, or None where nothing is between -/
def CutV (CM CS : Addr) (H : Hp) (v : V) (lo hi : Option Q2 × Bool) : Prop :=
  (someB lo.1 hi.1 lo.2 hi.2 = true ∧ ∃ r, v = .ref r ∧ StAt CM CS H r lo.1 hi.1 (lo.2 && lo.1.isSome) (hi.2 && hi.1.isSome)) ∨ (someB lo.1 hi.1 lo.2 hi.2 = false ∧ v = .non)
/-- the law's own: a tuple of four, or None -/
def DueV (H : Hp) (v : V) (lo hi : Option Q2 × Bool) : Prop :=
  (someB lo.1 hi.1 lo.2 hi.2 = true ∧ ∃ r, v = .ref r ∧ EndsAt H r lo.1 hi.1 lo.2 hi.2) ∨ (someB lo.1 hi.1 lo.2 hi.2 = false ∧ v = .non)
theorem DueV.same {H H' : Hp} {v : V} {lo hi : Option Q2 × Bool} (h : DueV H v lo hi) (s : Same H H') : DueV H' v lo hi := by
  rcases h with ⟨h1, r, h2, h3⟩ | h
  · exact .inl ⟨h1, r, h2, h3.same s⟩
  · exact .inr h
theorem CutV.same {CM CS : Addr} {H H' : Hp} {v : V} {lo hi : Option Q2 × Bool} (h : CutV CM CS H v lo hi) (s : Same H H') : CutV CM CS H' v lo hi := by
  rcases h with ⟨h1, r, h2, h3⟩ | h
  · exact .inl ⟨h1, r, h2, h3.same s⟩
  · exact .inr h
/-- what is told is what is due -/
def Match (CM CS : Addr) (H : Hp) (found due : V) : Prop :=
  (found = .non ∧ due = .non) ∨ ∃ (r d : Addr) (lo hi ea eb : Option Q2) (ia ib : Bool), found = .ref r ∧ due = .ref d ∧ EndsAt H d ea eb ia ib ∧ StAt CM CS H r lo hi (ia && ea.isSome) (ib && eb.isSome) ∧ ReO lo ea ∧ ReO hi eb
theorem Match.same {CM CS : Addr} {H H' : Hp} {f d : V} (h : Match CM CS H f d) (s : Same H H') : Match CM CS H' f d := by
  rcases h with h | ⟨r, d, lo, hi, ea, eb, ia, ib, h1, h2, h3, h4, h5, h6⟩
  · exact .inl h
  · exact .inr ⟨r, d, lo, hi, ea, eb, ia, ib, h1, h2, h3.same s, h4.same s, h5, h6⟩
theorem Re.trans {a b c : Q2} (h : Re a b) (g : Re b c) : Re a c := by
  obtain ⟨h1, h2, h3⟩ := h
  obtain ⟨g1, g2, g3⟩ := g
  refine ⟨h1, g2, Int.eq_of_mul_eq_mul_right (show b.2 ≠ 0 by omega) ?_⟩
  grind
theorem ReO.trans : ∀ {a b c : Option Q2}, ReO a b → ReO b c → ReO a c
  | none, none, none, _, _ => trivial
  | some _, some _, some _, h, g => Re.trans h g
  | none, some _, _, h, _ => h.elim
  | some _, none, _, h, _ => h.elim
  | none, none, some _, _, g => g.elim
  | some _, some _, none, _, g => g.elim
def PosO : Option Q2 → Prop
  | none => True
  | some a => 0 < a.2
theorem ReO.refl : ∀ {a : Option Q2}, PosO a → ReO a a
  | none, _ => trivial
  | some _, h => Re.refl h
theorem Alike.trans {x y z : Option Q2 × Bool} (h : Alike x y) (g : Alike y z) : Alike x z := ⟨h.1.trans g.1, fun e => (h.2 e).trans (g.2 (by rw [← h.1.isS]; exact e))⟩
theorem StAt.raw {CM CS p : Addr} {H : Hp} {lo hi : Option Q2} {li hj : Bool} (a : StAt CM CS H p lo hi li hj) {m : Str} (h1 : ¬ m = "low") (h2 : ¬ m = "high") (h3 : ¬ m = "low_in") (h4 : ¬ m = "high_in") : ∃ dx fs, H p = some (.ins CS dx fs) ∧ fs.lookup m = none := by
  obtain ⟨⟨dx, l, h, e, _⟩, _⟩ := a
  exact ⟨dx, _, e, sf_no _ _ _ _ h1 h2 h3 h4⟩
theorem EndsAt.due {H : Hp} {p : Addr} {ea eb : Option Q2} {ia ib : Bool} (a : EndsAt H p ea eb ia ib) : DueV H (.ref p) (ea, ia) (eb, ib) := .inl ⟨a.so, p, rfl, a⟩
/-! ### what a stretch holds -/
def loIn : Option Q2 → Bool → Q2 → Bool
  | none, _, _ => true
  | some a, i, x => ltq a x || (i && eqq a x)
def hiIn : Option Q2 → Bool → Q2 → Bool
  | none, _, _ => true
  | some b, j, x => ltq x b || (j && eqq x b)
theorem ltq_trans {a b c : Q2} (hb : 0 < b.2) (ha : 0 < a.2) (hc : 0 < c.2) (h : ltq a b = true) (g : ltq b c = true) : ltq a c = true := by
  unfold ltq at *
  have h := of_decide_eq_true h
  have g := of_decide_eq_true g
  refine decide_eq_true ?_
  have h2 := Int.mul_lt_mul_of_pos_right h hc
  have g2 := Int.mul_lt_mul_of_pos_right g ha
  have e1 : b.1 * a.2 * c.2 = b.1 * c.2 * a.2 := by simp only [Int.mul_assoc, Int.mul_comm, Int.mul_left_comm]
  rw [e1] at h2
  have k := Int.lt_trans h2 g2
  have e2 : a.1 * b.2 * c.2 = a.1 * c.2 * b.2 := by simp only [Int.mul_assoc, Int.mul_comm, Int.mul_left_comm]
  have e3 : c.1 * b.2 * a.2 = c.1 * a.2 * b.2 := by simp only [Int.mul_assoc, Int.mul_comm, Int.mul_left_comm]
  rw [e2, e3] at k
  exact Int.lt_of_mul_lt_mul_right k (Int.le_of_lt hb)
/-! ### sums, once more, by the size of the new bottom -/
def sp_bin2 (C : Addr) (f g : Int → Int → Int → Int → Int) : Sp := fun vs H Q _ => ∃ (p q : Addr) (t u t' u' : Int), vs = [.ref p, .ref q] ∧ MAt C H p t u ∧ MAt C H q t' u' ∧ 0 < u ∧ 0 < u' ∧ Sz 100000 t ∧ Sz 100000 u ∧ Sz 100000 t' ∧ Sz 100000 u' ∧ Sz 9000 (u * u') ∧
  ∀ (r : Addr) (t2 u2 : Int) (H' : Hp), H r = none → Same H H' → MAt C H' r t2 u2 → Fr t2 u2 (f t u t' u') (g t u t' u') → Q (.ref r) H'
def sp_part2 (C : Addr) : Sp := fun vs H Q _ => ∃ (p : Addr) (t u m : Int), vs = [.ref p, .int m] ∧ MAt C H p t u ∧ 0 < u ∧ m ≠ 0 ∧ Sz 100000 t ∧ Sz 100000 u ∧ Sz 100000 m ∧ Sz 9000 (u * m) ∧
  ∀ (r : Addr) (t2 u2 : Int) (H' : Hp), H r = none → Same H H' → MAt C H' r t2 u2 → Fr t2 u2 t (u * m) → Q (.ref r) H'
/-- a Measure that the stretch holds -/
structure Held (CM : Addr) (H : Hp) (r : Addr) (x : Q2) (lo hi : Option Q2) (li hj : Bool) : Prop where
  at_ : MAt CM H r x.1 x.2
  pos : 0 < x.2
  s1 : Sz 15000 x.1
  s2 : Sz 15000 x.2
  low : loIn lo li x = true
  high : hiIn hi hj x = true
/-- a Measure in both, or None -/
def ShV (CM : Addr) (H : Hp) (v : V) (m1 m2 n1 n2 : Option Q2) (i1 i2 j1 j2 : Bool) : Prop :=
  (someB (cutLo m1 i1 n1 j1).1 (cutHi m2 i2 n2 j2).1 (cutLo m1 i1 n1 j1).2 (cutHi m2 i2 n2 j2).2 = true ∧ ∃ r x, v = .ref r ∧ Held CM H r x m1 m2 i1 i2 ∧ Held CM H r x n1 n2 j1 j2) ∨
  (someB (cutLo m1 i1 n1 j1).1 (cutHi m2 i2 n2 j2).1 (cutLo m1 i1 n1 j1).2 (cutHi m2 i2 n2 j2).2 = false ∧ v = .non)
theorem Held.same {CM r : Addr} {H H' : Hp} {x : Q2} {lo hi : Option Q2} {li hj : Bool} (a : Held CM H r x lo hi li hj) (s : Same H H') : Held CM H' r x lo hi li hj := ⟨a.at_.same s, a.pos, a.s1, a.s2, a.low, a.high⟩
theorem ShV.same {CM : Addr} {H H' : Hp} {v : V} {m1 m2 n1 n2 : Option Q2} {i1 i2 j1 j2 : Bool} (a : ShV CM H v m1 m2 n1 n2 i1 i2 j1 j2) (s : Same H H') : ShV CM H' v m1 m2 n1 n2 i1 i2 j1 j2 := by
  rcases a with ⟨e, r, x, h1, h2, h3⟩ | h
  · exact .inl ⟨e, r, x, h1, h2.same s, h3.same s⟩
  · exact .inr h
theorem eqq_self (a : Q2) : eqq a a = true := decide_eq_true rfl
/-! ### lists of points, made in comprehensions -/
/-- all but lists stays -/
def Nl (H H' : Hp) : Prop := ∀ c o, H c = some o → notHand o = true → H' c = some o
theorem Nl.of {H H' : Hp} (s : Same H H') : Nl H H' := fun c o e _ => s c o e
theorem Nl.put {H : Hp} {l : Addr} {xs : List V} {u : HO} (h : H l = some (.lst xs)) : Nl H (upd H l u) := fun c o e no => up2 h e no
theorem EndV.nl {k : Nat} {H H' : Hp} {v : V} : ∀ {e : Option Q2}, EndV k H v e → Nl H H' → EndV k H' v e
  | none, h, _ => h
  | some _, ⟨p, h1, h2, h3⟩, s => ⟨p, h1, s _ _ h2 rfl, h3⟩
def PtV (k : Nat) (H : Hp) (v : V) : Prop := ∃ a : Q2, EndV k H v (some a)
theorem PtV.nl {k : Nat} {H H' : Hp} {v : V} (h : PtV k H v) (s : Nl H H') : PtV k H' v := by
  obtain ⟨a, h⟩ := h
  exact ⟨a, h.nl s⟩
end My
namespace My
open PySem PySem.Spec PyProof.Rows L2
/-! ### errors -/
section
variable {P : Program} {w : World} {K : PySem.W.Frag} {mg : Str → Option Value} {base : Heap} {k : Nat} {f : Addr} {fd : FuncData} {ps : List Str}
/-- a def that lets nothing out keeps its promise where more may be let out -/
theorem lift {CX : CXT} {sp : Sp} (F : FnOk P w K mg base CX0 k f fd ps sp) : FnOk P w K mg base CX k f fd ps sp :=
  ⟨F.len, fun A outer s H args us vs Q E hr he hb hv hs => codeAny_mono (F.run A outer s H args us vs Q E hr he hb hv hs) fun r s' hq => by
    cases r with
    | error e => exact False.elim hq
    | ok fl => cases fl <;> exact hq⟩
end
section
variable {X : Cx} {CX : CXT} {k : Nat} {f C : Addr} {fd : FuncData} {ps : List Str} {sp : Sp} {dvs : List V} {ds : List Value} {x : Str} {p pos : Pos} {e : Expr} {es : List Expr} {t : TA} {E : L2.St → XK}
end
/-! ### several clauses, each with the error by the same name; nothing leaves -/
/-! ### facts of error classes -/
/-! ### things of any kind -/
/-- a thing that is no Measure and no Stretch; h: not the hand -/
def Thing (h : Addr) (H : Hp) (v : V) : Prop := v = .non ∨ (∃ b, v = .bl b) ∨ (∃ i, v = .int i) ∨ (∃ z, v = .str z) ∨ (∃ a xs, v = .ref a ∧ a ≠ h ∧ H a = some (.lst xs)) ∨ (∃ a xs, v = .ref a ∧ H a = some (.tup xs)) ∨ (∃ a kvs, v = .ref a ∧ H a = some (.dK kvs))
theorem Thing.same {h : Addr} {H H' : Hp} {v : V} (t : Thing h H v) (s : Same H H') : Thing h H' v := by
  rcases t with t | t | t | t | ⟨a, xs, e, n, t⟩ | ⟨a, xs, e, t⟩ | ⟨a, xs, e, t⟩
  · exact .inl t
  · exact .inr (.inl t)
  · exact .inr (.inr (.inl t))
  · exact .inr (.inr (.inr (.inl t)))
  · exact .inr (.inr (.inr (.inr (.inl ⟨a, xs, e, n, s _ _ t⟩))))
  · exact .inr (.inr (.inr (.inr (.inr (.inl ⟨a, xs, e, s _ _ t⟩)))))
  · exact .inr (.inr (.inr (.inr (.inr (.inr ⟨a, xs, e, s _ _ t⟩)))))
theorem Thing.kp {h : Addr} {n : Nat} {H H' : Hp} {v : V} (t : Thing h H v) (hh : HandAt H h n) (s : Kp h H H') : Thing h H' v := by
  rcases t with t | t | t | t | ⟨a, xs, e, n, t⟩ | ⟨a, xs, e, t⟩ | ⟨a, xs, e, t⟩
  · exact .inl t
  · exact .inr (.inl t)
  · exact .inr (.inr (.inl t))
  · exact .inr (.inr (.inr (.inl t)))
  · exact .inr (.inr (.inr (.inr (.inl ⟨a, xs, e, n, s _ _ t n⟩))))
  · exact .inr (.inr (.inr (.inr (.inr (.inl ⟨a, xs, e, s.get hh t rfl⟩)))))
  · exact .inr (.inr (.inr (.inr (.inr (.inr ⟨a, xs, e, s.get hh t rfl⟩)))))
/-- its class, as isinstance asks it -/
theorem Thing.ty {K : PySem.W.Frag} {h : Addr} {H : Hp} {v : V} (t : Thing h H v) : ∃ n : String, TyX K H v (.type n) ∧ (n = "NoneType" ∨ n = "bool" ∨ n = "int" ∨ n = "str" ∨ n = "list" ∨ n = "tuple" ∨ n = "dict") := by
  rcases t with rfl | ⟨b, rfl⟩ | ⟨i, rfl⟩ | ⟨z, rfl⟩ | ⟨a, xs, rfl, n, t⟩ | ⟨a, xs, rfl, t⟩ | ⟨a, xs, rfl, t⟩
  · exact ⟨_, .base .non, .inl rfl⟩
  · exact ⟨_, .base (.bl b), .inr (.inl rfl)⟩
  · exact ⟨_, .base (.int i), .inr (.inr (.inl rfl))⟩
  · exact ⟨_, .base (.str z), .inr (.inr (.inr (.inl rfl)))⟩
  · exact ⟨_, .base (.lst t), .inr (.inr (.inr (.inr (.inl rfl))))⟩
  · exact ⟨_, .base (.tup t), .inr (.inr (.inr (.inr (.inr (.inl rfl)))))⟩
  · exact ⟨_, .base (.dK t), .inr (.inr (.inr (.inr (.inr (.inr rfl)))))⟩
end My
namespace My
open PySem PySem.Spec PyProof.Rows L2
/-! ### == and != by an own __eq__, beside things of any kind -/
section
open AutoSeq1 (wpAny_loadPart')
variable {prog : Program} {w : World} {A : Around} {E : Value → Shared → Prop} {s : Shared}
end
/-- a value of a built-in kind -/
inductive Bk (H : Hp) : V → String → Prop where
  | non : Bk H .non "NoneType"
  | bl (b : Bool) : Bk H (.bl b) "bool"
  | int (i : Int) : Bk H (.int i) "int"
  | str (z : Str) : Bk H (.str z) "str"
  | lst {a : Addr} {xs : List V} (e : H a = some (.lst xs)) : Bk H (.ref a) "list"
  | tup {a : Addr} {xs : List V} (e : H a = some (.tup xs)) : Bk H (.ref a) "tuple"
theorem Bk.ty {K : PySem.W.Frag} {H : Hp} {x : V} {T : String} (b : Bk H x T) : TyX K H x (.type T) := by
  cases b with
  | non => exact .base .non
  | bl b => exact .base (.bl b)
  | int i => exact .base (.int i)
  | str z => exact .base (.str z)
  | lst e => exact .base (.lst e)
  | tup e => exact .base (.tup e)
theorem Bk.same {H H' : Hp} {x : V} {T : String} (b : Bk H x T) (s : Same H H') : Bk H' x T := by
  cases b with
  | non => exact .non
  | bl b => exact .bl b
  | int i => exact .int i
  | str z => exact .str z
  | lst e => exact .lst (s _ _ e)
  | tup e => exact .tup (s _ _ e)
/-- the kinds that no own class stands under -/
def kinds : List String := ["NoneType", "bool", "int", "str", "list", "tuple"]
theorem Bk.mem {H : Hp} {x : V} {T : String} (b : Bk H x T) : T ∈ kinds := by
  cases b <;> simp [kinds]
/-- what == and != ask of a class with an own __eq__ and no own __ne__ -/
structure EqC (K : PySem.W.Frag) (C : Addr) : Prop where
  ne : PySem.W.findIn K (.ref C) "__ne__" = some (some (.builtin "object.__ne__"))
  ob : PySem.W.mroIn K C (.type "object") = some true
  sub : ∀ T, T ∈ kinds → PySem.W.subIn K (.ref C) (.type T) = some false
  nf : ∀ T, T ∈ kinds → PySem.W.notFirst K C (.type T) = true
  kit : ∀ T, T ∈ kinds → PySem.W.kitOne K (.type T) (.ref C) = some false
section
variable {X : Cx} {pins : List (Addr × Obj)} {σ : L2.St} {H : Hp} {s : Shared} {A : Around} {E : Value → Shared → Prop}
end
/-- how == answers: x == y tells b, and nothing changes -/
abbrev Eqb := V → V → Hp → Bool → Prop
def RcB (X : Cx) (n : Nat) (D : Eqb) : Prop := ∀ (A : Around) (pins : List (Addr × Obj)) (s : Shared) (σ : L2.St) (H : Hp) (x y : V) (u v : Value) (b : Bool), Sub X n A → Inv X pins σ H s → RelV x u → RelV y v → D x y H b →
  wpAny (model X.prog X.w) A (richCompare .Eq u v) (fun r s' => r = .bool b ∧ Inv X pins σ H s') X.xe s
def EqB (X : Cx) (n : Nat) (D : Eqb) : Prop := ∀ (A : Around) (pins : List (Addr × Obj)) (s : Shared) (σ : L2.St) (H : Hp) (x y : V) (u v : Value) (b : Bool), Sub X n A → Inv X pins σ H s → RelV x u → RelV y v → D x y H b →
  wpAny (model X.prog X.w) A (eqBool u v) (fun r s' => r = b ∧ Inv X pins σ H s') X.xe s
/-- the own object first -/
def DOwn (K : PySem.W.Frag) (C : Addr) (R : Eqb) : Eqb := fun x y H b => ∃ a dx fs tb, x = .ref a ∧ H a = some (.ins C dx fs) ∧ TyX K H y tb ∧ PySem.W.notFirst K C tb = true ∧ (x = y → b = true) ∧ R x y H b
/-- the own object behind a thing of a built-in kind -/
def DRef (C : Addr) (R : Eqb) : Eqb := fun x y H b => ∃ a dx fs T, y = .ref a ∧ H a = some (.ins C dx fs) ∧ Bk H x T ∧ (x = y → b = true) ∧ R y x H b
def DOr (D D' : Eqb) : Eqb := fun x y H b => D x y H b ∨ D' x y H b
section
variable {X : Cx} {n : Nat} {CX : CXT} {C f : Addr} {fd : FuncData} {ps : List Str} {R D D' : Eqb} {E : XK}
theorem RcB.mono {m : Nat} (h : RcB X n D) (l : n ≤ m) : RcB X m D := fun A pins s σ H x y u v b sb I rx ry d => h A pins s σ H x y u v b (sb.mono l) I rx ry d
theorem EqB.mono {m : Nat} (h : EqB X n D) (l : n ≤ m) : EqB X m D := fun A pins s σ H x y u v b sb I rx ry d => h A pins s σ H x y u v b (sb.mono l) I rx ry d
theorem RcB.or (h : RcB X n D) (h' : RcB X n D') : RcB X n (DOr D D') := fun A pins s σ H x y u v b sb I rx ry d => d.elim (h A pins s σ H x y u v b sb I rx ry) (h' A pins s σ H x y u v b sb I rx ry)
theorem EqB.or (h : EqB X n D) (h' : EqB X n D') : EqB X n (DOr D D') := fun A pins s σ H x y u v b sb I rx ry d => d.elim (h A pins s σ H x y u v b sb I rx ry) (h' A pins s σ H x y u v b sb I rx ry)
/-! ### in, by an own == -/
def InB (D : Eqb) (x : V) (H : Hp) : List V → Bool → Prop
  | [], b => b = false
  | y :: r, b => (D y x H true ∧ b = true) ∨ (D y x H false ∧ InB D x H r b)
open AutoSeq1 (wpAny_loadPart') in
open AutoSeq1 (wpAny_loadPart') in
/-- a text beside a thing of a built-in kind -/
def DTxt : Eqb := fun x y H b => ∃ (z : Str) (T : String), x = .str z ∧ Bk H y T ∧ b = decide (y = .str z)
end
/-! ### Measures alike, beside Measures and things of built-in kinds -/
def REq (K : PySem.W.Frag) (C : Addr) : Eqb := fun x y H b => ∃ p t u, x = .ref p ∧ MAt C H p t u ∧ ((∃ q t' u', y = .ref q ∧ MAt C H q t' u' ∧ b = (decide (t = t') && decide (u = u'))) ∨ ∃ tv, TyX K H y tv ∧ PySem.W.kitOne K tv (.ref C) = some false ∧ b = false)
inductive Like (C : Addr) (H : Hp) (p : Addr) : V → Bool → Prop where
  | ms {q : Addr} {t u t' u' : Int} (a : MAt C H p t u) (b : MAt C H q t' u') : Like C H p (.ref q) (decide (t = t') && decide (u = u'))
  | kd {y : V} {T : String} {t u : Int} (a : MAt C H p t u) (b : Bk H y T) : Like C H p y false
theorem Like.same {C p : Addr} {H H' : Hp} {y : V} {b : Bool} (h : Like C H p y b) (s : Same H H') : Like C H' p y b := by
  cases h with
  | ms a b => exact .ms (a.same s) (b.same s)
  | kd a k => exact .kd (a.same s) (k.same s)
theorem mf_inj {t u t' u' : Int} (h : mf t u = mf t' u') : t = t' ∧ u = u' := by
  unfold mf at h
  injection h with h1 h2
  injection h2 with h3 _
  exact ⟨V.int.inj (congrArg Prod.snd h1), V.int.inj (congrArg Prod.snd h3)⟩
theorem MAt.uniq {C p : Addr} {H : Hp} {t u t' u' : Int} (a : MAt C H p t u) (b : MAt C H p t' u') : t = t' ∧ u = u' := by
  obtain ⟨d, a⟩ := a
  obtain ⟨d', b⟩ := b
  rw [a] at b
  have e := HO.ins.inj (Option.some.inj b)
  exact mf_inj e.2.2
theorem Bk.notIns {C p dx : Addr} {H : Hp} {T : String} {fs : List (Str × V)} (b : Bk H (.ref p) T) (e : H p = some (.ins C dx fs)) : False := by
  cases b with
  | lst z => rw [z] at e; cases e
  | tup z => rw [z] at e; cases e
section
variable {K : PySem.W.Frag} {C p : Addr} {H : Hp} {y : V} {b : Bool}
theorem nf_self : PySem.W.notFirst K C (.ref C) = true := by simp [PySem.W.notFirst]
theorem Like.fwd (cl : Cls K C) (ii : IsC K C) (ec : EqC K C) (h : Like C H p y b) : DOwn K C (REq K C) (.ref p) y H b := by
  cases h with
  | @ms q t u t' u' a b =>
    obtain ⟨da, ha⟩ := _root_.id a
    obtain ⟨db, hb⟩ := _root_.id b
    refine ⟨p, da, _, _, rfl, ha, tyM hb cl ii, nf_self, fun e => ?_, p, t, u, rfl, a, .inl ⟨q, t', u', rfl, b, rfl⟩⟩
    cases e
    obtain ⟨rfl, rfl⟩ := a.uniq b
    simp
  | @kd _ T t u a k =>
    obtain ⟨da, ha⟩ := _root_.id a
    refine ⟨p, da, _, _, rfl, ha, k.ty, ec.nf T k.mem, fun e => ?_, p, t, u, rfl, a, .inr ⟨_, k.ty, ec.kit T k.mem, rfl⟩⟩
    subst e
    exact (k.notIns ha).elim
theorem Like.bwd (cl : Cls K C) (ii : IsC K C) (ec : EqC K C) (h : Like C H p y b) : DOr (DOwn K C (REq K C)) (DRef C (REq K C)) y (.ref p) H b := by
  cases h with
  | @ms q t u t' u' a b =>
    obtain ⟨da, ha⟩ := _root_.id a
    obtain ⟨db, hb⟩ := _root_.id b
    have e2 : (decide (t = t') && decide (u = u')) = (decide (t' = t) && decide (u' = u)) := by
      rw [decide_eq_decide.mpr (eq_comm (a := t)), decide_eq_decide.mpr (eq_comm (a := u))]
    rw [e2]
    refine .inl ⟨q, db, _, _, rfl, hb, tyM ha cl ii, nf_self, fun e => ?_, q, t', u', rfl, b, .inl ⟨p, t, u, rfl, a, rfl⟩⟩
    cases e
    obtain ⟨rfl, rfl⟩ := a.uniq b
    simp
  | @kd _ T t u a k =>
    obtain ⟨da, ha⟩ := _root_.id a
    refine .inr ⟨p, da, _, T, rfl, ha, k, fun e => ?_, p, t, u, rfl, a, .inr ⟨_, k.ty, ec.kit T k.mem, rfl⟩⟩
    subst e
    exact (k.notIns ha).elim
theorem Like.non (ec : EqC K C) (h : Like C H p y b) : DOr (DOwn K C (REq K C)) (DRef C (REq K C)) .non (.ref p) H false := by
  have go : ∀ {t u : Int}, MAt C H p t u → DOr (DOwn K C (REq K C)) (DRef C (REq K C)) .non (.ref p) H false := fun {t u} a => by
    obtain ⟨da, ha⟩ := _root_.id a
    exact .inr ⟨p, da, _, _, rfl, ha, .non, (fun e => nomatch e), p, t, u, rfl, a, .inr ⟨_, (Bk.non (H := H)).ty, ec.kit _ (Bk.non (H := H)).mem, rfl⟩⟩
  cases h with
  | ms a _ => exact go a
  | kd a _ => exact go a
/-- one in [None, y] -/
theorem Like.inl (cl : Cls K C) (ii : IsC K C) (ec : EqC K C) (h : Like C H p y b) : InB (DOr (DOwn K C (REq K C)) (DRef C (REq K C))) (.ref p) H [.non, y] b := by
  refine .inr ⟨h.non ec, ?_⟩
  cases b with
  | true => exact .inl ⟨h.bwd cl ii ec, rfl⟩
  | false => exact .inr ⟨h.bwd cl ii ec, rfl⟩
/-- y in (one, z) -/
theorem Like.inr {z : Str} (cl : Cls K C) (ii : IsC K C) (ec : EqC K C) (h : Like C H p y b) (hz : y ≠ .str z) : InB (DOr (DOr (DOwn K C (REq K C)) (DRef C (REq K C))) DTxt) y H [.ref p, .str z] b := by
  have key : ∀ {c : Bool}, Like C H p y c → DOr (DOr (DOwn K C (REq K C)) (DRef C (REq K C))) DTxt (.str z) y H false := fun {c} h => by
    cases h with
    | @ms q t u t' u' a b =>
      obtain ⟨dq, hq⟩ := _root_.id b
      exact .inl (.inr ⟨q, dq, _, _, rfl, hq, .str z, (fun e => nomatch e), q, t', u', rfl, b, .inr ⟨_, (Bk.str (H := H) z).ty, ec.kit _ (Bk.str (H := H) z).mem, rfl⟩⟩)
    | @kd _ T t u a k => exact .inr ⟨z, T, rfl, k, (decide_eq_false hz).symm⟩
  cases b with
  | true => exact .inl ⟨.inl (.inl (h.fwd cl ii ec)), rfl⟩
  | false => exact .inr ⟨.inl (.inl (h.fwd cl ii ec)), .inr ⟨key h, rfl⟩⟩
end
end My
namespace My
open PySem PySem.Spec PyProof.Rows L2
/-! ### texts: str and repr of own objects, pieces of f-strings, divmod -/
section
variable {X : Cx} {n : Nat} {CX : CXT} {C f : Addr} {fd : FuncData} {ps : List Str} {sp : Sp} {E : XK}
/-- an own def is called from within a built-in one -/
theorem fn_at (F : FnOk X.prog X.w X.K X.mg X.base CX n f fd ps sp) (hb : Binds X.K fd ps []) (hx : Passes CX X E) {A : Around} {pins : List (Addr × Obj)} {s : Shared} {σ : L2.St} {H : Hp} {vs : List V} {us : List Value} {Q : VK}
    (sb : Sub X n A) (I : Inv X pins σ H s) (r : Vals vs us) (h : sp vs H Q E) : wpAny (model X.prog X.w) A (call (.ref f) us) (fun u s' => ∃ v H', Inv X pins σ H' s' ∧ RelV v u ∧ Q v H') X.xe s := by
  have e := I.env0
  have e0 : Env0 X.prog X.w X.K X.mg X.base A X.stack s H := ⟨by rw [sb.fr]; exact e.frames, e.mod, e.bs, e.bsz, e.funs, e.frf, e.hok, e.bare⟩
  have hl := F.len _ _ _ _ h
  have hbs := hb s us I.kIn (by rw [List.append_nil, ← r.length]; exact hl)
  rw [List.append_nil] at hbs
  refine wpAny_call (codeAny_mono (F.run A X.stack s H ⟨us, []⟩ us vs _ E sb.room e0 hbs r h) fun r s' hq => ?_)
  cases r with
  | error e => exact hx pins σ H s e s' I hq
  | ok fl =>
    cases fl with
    | ret w =>
      obtain ⟨z, H', I', rz, q⟩ := I.after hq
      exact ⟨z, H', I', rz, q⟩
    | next => exact False.elim hq
    | brk => exact False.elim hq
    | cont => exact False.elim hq
/-- what a text of an own object asks: the def tells a text -/
def tOwn (C : Addr) (sp : Sp) (E : XK) : V → Hp → VK → Prop := fun x H Q => ∃ a dx fs, x = .ref a ∧ H a = some (.ins C dx fs) ∧ sp [.ref a] H (fun v H' => ∃ z : Str, v = .str z ∧ Q (.str z) H') E
end
/-! ### the text of a number, of a Measure -/
end My
namespace My
open PySem PySem.Spec PyProof.Rows L2
/-! ### Stretches alike -/
def optEq : Option Q2 → Option Q2 → Bool
  | none, none => true
  | some a, some b => eqq a b
  | _, _ => false
theorem optEq_self (a : Option Q2) : optEq a a = true := by
  cases a with
  | none => rfl
  | some a => exact eqq_self a
theorem eqq_comm' (a b : Q2) : eqq a b = eqq b a := by
  unfold eqq
  exact decide_eq_decide.mpr eq_comm
theorem optEq_comm (a b : Option Q2) : optEq a b = optEq b a := by
  cases a with
  | none => cases b <;> rfl
  | some a =>
    cases b with
    | none => rfl
    | some b => exact eqq_comm' a b
def eqS (lo hi : Option Q2) (li hj : Bool) (lo' hi' : Option Q2) (li' hj' : Bool) : Bool := optEq lo lo' && (optEq hi hi' && (decide (V.bl li = V.bl li') && decide (V.bl hj = V.bl hj')))
theorem eqS_self (lo hi : Option Q2) (li hj : Bool) : eqS lo hi li hj lo hi li hj = true := by
  unfold eqS
  rw [optEq_self, optEq_self, decide_eq_true rfl, decide_eq_true rfl]
  rfl
theorem eqS_comm (lo hi : Option Q2) (li hj : Bool) (lo' hi' : Option Q2) (li' hj' : Bool) : eqS lo hi li hj lo' hi' li' hj' = eqS lo' hi' li' hj' lo hi li hj := by
  unfold eqS
  rw [optEq_comm lo, optEq_comm hi, decide_eq_decide.mpr (eq_comm (a := V.bl li)), decide_eq_decide.mpr (eq_comm (a := V.bl hj))]
section
variable {K : PySem.W.Frag} {CM CS p : Addr} {H : Hp}
def REqS (K : PySem.W.Frag) (CM CS : Addr) : Eqb := fun x y H b => ∃ p lo hi li hj, x = .ref p ∧ StAt CM CS H p lo hi li hj ∧ ((∃ q lo' hi' li' hj', y = .ref q ∧ StAt CM CS H q lo' hi' li' hj' ∧ b = eqS lo hi li hj lo' hi' li' hj') ∨
  ∃ tv, TyX K H y tv ∧ PySem.W.kitOne K tv (.ref CS) = some false ∧ b = false)
inductive LikeS (CM CS : Addr) (H : Hp) (p : Addr) : V → Bool → Prop where
  | st {q : Addr} {lo hi lo' hi' : Option Q2} {li hj li' hj' : Bool} (a : StAt CM CS H p lo hi li hj) (b : StAt CM CS H q lo' hi' li' hj') : LikeS CM CS H p (.ref q) (eqS lo hi li hj lo' hi' li' hj')
  | kd {y : V} {T : String} {lo hi : Option Q2} {li hj : Bool} (a : StAt CM CS H p lo hi li hj) (b : Bk H y T) : LikeS CM CS H p y false
  | ms {q : Addr} {t u : Int} {lo hi : Option Q2} {li hj : Bool} (a : StAt CM CS H p lo hi li hj) (b : MAt CM H q t u) : LikeS CM CS H p (.ref q) false
theorem LikeS.same {H' : Hp} {y : V} {b : Bool} (h : LikeS CM CS H p y b) (s : Same H H') : LikeS CM CS H' p y b := by
  cases h with
  | st a b => exact .st (a.same s) (b.same s)
  | kd a k => exact .kd (a.same s) (k.same s)
  | ms a m => exact .ms (a.same s) (m.same s)
theorem MsV.uniq {v : V} {e f : Option Q2} (a : MsV CM H v e) (b : MsV CM H v f) : e = f := by
  cases e with
  | none =>
    cases a
    cases f with
    | none => rfl
    | some y => obtain ⟨q, z, _⟩ := b; exact nomatch z
  | some x =>
    obtain ⟨p, rfl, hp⟩ := a
    cases f with
    | none => exact nomatch (show V.ref p = V.non from b)
    | some y =>
      obtain ⟨q, z, hq⟩ := b
      cases z
      obtain ⟨h1, h2⟩ := hp.uniq hq
      rw [show x = (x.1, x.2) from rfl, show y = (y.1, y.2) from rfl, h1, h2]
theorem sf_inj {l h l' h' : V} {i j i' j' : Bool} (e : sf l h i j = sf l' h' i' j') : l = l' ∧ h = h' ∧ i = i' ∧ j = j' := by
  have g : ∀ m : Str, (sf l h i j).lookup m = (sf l' h' i' j').lookup m := fun m => by rw [e]
  have g1 := g "low"
  have g2 := g "high"
  have g3 := g "low_in"
  have g4 := g "high_in"
  rw [sf_low, sf_low] at g1
  rw [sf_high, sf_high] at g2
  rw [sf_low_in, sf_low_in] at g3
  rw [sf_high_in, sf_high_in] at g4
  exact ⟨Option.some.inj g1, Option.some.inj g2, V.bl.inj (Option.some.inj g3), V.bl.inj (Option.some.inj g4)⟩
theorem StAt.uniq {lo hi lo' hi' : Option Q2} {li hj li' hj' : Bool} (a : StAt CM CS H p lo hi li hj) (b : StAt CM CS H p lo' hi' li' hj') : lo = lo' ∧ hi = hi' ∧ li = li' ∧ hj = hj' := by
  obtain ⟨⟨d, l, h, h1, h2, h3⟩, _⟩ := a
  obtain ⟨⟨d', l', h', k1, k2, k3⟩, _⟩ := b
  rw [h1] at k1
  have e := HO.ins.inj (Option.some.inj k1)
  obtain ⟨rfl, rfl, rfl, rfl⟩ := sf_inj e.2.2
  exact ⟨h2.uniq k2, h3.uniq k3, rfl, rfl⟩
theorem st_notM {q : Addr} {lo hi : Option Q2} {li hj : Bool} {t u : Int} (a : StAt CM CS H p lo hi li hj) (m : MAt CM H p t u) : False := by
  obtain ⟨⟨d, l, hh, h1, _⟩, _⟩ := a
  obtain ⟨dm, hm⟩ := m
  rw [h1] at hm
  have e := (HO.ins.inj (Option.some.inj hm)).2.2
  have e2 := congrArg (fun fs : List (Str × V) => fs.lookup ("top" : Str)) e
  have e3 : (sf l hh li hj).lookup ("top" : Str) = none := sf_no _ _ _ _ (by decide +kernel) (by decide +kernel) (by decide +kernel) (by decide +kernel)
  have e4 := mf_top t u
  rw [show (sf l hh li hj).lookup ("top" : Str) = (mf t u).lookup ("top" : Str) from e2, e4] at e3
  cases e3
/-- what is asked of the two classes -/
structure Two (K : PySem.W.Frag) (CM CS : Addr) : Prop where
  clM : Cls K CM
  iiM : IsC K CM
  ecM : EqC K CM
  clS : Cls K CS
  iiS : IsC K CS
  ecS : EqC K CS
  nMS : PySem.W.notFirst K CM (.ref CS) = true
  nSM : PySem.W.notFirst K CS (.ref CM) = true
  kMS : PySem.W.kitOne K (.ref CM) (.ref CS) = some false
  kSM : PySem.W.kitOne K (.ref CS) (.ref CM) = some false
def DAllS (K : PySem.W.Frag) (CM CS : Addr) : Eqb := DOr (DOr (DOwn K CS (REqS K CM CS)) (DRef CS (REqS K CM CS))) (DOwn K CM (REq K CM))
theorem LikeS.fwd {y : V} {b : Bool} (T : Two K CM CS) (h : LikeS CM CS H p y b) : DOwn K CS (REqS K CM CS) (.ref p) y H b := by
  cases h with
  | @st q lo hi lo' hi' li hj li' hj' a b =>
    obtain ⟨⟨d, l, hh, h1, _⟩, _⟩ := _root_.id a
    obtain ⟨⟨d', l', hh', k1, _⟩, _⟩ := _root_.id b
    refine ⟨p, d, _, _, rfl, h1, tyM k1 T.clS T.iiS, nf_self, fun e => ?_, p, lo, hi, li, hj, rfl, a, .inl ⟨q, lo', hi', li', hj', rfl, b, rfl⟩⟩
    cases e
    obtain ⟨rfl, rfl, rfl, rfl⟩ := a.uniq b
    exact eqS_self _ _ _ _
  | @kd _ Ty lo hi li hj a k =>
    obtain ⟨⟨d, l, hh, h1, _⟩, _⟩ := _root_.id a
    refine ⟨p, d, _, _, rfl, h1, k.ty, T.ecS.nf Ty k.mem, fun e => ?_, p, lo, hi, li, hj, rfl, a, .inr ⟨_, k.ty, T.ecS.kit Ty k.mem, rfl⟩⟩
    subst e
    exact (k.notIns h1).elim
  | @ms q t u lo hi li hj a m =>
    obtain ⟨⟨d, l, hh, h1, _⟩, _⟩ := _root_.id a
    obtain ⟨dm, hm⟩ := _root_.id m
    have ty := tyM hm T.clM T.iiM
    refine ⟨p, d, _, _, rfl, h1, ty, T.nSM, fun e => ?_, p, lo, hi, li, hj, rfl, a, .inr ⟨_, ty, T.kMS, rfl⟩⟩
    cases e
    exact (st_notM (q := p) a m).elim
theorem LikeS.bwd {y : V} {b : Bool} (T : Two K CM CS) (h : LikeS CM CS H p y b) : DAllS K CM CS y (.ref p) H b := by
  cases h with
  | @st q lo hi lo' hi' li hj li' hj' a b =>
    rw [eqS_comm]
    exact .inl (.inl (LikeS.fwd T (.st b a)))
  | @kd _ Ty lo hi li hj a k =>
    obtain ⟨⟨d, l, hh, h1, _⟩, _⟩ := _root_.id a
    refine .inl (.inr ⟨p, d, _, Ty, rfl, h1, k, fun e => ?_, p, lo, hi, li, hj, rfl, a, .inr ⟨_, k.ty, T.ecS.kit Ty k.mem, rfl⟩⟩)
    subst e
    exact (k.notIns h1).elim
  | @ms q t u lo hi li hj a m =>
    obtain ⟨⟨d, l, hh, h1, _⟩, _⟩ := _root_.id a
    obtain ⟨dm, hm⟩ := _root_.id m
    have ty := tyM h1 T.clS T.iiS
    refine .inr ⟨q, dm, _, _, rfl, hm, ty, T.nMS, fun e => ?_, q, t, u, rfl, m, .inr ⟨_, ty, T.kSM, rfl⟩⟩
    cases e
    exact (st_notM (q := p) a m).elim
theorem LikeS.inl {y : V} {b : Bool} (T : Two K CM CS) (h : LikeS CM CS H p y b) : InB (DAllS K CM CS) (.ref p) H [.non, y] b := by
  have go : ∀ {lo hi li hj}, StAt CM CS H p lo hi li hj → DAllS K CM CS .non (.ref p) H false := fun {lo hi li hj} a => LikeS.bwd T (.kd a .non)
  have nn : DAllS K CM CS .non (.ref p) H false := by
    cases h with
    | st a _ => exact go a
    | kd a _ => exact go a
    | ms a _ => exact go a
  refine .inr ⟨nn, ?_⟩
  cases b with
  | true => exact .inl ⟨h.bwd T, rfl⟩
  | false => exact .inr ⟨h.bwd T, rfl⟩
end
/-! ### texts of Stretches -/
/-- the tuple of two ends and two truths -/
def EndsK (k : Nat) (H : Hp) (v : V) (ea eb : Option Q2) (ia ib : Bool) : Prop := ∃ p va vb, v = .ref p ∧ H p = some (.tup [va, vb, .bl ia, .bl ib]) ∧ EndV k H va ea ∧ EndV k H vb eb
theorem EndsK.nl {k : Nat} {H H' : Hp} {v : V} {ea eb : Option Q2} {ia ib : Bool} (a : EndsK k H v ea eb ia ib) (s : Nl H H') : EndsK k H' v ea eb ia ib := by
  obtain ⟨p, va, vb, h0, h1, h2, h3⟩ := a
  exact ⟨p, va, vb, h0, s _ _ h1 rfl, h2.nl s, h3.nl s⟩
theorem EndsK.same {k : Nat} {H H' : Hp} {v : V} {ea eb : Option Q2} {ia ib : Bool} (a : EndsK k H v ea eb ia ib) (s : Same H H') : EndsK k H' v ea eb ia ib := a.nl (Nl.of s)
theorem EndsAt.k {H : Hp} {p : Addr} {ea eb : Option Q2} {ia ib : Bool} (a : EndsAt H p ea eb ia ib) : EndsK 150 H (.ref p) ea eb ia ib := by
  obtain ⟨⟨va, vb, h1, h2, h3⟩, _⟩ := a
  exact ⟨p, va, vb, rfl, h1, h2.mono (by decide), h3.mono (by decide)⟩
end My
namespace My
open PySem PySem.Spec PyProof.Rows L2
/-! ### texts by their signs: partings at the last and the first sign -/
/-! ### x.rpartition(sep) -/
/-! ### a leading sign -/
/-! ### the words of a measure's text -/
/-! ### the text of a Measure by its signs -/
end My
namespace My
open PySem PySem.Spec PyProof.Rows L2
/-! ### list.count(True) of truths -/
/-! ### Measures as fractions -/
theorem fr_of {t u A B : Int} (hu : 0 < u) (co : Int.gcd t u = 1) (hB : 0 < B) (e : t * B = A * u) : Fr t u A B := by
  have co' : Int.gcd u t = 1 := by rw [Int.gcd_comm]; exact co
  have d2 : u ∣ B := dvd_co (b := t) ⟨A, by rw [e, Int.mul_comm]⟩ co'
  obtain ⟨k, hk⟩ := d2
  have k0 : 0 < k := by
    rcases Int.lt_or_le 0 k with z | z
    · exact z
    · have := Int.mul_nonneg_of_nonpos_of_nonpos (show -u ≤ 0 by omega) z
      have e2 : -u * k = -(u * k) := Int.neg_mul ..
      omega
  have e1 : A = t * k := by
    have : A * u = (t * k) * u := by
      rw [← e, hk]
      simp only [Int.mul_assoc, Int.mul_comm, Int.mul_left_comm]
    exact Int.eq_of_mul_eq_mul_right (by omega) this
  refine ⟨hu, e, co, ?_, ?_⟩
  · rw [e1, Int.natAbs_mul]
    exact Nat.le_mul_of_pos_right _ (by omega)
  · rw [hk, Int.natAbs_mul]
    exact Nat.le_mul_of_pos_right _ (by omega)
def qadd (x y : Q2) : Q2 := (x.1 * y.2 + y.1 * x.2, x.2 * y.2)
def qsub (x y : Q2) : Q2 := (x.1 * y.2 - y.1 * x.2, x.2 * y.2)
def qmul (x y : Q2) : Q2 := (x.1 * y.1, x.2 * y.2)
def qprt (x : Q2) (m : Int) : Q2 := (x.1 * sgn m, x.2 * (m * sgn m))
def qmk (a b : Int) : Q2 := (a * sgn b, b * sgn b)
theorem sgn_pos {m : Int} (h : m ≠ 0) : 0 < m * sgn m := by
  unfold sgn; split
  · omega
  · rw [Int.mul_neg_one]; omega
structure QAt (C : Addr) (H : Hp) (p : Addr) (k : Nat) (x : Q2) : Prop where
  ob : ∃ t u, MAt C H p t u ∧ Fr t u x.1 x.2
  pos : 0 < x.2
  s1 : Sz k x.1
  s2 : Sz k x.2
theorem QAt.same {C p : Addr} {H H' : Hp} {k : Nat} {x : Q2} (h : QAt C H p k x) (s : Same H H') : QAt C H' p k x := by
  obtain ⟨⟨t, u, m, f⟩, h1, h2, h3⟩ := h
  exact ⟨⟨t, u, m.same s, f⟩, h1, h2, h3⟩
theorem QAt.mono {C p : Addr} {H : Hp} {k j : Nat} {x : Q2} (h : QAt C H p k x) (l : k ≤ j) : QAt C H p j x := ⟨h.ob, h.pos, h.s1.mono l, h.s2.mono l⟩
theorem QAt.kp {C p hd : Addr} {H H' : Hp} {n k : Nat} {x : Q2} (h : QAt C H p k x) (hh : HandAt H hd n) (s : Kp hd H H') : QAt C H' p k x := by
  obtain ⟨⟨t, u, m, f⟩, h1, h2, h3⟩ := h
  exact ⟨⟨t, u, m.kp hh s, f⟩, h1, h2, h3⟩
theorem QAt.nl {C p : Addr} {H H' : Hp} {k : Nat} {x : Q2} (h : QAt C H p k x) (s : Nl H H') : QAt C H' p k x := by
  obtain ⟨⟨t, u, ⟨d, m⟩, f⟩, h1, h2, h3⟩ := h
  exact ⟨⟨t, u, ⟨d, s _ _ m rfl⟩, f⟩, h1, h2, h3⟩
section
variable {C p q : Addr} {H : Hp} {Q : VK} {E : XK} {k j : Nat} {x y : Q2}
theorem QAt.raw (h : QAt C H p k x) {m : Str} (h1 : ¬ m = "top") (h2 : ¬ m = "bottom") : ∃ dx fs, H p = some (.ins C dx fs) ∧ fs.lookup m = none := by
  obtain ⟨⟨t, u, ⟨d, m⟩, f⟩, _⟩ := h
  exact ⟨d, _, m, mf_no _ _ h1 h2⟩
theorem q_add (hx : QAt C H p k x) (hy : QAt C H q j y) (l : k + j ≤ 8900) (l0 : 0 < k) (l1 : 0 < j) (f : ∀ (r : Addr) (H' : Hp), Same H H' → QAt C H' r (k + j + 1) (qadd x y) → Q (.ref r) H') :
    sp_bin2 C (fun t u t' u' => t * u' + t' * u) (fun t u t' u' => u * u') [.ref p, .ref q] H Q E := by
  obtain ⟨⟨t, u, m1, f1⟩, px, a1, a2⟩ := hx
  obtain ⟨⟨t', u', m2, f2⟩, py, b1, b2⟩ := hy
  refine ⟨p, q, t, u, t', u', rfl, m1, m2, f1.pos, f2.pos, (a1.le f1.lt).mono (by omega), (a2.le f1.lu).mono (by omega), (b1.le f2.lt).mono (by omega), (b2.le f2.lu).mono (by omega), ((a2.le f1.lu).mul (b2.le f2.lu)).mono (by omega), fun r t2 u2 H' _ s m f3 => ?_⟩
  refine f r H' s ⟨⟨t2, u2, m, fr_of f3.pos f3.co (Int.mul_pos px py) ?_⟩, Int.mul_pos px py, (a1.mul b2).add ((b1.mul a2).mono (by omega)), (a2.mul b2).mono (by omega)⟩
  have e1 := f1.eq
  have e2 := f2.eq
  have e3 := f3.eq
  have z : (t2 * (x.2 * y.2)) * (u * u') = ((x.1 * y.2 + y.1 * x.2) * u2) * (u * u') := by
    have : (t2 * (x.2 * y.2)) * (u * u') = (t2 * (u * u')) * (x.2 * y.2) := by grind
    rw [this, e3]
    have w1 : (t * u' + t' * u) * u2 * (x.2 * y.2) = ((t * x.2) * u' * y.2 + (t' * y.2) * u * x.2) * u2 := by grind
    rw [w1, e1, e2]
    grind
  have pu := Int.mul_pos f1.pos f2.pos
  exact Int.eq_of_mul_eq_mul_right (by omega) z
theorem q_sub (hx : QAt C H p k x) (hy : QAt C H q j y) (l : k + j ≤ 8900) (l0 : 0 < k) (l1 : 0 < j) (f : ∀ (r : Addr) (H' : Hp), Same H H' → QAt C H' r (k + j + 1) (qsub x y) → Q (.ref r) H') :
    sp_bin2 C (fun t u t' u' => t * u' - t' * u) (fun t u t' u' => u * u') [.ref p, .ref q] H Q E := by
  obtain ⟨⟨t, u, m1, f1⟩, px, a1, a2⟩ := hx
  obtain ⟨⟨t', u', m2, f2⟩, py, b1, b2⟩ := hy
  refine ⟨p, q, t, u, t', u', rfl, m1, m2, f1.pos, f2.pos, (a1.le f1.lt).mono (by omega), (a2.le f1.lu).mono (by omega), (b1.le f2.lt).mono (by omega), (b2.le f2.lu).mono (by omega), ((a2.le f1.lu).mul (b2.le f2.lu)).mono (by omega), fun r t2 u2 H' _ s m f3 => ?_⟩
  refine f r H' s ⟨⟨t2, u2, m, fr_of f3.pos f3.co (Int.mul_pos px py) ?_⟩, Int.mul_pos px py, (a1.mul b2).sub ((b1.mul a2).mono (by omega)), (a2.mul b2).mono (by omega)⟩
  have e1 := f1.eq
  have e2 := f2.eq
  have e3 := f3.eq
  have z : (t2 * (x.2 * y.2)) * (u * u') = ((x.1 * y.2 - y.1 * x.2) * u2) * (u * u') := by
    have : (t2 * (x.2 * y.2)) * (u * u') = (t2 * (u * u')) * (x.2 * y.2) := by grind
    rw [this, e3]
    have w1 : (t * u' - t' * u) * u2 * (x.2 * y.2) = ((t * x.2) * u' * y.2 - (t' * y.2) * u * x.2) * u2 := by grind
    rw [w1, e1, e2]
    grind
  have pu := Int.mul_pos f1.pos f2.pos
  exact Int.eq_of_mul_eq_mul_right (by omega) z
theorem q_mul (hx : QAt C H p k x) (hy : QAt C H q j y) (l : k + j ≤ 8900) (l0 : 0 < k) (l1 : 0 < j) (f : ∀ (r : Addr) (H' : Hp), Same H H' → QAt C H' r (k + j + 1) (qmul x y) → Q (.ref r) H') :
    sp_bin2 C (fun t u t' u' => t * t') (fun t u t' u' => u * u') [.ref p, .ref q] H Q E := by
  obtain ⟨⟨t, u, m1, f1⟩, px, a1, a2⟩ := hx
  obtain ⟨⟨t', u', m2, f2⟩, py, b1, b2⟩ := hy
  refine ⟨p, q, t, u, t', u', rfl, m1, m2, f1.pos, f2.pos, (a1.le f1.lt).mono (by omega), (a2.le f1.lu).mono (by omega), (b1.le f2.lt).mono (by omega), (b2.le f2.lu).mono (by omega), ((a2.le f1.lu).mul (b2.le f2.lu)).mono (by omega), fun r t2 u2 H' _ s m f3 => ?_⟩
  refine f r H' s ⟨⟨t2, u2, m, fr_of f3.pos f3.co (Int.mul_pos px py) ?_⟩, Int.mul_pos px py, (a1.mul b1).mono (by omega), (a2.mul b2).mono (by omega)⟩
  have e1 := f1.eq
  have e2 := f2.eq
  have e3 := f3.eq
  have z : (t2 * (x.2 * y.2)) * (u * u') = ((x.1 * y.1) * u2) * (u * u') := by
    have : (t2 * (x.2 * y.2)) * (u * u') = (t2 * (u * u')) * (x.2 * y.2) := by grind
    rw [this, e3]
    have w1 : (t * t') * u2 * (x.2 * y.2) = (t * x.2) * (t' * y.2) * u2 := by grind
    rw [w1, e1, e2]
    grind
  have pu := Int.mul_pos f1.pos f2.pos
  exact Int.eq_of_mul_eq_mul_right (by omega) z
theorem q_prt {m : Int} (hx : QAt C H p k x) (hm : m ≠ 0) (sm : Sz j m) (l : k + j ≤ 8900) (l0 : 0 < k) (l1 : 0 < j) (f : ∀ (r : Addr) (H' : Hp), Same H H' → QAt C H' r (k + j + 1) (qprt x m) → Q (.ref r) H') :
    sp_part2 C [.ref p, .int m] H Q E := by
  obtain ⟨⟨t, u, m1, f1⟩, px, a1, a2⟩ := hx
  have pm := sgn_pos hm
  have sgnN : (sgn m).natAbs = 1 := by rcases sgn_cases m with e | e <;> rw [e] <;> rfl
  refine ⟨p, t, u, m, rfl, m1, f1.pos, hm, (a1.le f1.lt).mono (by omega), (a2.le f1.lu).mono (by omega), sm.mono (by omega), ((a2.le f1.lu).mul sm).mono (by omega), fun r t2 u2 H' _ s mm f3 => ?_⟩
  have z1 : Sz (k + j + 1) (x.1 * sgn m) := (a1.le (y := x.1 * sgn m) (by rw [Int.natAbs_mul, sgnN, Nat.mul_one]; exact Nat.le_refl _)).mono (by omega)
  have z2 : Sz j (m * sgn m) := sm.le (by rw [Int.natAbs_mul, sgnN, Nat.mul_one]; exact Nat.le_refl _)
  refine f r H' s ⟨⟨t2, u2, mm, fr_of f3.pos f3.co (Int.mul_pos px pm) ?_⟩, Int.mul_pos px pm, z1, (a2.mul z2).mono (by omega)⟩
  have e1 := f1.eq
  have e3 := f3.eq
  have hu := f1.pos
  have z : (t2 * (x.2 * (m * sgn m))) * u = ((x.1 * sgn m) * u2) * u := by
    have w0 : (t2 * (x.2 * (m * sgn m))) * u = (t2 * (u * m)) * x.2 * sgn m := by grind
    rw [w0, e3]
    have w1 : t * u2 * x.2 * sgn m = (t * x.2) * u2 * sgn m := by grind
    rw [w1, e1]
    grind
  exact Int.eq_of_mul_eq_mul_right (by omega) z
theorem q_mk {a b t u : Int} {H' : Hp} (m : MAt C H' p t u) (f : Fr t u a b) (hb : b ≠ 0) (sa : Sz k a) (sb : Sz k b) : QAt C H' p k (qmk a b) := by
  have pm := sgn_pos hb
  have sgnN : (sgn b).natAbs = 1 := by rcases sgn_cases b with e | e <;> rw [e] <;> rfl
  refine ⟨⟨t, u, m, fr_of f.pos f.co pm ?_⟩, pm, sa.le (by show (a * sgn b).natAbs ≤ _; rw [Int.natAbs_mul, sgnN, Nat.mul_one]; exact Nat.le_refl _), sb.le (by show (b * sgn b).natAbs ≤ _; rw [Int.natAbs_mul, sgnN, Nat.mul_one]; exact Nat.le_refl _)⟩
  show t * (b * sgn b) = a * sgn b * u
  have e := f.eq
  have : t * (b * sgn b) = (t * b) * sgn b := by grind
  rw [this, e]
  grind
theorem q_below {al : Bool} (hx : QAt C H p k x) (hy : QAt C H q j y) (l : k ≤ 9000) (l1 : j ≤ 9000) (f : Q (.bl (ltq x y || (al && eqq x y))) H) : sp_below C [.ref p, .ref q, .bl al] H Q E := by
  obtain ⟨⟨t, u, m1, f1⟩, px, a1, a2⟩ := hx
  obtain ⟨⟨t', u', m2, f2⟩, py, b1, b2⟩ := hy
  refine ⟨p, q, t, u, t', u', al, rfl, m1, m2, (a1.le f1.lt).mono l, (a2.le f1.lu).mono l, (b1.le f2.lt).mono l1, (b2.le f2.lu).mono l1, ?_⟩
  have r1 : Re (t, u) x := ⟨f1.pos, px, f1.eq⟩
  have r2 : Re (t', u') y := ⟨f2.pos, py, f2.eq⟩
  have e : lessA t u t' u' al = (ltq x y || (al && eqq x y)) := by
    rw [← ltq_congr r1 r2, ← eqq_congr r1 r2]
    rfl
  rw [e]
  exact f
end
/-! the same, behind the arguments -/
section
variable {C p q : Addr} {H : Hp} {Q : VK} {E : XK} {k j : Nat} {x y : Q2} {σ : L2.St}
theorem q_addT (hx : QAt C H p k x) (hy : QAt C H q j y) (l : k + j ≤ 8900) (l0 : 0 < k) (l1 : 0 < j) (f : ∀ (r : Addr) (H' : Hp), Same H H' → QAt C H' r (k + j + 1) (qadd x y) → Q (.ref r) H') :
    tNil σ H (fun xs H2 => sp_bin2 C (fun t u t' u' => t * u' + t' * u) (fun t u t' u' => u * u') (.ref p :: ((.ref q :: xs) ++ [])) H2 Q E) := q_add (E := E) hx hy l l0 l1 f
theorem q_subT (hx : QAt C H p k x) (hy : QAt C H q j y) (l : k + j ≤ 8900) (l0 : 0 < k) (l1 : 0 < j) (f : ∀ (r : Addr) (H' : Hp), Same H H' → QAt C H' r (k + j + 1) (qsub x y) → Q (.ref r) H') :
    tNil σ H (fun xs H2 => sp_bin2 C (fun t u t' u' => t * u' - t' * u) (fun t u t' u' => u * u') (.ref p :: ((.ref q :: xs) ++ [])) H2 Q E) := q_sub (E := E) hx hy l l0 l1 f
theorem q_mulT (hx : QAt C H p k x) (hy : QAt C H q j y) (l : k + j ≤ 8900) (l0 : 0 < k) (l1 : 0 < j) (f : ∀ (r : Addr) (H' : Hp), Same H H' → QAt C H' r (k + j + 1) (qmul x y) → Q (.ref r) H') :
    tNil σ H (fun xs H2 => sp_bin2 C (fun t u t' u' => t * t') (fun t u t' u' => u * u') (.ref p :: ((.ref q :: xs) ++ [])) H2 Q E) := q_mul (E := E) hx hy l l0 l1 f
theorem q_prt2T (hx : QAt C H p k x) (l : k + 10 ≤ 8900) (l0 : 0 < k) (f : ∀ (r : Addr) (H' : Hp), Same H H' → QAt C H' r (k + 10 + 1) (qprt x 2) → Q (.ref r) H') :
    tNil σ H (fun xs H2 => sp_part2 C (.ref p :: (xs ++ [.int 2])) H2 Q E) := q_prt (E := E) (j := 10) hx (by decide) (by decide) l l0 (by decide) f
theorem q_belowT (hx : QAt C H p k x) (hy : QAt C H q j y) (l : k ≤ 9000) (l1 : j ≤ 9000) (f : Q (.bl (ltq x y)) H) :
    tNil σ H (fun xs H2 => sp_below C (.ref p :: ((.ref q :: xs) ++ [.bl false])) H2 Q E) := q_below (E := E) (al := false) hx hy l l1 (by rw [Bool.false_and, Bool.or_false]; exact f)
theorem q_belowA (hx : QAt C H p k x) (hy : QAt C H q j y) (l : k ≤ 9000) (l1 : j ≤ 9000) (f : Q (.bl (ltq x y || eqq x y)) H) :
    tCons (tC (.bl true)) tNil σ H (fun xs H2 => sp_below C (.ref p :: ((.ref q :: xs) ++ [])) H2 Q E) := q_below (E := E) (al := true) hx hy l l1 (by rw [Bool.true_and]; exact f)
end
/-! ### sums keep the order; the midst lies between -/
def qhalf (x y : Q2) : Q2 := qprt (qadd x y) 2
theorem qhalf_eq (x y : Q2) : qhalf x y = (x.1 * y.2 + y.1 * x.2, x.2 * y.2 * 2) := by
  unfold qhalf qprt qadd
  have : sgn 2 = 1 := by decide
  rw [this, Int.mul_one, Int.mul_one]
theorem half_lo {x y : Q2} (hx : 0 < x.2) (hy : 0 < y.2) : ltq x (qhalf x y) = ltq x y ∧ ltq (qhalf x y) y = ltq x y ∧ eqq (qhalf x y) x = eqq x y ∧ eqq x (qhalf x y) = eqq x y := by
  rw [qhalf_eq]
  unfold ltq eqq
  have e1 : x.1 * (x.2 * y.2 * 2) = (2 * (x.1 * y.2)) * x.2 := by grind
  have e2 : (x.1 * y.2 + y.1 * x.2) * x.2 = (x.1 * y.2 + y.1 * x.2) * x.2 := rfl
  have e3 : y.1 * (x.2 * y.2 * 2) = (2 * (y.1 * x.2)) * y.2 := by grind
  refine ⟨decide_eq_decide.mpr ?_, decide_eq_decide.mpr ?_, decide_eq_decide.mpr ?_, decide_eq_decide.mpr ?_⟩
  · show x.1 * (x.2 * y.2 * 2) < (x.1 * y.2 + y.1 * x.2) * x.2 ↔ _
    rw [e1]
    exact ⟨fun h => by have := Int.lt_of_mul_lt_mul_right h (Int.le_of_lt hx); omega, fun h => Int.mul_lt_mul_of_pos_right (by omega) hx⟩
  · show (x.1 * y.2 + y.1 * x.2) * y.2 < y.1 * (x.2 * y.2 * 2) ↔ _
    rw [e3]
    exact ⟨fun h => by have := Int.lt_of_mul_lt_mul_right h (Int.le_of_lt hy); omega, fun h => Int.mul_lt_mul_of_pos_right (by omega) hy⟩
  · show (x.1 * y.2 + y.1 * x.2) * x.2 = x.1 * (x.2 * y.2 * 2) ↔ _
    rw [e1]
    exact ⟨fun h => by have := Int.eq_of_mul_eq_mul_right (by omega) h; omega, fun h => by rw [h]; grind⟩
  · show x.1 * (x.2 * y.2 * 2) = (x.1 * y.2 + y.1 * x.2) * x.2 ↔ _
    rw [e1]
    exact ⟨fun h => by have := Int.eq_of_mul_eq_mul_right (by omega) h; omega, fun h => by rw [h]; grind⟩
/-! ### numbers of at most twelve figures -/
/-! ### constants by their signs -/
/-! ### a comprehension over a text -/
end My
namespace My
open PySem PySem.Spec PyProof.Rows L2
/-! ### comprehensions over anything that is walked -/
section
variable {J : It} {n : Nat} {G : Hp → Prop} {Y : Nat → Hp → V → Hp → Prop} {g : TG} {tt : TT} {te : TE} {vs : List Nat} {σ : L2.St} {H1 : Hp} {D : Addr} {Qd : Hp → Prop}
/-- the elements are known: z some y is told, z none is left out -/
theorem lcz (w : Walk J n G Y) (hGs : ∀ H H', G H → Same H H' → G H') (zs : List (Option V)) (hlen : zs.length = n) (hz : n < sizeLine) (hG : G H1) (hD : H1 D = none)
    (hs : ∀ (i : Nat) (x : V) (H H' : Hp) (z : Option V) (N : VK) (M : Hp → Prop), i < n → zs[i]? = some z → Same H1 H → Y i H x H' → (∀ y H4, z = some y → Same H H4 → N y H4) → (∀ H4, z = none → Same H H4 → M H4) →
      g x (wipe σ vs) H' fun σ2 H2 => wipe σ2 vs = wipe σ vs ∧ tt σ2 H2 fun b H3 => if b = true then te σ2 H3 N else M H3)
    (hd : ∀ H, Same H1 H → H D = some (.lst (zs.filterMap _root_.id)) → Qd H) :
    ∃ W : Nat → Nat → Hp → Prop, (∃ m, W 0 m (upd H1 D (.lst []))) ∧ ∀ i m H, W i m H →
      (J.stop i H ∧ Qd H) ∨ (J.go i H ∧ ∃ Nx : Hp → Prop, (∀ H', Nx H' → ∃ m', m' < m ∧ W (i + 1) m' H') ∧ ∀ x H', J.yld i H x H' → g x (wipe σ vs) H' fun σ2 H2 => wipe σ2 vs = wipe σ vs ∧ tt σ2 H2 fun b H3 =>
        if b = true then te σ2 H3 fun y H4 => ∃ acc, H4 D = some (.lst acc) ∧ acc.length < sizeLine ∧ Nx (upd H4 D (.lst (acc ++ [y]))) else Nx H3) := by
  refine lc_it w (fun i H => Same H1 H ∧ H D = some (.lst ((zs.take i).filterMap _root_.id))) ⟨same1 hD, upd_same⟩ (fun i H _ p => hGs _ _ hG p.1) (fun i x H H' hi p y => ?_) (fun H p => hd H p.1 ?_)
  · have hi2 : i < zs.length := by omega
    have tk : ∀ z, zs[i]? = some z → (zs.take (i + 1)).filterMap _root_.id = (zs.take i).filterMap _root_.id ++ z.toList := fun z e => by
      rw [List.take_add_one, e, List.filterMap_append]
      cases z <;> rfl
    have ez : zs[i]? = some zs[i] := List.getElem?_eq_getElem hi2
    refine hs i x H H' zs[i] _ _ hi ez p.1 y (fun v H4 e s4 => ⟨_, s4 _ _ p.2, ?_, ?_, ?_⟩) (fun H4 e s4 => ⟨p.1.trans s4, ?_⟩)
    · refine Nat.lt_of_le_of_lt (List.length_filterMap_le _ _) ?_
      rw [List.length_take]; omega
    · intro c o ec
      rw [upd_ne (ne_of_none ec hD)]
      exact s4 _ _ (p.1 _ _ ec)
    · rw [upd_same, tk _ ez, e]
      rfl
    · rw [tk _ ez, e, Option.toList_none, List.append_nil]
      exact s4 _ _ p.2
  · have e := p.2
    rw [← hlen, List.take_length] at e
    exact e
/-- the elements are told by what holds of them -/
theorem lcr (w : Walk J n G Y) (hGs : ∀ H H', G H → Same H H' → G H') (R : Nat → Hp → V → Prop) (hR : ∀ i H H' y, R i H y → Nl H H' → R i H' y) (hz : n < sizeLine) (hG : G H1) (hD : H1 D = none)
    (hs : ∀ (i : Nat) (x : V) (H H' : Hp) (N : VK) (M : Hp → Prop), i < n → Same H1 H → Y i H x H' → (∀ y H4, Same H H4 → R i H4 y → N y H4) →
      g x (wipe σ vs) H' fun σ2 H2 => wipe σ2 vs = wipe σ vs ∧ tt σ2 H2 fun b H3 => if b = true then te σ2 H3 N else M H3)
    (hd : ∀ H ys, Same H1 H → H D = some (.lst ys) → ys.length = n → (∀ i y, ys[i]? = some y → R i H y) → Qd H) :
    ∃ W : Nat → Nat → Hp → Prop, (∃ m, W 0 m (upd H1 D (.lst []))) ∧ ∀ i m H, W i m H →
      (J.stop i H ∧ Qd H) ∨ (J.go i H ∧ ∃ Nx : Hp → Prop, (∀ H', Nx H' → ∃ m', m' < m ∧ W (i + 1) m' H') ∧ ∀ x H', J.yld i H x H' → g x (wipe σ vs) H' fun σ2 H2 => wipe σ2 vs = wipe σ vs ∧ tt σ2 H2 fun b H3 =>
        if b = true then te σ2 H3 fun y H4 => ∃ acc, H4 D = some (.lst acc) ∧ acc.length < sizeLine ∧ Nx (upd H4 D (.lst (acc ++ [y]))) else Nx H3) := by
  refine lc_it w (fun i H => Same H1 H ∧ ∃ ys, H D = some (.lst ys) ∧ ys.length = i ∧ ∀ j y, ys[j]? = some y → R j H y) ⟨same1 hD, [], upd_same, rfl, fun j y hy => by simp at hy⟩ (fun i H _ p => hGs _ _ hG p.1) (fun i x H H' hi p y => ?_) (fun H p => ?_)
  · obtain ⟨s1, ys, h1, h2, h3⟩ := p
    refine hs i x H H' _ _ hi s1 y (fun v H4 s4 r4 => ⟨ys, s4 _ _ h1, by omega, ?_, ys ++ [v], upd_same, by rw [List.length_append, h2]; rfl, ?_⟩)
    · intro c o ec
      rw [upd_ne (ne_of_none ec hD)]
      exact s4 _ _ (s1 _ _ ec)
    · intro j z hj
      have n4 : Nl H4 (upd H4 D (.lst (ys ++ [v]))) := Nl.put (s4 _ _ h1)
      by_cases hlt : j < ys.length
      · rw [List.getElem?_append_left hlt] at hj
        exact hR _ _ _ _ (hR _ _ _ _ (h3 j z hj) (Nl.of s4)) n4
      · have hj2 : j = ys.length := by
          have := (List.getElem?_eq_some_iff.mp hj).1
          rw [List.length_append, List.length_singleton] at this
          omega
        subst hj2
        rw [List.getElem?_append_right (Nat.le_refl _), Nat.sub_self] at hj
        cases hj
        rw [h2]
        exact hR _ _ _ _ r4 n4
  · obtain ⟨s1, ys, h1, h2, h3⟩ := p
    exact hd H ys s1 h1 h2 h3
end
/-! ### several Measures -/
/-- the values ps are Measures of the fractions zs -/
structure Mks (C : Addr) (H : Hp) (k : Nat) (ps : List V) (zs : List Q2) : Prop where
  len : ps.length = zs.length
  all : ∀ (i : Nat) (v : V) (z : Q2), ps[i]? = some v → zs[i]? = some z → ∃ p, v = V.ref p ∧ QAt C H p k z
section
variable {C : Addr} {H H' : Hp} {k : Nat} {ps : List V} {zs : List Q2} {v : V}
theorem Mks.same (m : Mks C H k ps zs) (s : Same H H') : Mks C H' k ps zs := ⟨m.len, fun i v z h1 h2 => by
  obtain ⟨p, e, q⟩ := m.all i v z h1 h2
  exact ⟨p, e, q.same s⟩⟩
theorem Mks.kp {hd : Addr} {n : Nat} (m : Mks C H k ps zs) (hh : HandAt H hd n) (s : Kp hd H H') : Mks C H' k ps zs := ⟨m.len, fun i v z h1 h2 => by
  obtain ⟨p, e, q⟩ := m.all i v z h1 h2
  exact ⟨p, e, q.kp hh s⟩⟩
theorem Mks.at (m : Mks C H k ps zs) {i : Nat} {z : Q2} (h : zs[i]? = some z) : ∃ p, ps[i]? = some (.ref p) ∧ QAt C H p k z := by
  have hi : i < ps.length := by rw [m.len]; exact (List.getElem?_eq_some_iff.mp h).1
  obtain ⟨p, e, q⟩ := m.all i _ z (List.getElem?_eq_getElem hi) h
  exact ⟨p, by rw [List.getElem?_eq_getElem hi, e], q⟩
theorem Mks.of (m : Mks C H k ps zs) {i : Nat} {v : V} (h : ps[i]? = some v) : ∃ p z, v = .ref p ∧ zs[i]? = some z ∧ QAt C H p k z := by
  have hi : i < zs.length := by rw [← m.len]; exact (List.getElem?_eq_some_iff.mp h).1
  obtain ⟨p, e, q⟩ := m.all i v _ h (List.getElem?_eq_getElem hi)
  exact ⟨p, _, e, List.getElem?_eq_getElem hi, q⟩
/-- None, or a Measure -/
def QO (C : Addr) (H : Hp) (k : Nat) (v : V) : Option Q2 → Prop
  | none => v = .non
  | some z => ∃ p, v = .ref p ∧ QAt C H p k z
theorem QO.same : ∀ {e : Option Q2}, QO C H k v e → Same H H' → QO C H' k v e
  | none, h, _ => h
  | some _, ⟨p, h1, h2⟩, s => ⟨p, h1, h2.same s⟩
theorem QO.kp {hd : Addr} {n : Nat} : ∀ {e : Option Q2}, QO C H k v e → HandAt H hd n → Kp hd H H' → QO C H' k v e
  | none, h, _, _ => h
  | some _, ⟨p, h1, h2⟩, hh, s => ⟨p, h1, h2.kp hh s⟩
/-- the exact numbers of such a Measure -/
theorem QAt.low {p : Addr} {z : Q2} (q : QAt C H p k z) (l : k ≤ 4000) : ∃ a : Q2, MAt C H p a.1 a.2 ∧ Low a ∧ Re a z := by
  obtain ⟨⟨t, u, m, f⟩, h1, h2, h3⟩ := q
  exact ⟨(t, u), m, ⟨f.pos, f.co, (h2.le f.lt).mono l, (h3.le f.lu).mono l⟩, f.pos, h1, f.eq⟩
theorem QO.low (l : k ≤ 4000) : ∀ {e : Option Q2}, QO C H k v e → ∃ m, MsV C H v m ∧ LowO m ∧ ReO m e
  | none, h => ⟨none, h, trivial, trivial⟩
  | some _, ⟨p, h1, h2⟩ => by
    obtain ⟨a, ma, la, ra⟩ := h2.low l
    exact ⟨some a, ⟨p, h1, ma⟩, la, ra⟩
theorem QAt.of {p : Addr} {a z : Q2} (m : MAt C H p a.1 a.2) (l : Low a) (r : Re a z) (s1 : Sz k z.1) (s2 : Sz k z.2) : QAt C H p k z :=
  ⟨⟨a.1, a.2, m, fr_of l.pos l.co r.2.1 r.2.2⟩, r.2.1, s1, s2⟩
end
/-! ### a Ladder -/
def lf (T : V) (r : Str) (l h : V) : List (Str × V) := [("marks", T), ("rule", .str r), ("least", l), ("most", h)]
theorem lf_put (T : V) (r : Str) (l h : V) : putF "most" h (putF "least" l (putF "rule" (.str r) (putF "marks" T []))) = lf T r l h := by
  have e1 : putF ("rule" : Str) (.str r) (putF ("marks" : Str) T []) = ([("marks", T), ("rule", .str r)] : List (Str × V)) := by
    show (if ("marks" : Str) = "rule" then [(("marks" : Str), V.str r)] else (("marks" : Str), T) :: putF "rule" (.str r) []) = _
    rw [if_neg (by decide +kernel)] <;> rfl
  have e2 : putF ("least" : Str) l [("marks", T), ("rule", .str r)] = ([("marks", T), ("rule", .str r), ("least", l)] : List (Str × V)) := by
    show (if ("marks" : Str) = "least" then _ else (("marks" : Str), T) :: (if ("rule" : Str) = "least" then _ else (("rule" : Str), V.str r) :: putF "least" l [])) = _
    rw [if_neg (by decide +kernel), if_neg (by decide +kernel)] <;> rfl
  have e3 : putF ("most" : Str) h [("marks", T), ("rule", .str r), ("least", l)] = lf T r l h := by
    show (if ("marks" : Str) = "most" then _ else (("marks" : Str), T) :: (if ("rule" : Str) = "most" then _ else (("rule" : Str), V.str r) :: (if ("least" : Str) = "most" then _ else (("least" : Str), l) :: putF "most" h []))) = _
    rw [if_neg (by decide +kernel), if_neg (by decide +kernel), if_neg (by decide +kernel)] <;> rfl
  rw [e1, e2, e3]
section
variable (T : V) (r : Str) (l h : V)
theorem lf_marks : (lf T r l h).lookup ("marks" : Str) = some T := by
  rw [← lf_put, lookup_putF, if_neg (by decide +kernel), lookup_putF, if_neg (by decide +kernel), lookup_putF, if_neg (by decide +kernel), lookup_putF, if_pos rfl]
theorem lf_rule : (lf T r l h).lookup ("rule" : Str) = some (.str r) := by
  rw [← lf_put, lookup_putF, if_neg (by decide +kernel), lookup_putF, if_neg (by decide +kernel), lookup_putF, if_pos rfl]
theorem lf_least : (lf T r l h).lookup ("least" : Str) = some l := by
  rw [← lf_put, lookup_putF, if_neg (by decide +kernel), lookup_putF, if_pos rfl]
theorem lf_most : (lf T r l h).lookup ("most" : Str) = some h := by
  rw [← lf_put, lookup_putF, if_pos rfl]
theorem lf_no {m : Str} (h1 : ¬ m = "marks") (h2 : ¬ m = "rule") (h3 : ¬ m = "least") (h4 : ¬ m = "most") : (lf T r l h).lookup m = none := by
  rw [← lf_put, lookup_putF, if_neg h4, lookup_putF, if_neg h3, lookup_putF, if_neg h2, lookup_putF, if_neg h1] <;> rfl
end
/-- rows that rise -/
def RiseQ (zs : List Q2) : Prop := ∀ i a b, zs[i]? = some a → zs[i + 1]? = some b → ltq a b = true
/-- the first row that isn't above the one ahead -/
def SlipQ (zs : List Q2) : Option Nat → Prop
  | none => RiseQ zs
  | some n => 1 ≤ n ∧ n < zs.length ∧ (∀ a b, zs[n - 1]? = some a → zs[n]? = some b → ltq a b = false) ∧ ∀ i a b, i + 1 < n → zs[i]? = some a → zs[i + 1]? = some b → ltq a b = true
def optI : Option Nat → V
  | none => .non
  | some n => .int (n : Int)
def leq (a b : Q2) : Bool := ltq a b || eqq a b
/-- least isn't above most -/
def spanB : Option Q2 → Option Q2 → Bool
  | some a, some b => !ltq b a
  | _, _ => true
def IsRule (r : Str) : Prop := r = "up" ∨ r = "down" ∨ r = "near"
structure LadAt (K : PySem.W.Frag) (CM CL : Addr) (H : Hp) (p : Addr) (k : Nat) (zs : List Q2) (r : Str) (lo hi : Option Q2) : Prop where
  ob : ∃ dx T ps l h, H p = some (.ins CL dx (lf (.ref T) r l h)) ∧ SqT K H T ps ∧ Mks CM H k ps zs ∧ QO CM H k l lo ∧ QO CM H k h hi
  len0 : 0 < zs.length
  len1 : zs.length ≤ 24
  rise : RiseQ zs
  rule : IsRule r
  span : spanB lo hi = true
theorem LadAt.same {K : PySem.W.Frag} {CM CL p : Addr} {H H' : Hp} {k : Nat} {zs : List Q2} {r : Str} {lo hi : Option Q2} (a : LadAt K CM CL H p k zs r lo hi) (s : Same H H') : LadAt K CM CL H' p k zs r lo hi := by
  obtain ⟨⟨dx, T, ps, l, h, h1, h2, h3, h4, h5⟩, a1, a2, a3, a4, a5⟩ := a
  exact ⟨⟨dx, T, ps, l, h, s _ _ h1, s.sqt h2, h3.same s, h4.same s, h5.same s⟩, a1, a2, a3, a4, a5⟩
theorem LadAt.raw {K : PySem.W.Frag} {CM CL p : Addr} {H : Hp} {k : Nat} {zs : List Q2} {r : Str} {lo hi : Option Q2} (a : LadAt K CM CL H p k zs r lo hi) {m : Str} (h1 : ¬ m = "marks") (h2 : ¬ m = "rule") (h3 : ¬ m = "least") (h4 : ¬ m = "most") : ∃ dx fs, H p = some (.ins CL dx fs) ∧ fs.lookup m = none := by
  obtain ⟨⟨dx, T, ps, l, h, e1, _⟩, _⟩ := a
  exact ⟨dx, _, e1, lf_no _ _ _ _ h1 h2 h3 h4⟩
/-- the midsts of neighbours -/
def midq : List Q2 → List Q2
  | a :: b :: r => qhalf a b :: midq (b :: r)
  | _ => []
def sizeR (zs : List Q2) (r : Str) (x : Q2) : Int :=
  if r = "up" then (zs.countP (fun a => ltq a x) : Nat) else if r = "down" then (zs.countP (fun a => leq a x) : Nat) - 1 else ((midq zs).countP (fun a => leq a x) : Nat)
def loOk : Option Q2 → Q2 → Bool
  | none, _ => true
  | some a, x => !ltq x a
def hiOk : Option Q2 → Q2 → Bool
  | none, _ => true
  | some b, x => !ltq b x
def inO (lo hi : Option Q2) (x : Q2) : Bool := loOk lo x && hiOk hi x
def sizeQ (zs : List Q2) (r : Str) (lo hi : Option Q2) (x : Q2) : Option Nat :=
  if inO lo hi x = true then (if 0 ≤ sizeR zs r x ∧ sizeR zs r x < zs.length then some (sizeR zs r x).toNat else none) else none
theorem sizeQ_out {zs : List Q2} {r : Str} {lo hi : Option Q2} {x : Q2} (h : inO lo hi x = false) : none = sizeQ zs r lo hi x := by
  unfold sizeQ
  rw [h]
  rfl
theorem inO_lo {a : Q2} {hi : Option Q2} {x : Q2} (h : ltq x a = true) : inO (some a) hi x = false := by
  show (!ltq x a && hiOk hi x) = false
  rw [h]; rfl
theorem inO_hi {b : Q2} {lo : Option Q2} {x : Q2} (h : ltq b x = true) : inO lo (some b) x = false := by
  show (loOk lo x && !ltq b x) = false
  rw [h]; cases loOk lo x <;> rfl
theorem midq_len : ∀ zs : List Q2, (midq zs).length = zs.length - 1
  | [] => rfl
  | [_] => rfl
  | a :: b :: r => by
    show (midq (b :: r)).length + 1 = _
    rw [midq_len (b :: r)]
    simp
theorem midq_get : ∀ (zs : List Q2) (i : Nat) (a b : Q2), zs[i]? = some a → zs[i + 1]? = some b → (midq zs)[i]? = some (qhalf a b)
  | [], i, a, b, h, _ => by simp at h
  | [x], i, a, b, _, h => by simp at h
  | x :: y :: r, 0, a, b, h1, h2 => by
    cases h1; cases h2; rfl
  | x :: y :: r, i + 1, a, b, h1, h2 => by
    have := midq_get (y :: r) i a b (by simpa using h1) (by simpa using h2)
    simpa [midq] using this
theorem atI_of {xs : List V} {z : Int} {n : Nat} {v : V} (e : z = (n : Int)) (h : xs[n]? = some v) : atI xs z = some v := by
  rw [e]; exact atI_nat h
theorem ge2 {n : Nat} {zs : List Q2} (h : n < zs.length) : ∃ a, zs[n]? = some a := ⟨_, List.getElem?_eq_getElem h⟩
/-- a constant of the module: a tuple of texts -/
def strsOf : List Value → Option (List Str)
  | [] => some []
  | .str x _ :: r => (strsOf r).map (x :: ·)
  | _ => none
theorem strsOf_ok : ∀ {l : List Value} {ss : List Str}, strsOf l = some ss → Vals (ss.map V.str) l
  | [], ss, h => by cases h; exact .nil
  | .str x t :: r, ss, h => by
    cases e : strsOf r with
    | none => simp [strsOf, e] at h
    | some l =>
      simp [strsOf, e] at h
      subst h
      exact .cons ⟨t, rfl⟩ (strsOf_ok e)
def tupB (x : Str) (ss : List Str) : PySem.W.Frag → Bool := fun K => match K.lookup (He.ga K x) with
  | some ⟨.type "tuple", _, .seq its _, _⟩ => decide (its.size ≤ sizeLine) && decide (strsOf its.toList = some ss)
  | _ => false
theorem tup_ok {x : Str} {ss : List Str} {K : PySem.W.Frag} (c : tupB x ss K = true) : ∀ H, SqT K H (He.ga K x) (ss.map V.str) := by
  intro H
  unfold tupB at c
  split at c
  · rename_i d its n sl e
    obtain ⟨c1, c2⟩ := He.ba c
    exact .inr ⟨_, its, n, e, rfl, rfl, of_decide_eq_true c1, strsOf_ok (of_decide_eq_true c2)⟩
  · cases c
theorem tyTup {K : PySem.W.Frag} {H : Hp} {T : Addr} {ps : List V} (h : SqT K H T ps) : TyX K H (.ref T) (.type "tuple") := by
  rcases h with (h | ⟨o, h⟩) | ⟨o, its, n, h, c, _⟩
  · exact .base (.tup h)
  · exact .fTuple h
  · exact .kTuple h c
/-! ### what the defs of ladders promise -/
def sp_slip (K : PySem.W.Frag) (CM : Addr) : Sp := fun vs H Q _ => ∃ (T : Addr) (k : Nat) (ps : List V) (zs : List Q2), vs = [.ref T] ∧ SqT K H T ps ∧ Mks CM H k ps zs ∧ k ≤ 9000 ∧ zs.length ≤ 1000 ∧ ∀ o, SlipQ zs o → Q (optI o) H
def sp_isendQ (CM : Addr) : Sp := fun vs H Q _ => ∃ (v : V) (k : Nat) (e : Option Q2), vs = [v] ∧ QO CM H k v e ∧ Q (.bl true) H
def sp_arem (K : PySem.W.Frag) (CM : Addr) : Sp := fun vs H Q _ => ∃ (T : Addr) (k : Nat) (ps : List V) (zs : List Q2), vs = [.ref T] ∧ SqT K H T ps ∧ Mks CM H k ps zs ∧ 0 < zs.length ∧ zs.length ≤ 24 ∧ ∀ H', Same H H' → Q (.bl true) H'
def sp_isrule : Sp := fun vs H Q _ => ∃ r : Str, vs = [.str r] ∧ IsRule r ∧ Q (.bl true) H
def sp_linit (K : PySem.W.Frag) (CM CL : Addr) : Sp := fun vs H Q _ => ∃ (p dx T : Addr) (k : Nat) (ps : List V) (zs : List Q2) (r : Str) (l h : V) (lo hi : Option Q2), vs = [.ref p, .ref T, .str r, l, h] ∧ H p = some (.ins CL dx []) ∧ SqT K H T ps ∧ Mks CM H k ps zs ∧ k ≤ 4000 ∧ 0 < zs.length ∧ zs.length ≤ 24 ∧ RiseQ zs ∧ IsRule r ∧
  QO CM H k l lo ∧ QO CM H k h hi ∧ spanB lo hi = true ∧ ∀ H', H' p = some (.ins CL dx (lf (.ref T) r l h)) → (∀ q o, H q = some o → q ≠ p → H' q = some o) → Q .non H'
def sp_mids (K : PySem.W.Frag) (CM : Addr) : Sp := fun vs H Q _ => ∃ (T : Addr) (k : Nat) (ps : List V) (zs : List Q2), vs = [.ref T] ∧ SqT K H T ps ∧ Mks CM H k ps zs ∧ 0 < k ∧ k ≤ 1000 ∧ 0 < zs.length ∧ zs.length ≤ 24 ∧ ∀ (D : Addr) (ys : List V) (H' : Hp), Same H H' → H' D = some (.lst ys) → Mks CM H' (k + k + 1 + 10 + 1) ys (midq zs) → Q (.ref D) H'
def sp_sizeR (K : PySem.W.Frag) (CM : Addr) : Sp := fun vs H Q _ => ∃ (T q : Addr) (k : Nat) (ps : List V) (zs : List Q2) (r : Str) (x : Q2), vs = [.ref T, .str r, .ref q] ∧ SqT K H T ps ∧ Mks CM H k ps zs ∧ QAt CM H q k x ∧ 0 < k ∧ k ≤ 1000 ∧ 0 < zs.length ∧ zs.length ≤ 24 ∧ ∀ H', Same H H' → Q (.int (sizeR zs r x)) H'
def sp_size (K : PySem.W.Frag) (CM CL : Addr) : Sp := fun vs H Q _ => ∃ (p q : Addr) (k : Nat) (zs : List Q2) (r : Str) (lo hi : Option Q2) (x : Q2), vs = [.ref p, .ref q] ∧ LadAt K CM CL H p k zs r lo hi ∧ QAt CM H q k x ∧ 0 < k ∧ k ≤ 1000 ∧ ∀ H', Same H H' → Q (optI (sizeQ zs r lo hi x)) H'
/-- a Ladder is made -/
theorem lad_made {K : PySem.W.Frag} {CM CL T : Addr} {H : Hp} {Qa : Addr → Hp → Prop} {E : XK} {k : Nat} {ps : List V} {zs : List Q2} {r : Str} {l h : V} {lo hi : Option Q2} (hT : SqT K H T ps) (hm : Mks CM H k ps zs) (hk : k ≤ 4000) (l0 : 0 < zs.length) (l1 : zs.length ≤ 24) (ri : RiseQ zs) (ru : IsRule r)
    (q1 : QO CM H k l lo) (q2 : QO CM H k h hi) (sp : spanB lo hi = true) (f : ∀ (p : Addr) (H' : Hp), H p = none → Same H H' → LadAt K CM CL H' p k zs r lo hi → (∃ dx, H' p = some (.ins CL dx (lf (.ref T) r l h))) → Qa p H') :
    ∀ x dx, H x = none → H dx = none → dx ≠ x → sp_linit K CM CL [.ref x, .ref T, .str r, l, h] (upd (upd H dx (.own x)) x (.ins CL dx [])) (fun v H2 => v = .non ∧ Qa x H2) E := by
  intro x dx nx nd ne
  have s0 : Same H (upd (upd H dx (.own x)) x (.ins CL dx [])) := fun c o e => by
    rw [upd_ne (ne_of_none e nx)]
    exact up1 nd e
  refine ⟨x, dx, T, k, ps, zs, r, l, h, lo, hi, rfl, upd_same, s0.sqt hT, hm.same s0, hk, l0, l1, ri, ru, q1.same s0, q2.same s0, sp, fun H' hx kp => ⟨rfl, ?_⟩⟩
  have s1 : Same H H' := made_same nx nd kp
  exact f x H' nx s1 ⟨⟨dx, T, ps, l, h, hx, s1.sqt hT, hm.same s1, q1.same s1, q2.same s1⟩, l0, l1, ri, ru, sp⟩ ⟨dx, hx⟩
theorem zipF_len {f : Q2 → Bool} : ∀ {ps : List V} {zs : List Q2}, ps.length = zs.length → ((List.zipWith (fun (p : V) (z : Q2) => if f z then some p else none) ps zs).filterMap _root_.id).length = zs.countP f
  | [], [], _ => rfl
  | p :: ps, z :: zs, h => by
    have ih := zipF_len (f := f) (ps := ps) (zs := zs) (by simpa using h)
    rw [List.zipWith_cons_cons, List.countP_cons]
    cases e : f z
    · simpa using ih
    · simpa using ih
  | [], _ :: _, h => by simp at h
  | _ :: _, [], h => by simp at h
theorem zipF_get {f : Q2 → Bool} {ps : List V} {zs : List Q2} {i : Nat} {p : V} {z : Q2} {o : Option V} (h1 : ps[i]? = some p) (h2 : zs[i]? = some z) (h : (List.zipWith (fun (p : V) (z : Q2) => if f z then some p else none) ps zs)[i]? = some o) : o = if f z then some p else none := by
  rw [List.getElem?_zipWith, h1, h2] at h
  exact (Option.some.inj h).symm
theorem iteDT {c A B : Prop} [Decidable c] (hc : c) (h : A) : if decide c = true then A else B := by
  rw [if_pos (decide_eq_true hc)]; exact h
theorem iteDF {c A B : Prop} [Decidable c] (hc : ¬ c) (h : B) : if decide c = true then A else B := by
  rw [if_neg (by simpa using hc)]; exact h
theorem iteNT {c A B : Prop} [Decidable c] (hc : ¬ c) (h : A) : if (!decide c) = true then A else B := by
  rw [if_pos (by simpa using hc)]; exact h
section
variable {C H p k} {m : Str} {R : Prop}
theorem meth_q {x : Q2} (q : QAt C H p k x) (h1 : ¬ m = "top") (h2 : ¬ m = "bottom") (h : R) : ∃ a dx fs, V.ref p = .ref a ∧ H a = some (.ins C dx fs) ∧ fs.lookup m = none ∧ R := by
  obtain ⟨dx, fs, e1, e2⟩ := q.raw h1 h2
  exact ⟨p, dx, fs, rfl, e1, e2, h⟩
theorem meth_l {K : PySem.W.Frag} {CM : Addr} {zs : List Q2} {r : Str} {lo hi : Option Q2} (q : LadAt K CM C H p k zs r lo hi) (h1 : ¬ m = "marks") (h2 : ¬ m = "rule") (h3 : ¬ m = "least") (h4 : ¬ m = "most") (h : R) : ∃ a dx fs, V.ref p = .ref a ∧ H a = some (.ins C dx fs) ∧ fs.lookup m = none ∧ R := by
  obtain ⟨dx, fs, e1, e2⟩ := q.raw h1 h2 h3 h4
  exact ⟨p, dx, fs, rfl, e1, e2, h⟩
theorem meth_s {CM : Addr} {lo hi : Option Q2} {li hj : Bool} (q : StAt CM C H p lo hi li hj) (h1 : ¬ m = "low") (h2 : ¬ m = "high") (h3 : ¬ m = "low_in") (h4 : ¬ m = "high_in") (h : R) : ∃ a dx fs, V.ref p = .ref a ∧ H a = some (.ins C dx fs) ∧ fs.lookup m = none ∧ R := by
  obtain ⟨dx, fs, e1, e2⟩ := q.raw h1 h2 h3 h4
  exact ⟨p, dx, fs, rfl, e1, e2, h⟩
end
end My
namespace K48
open PySem PySem.Spec PyProof.Rows L2 My
/-! ### the text by places -/
def topS (i : Nat) : Stmt := PySem.Challenge.pw_sizeladders_k48_own_pairs.main.body.getD i (.Pass ⟨0, 0, 0, 0⟩)
abbrev s_is_whole : Stmt := (topS 8)
abbrev s_common_part : Stmt := (topS 10)
abbrev s_Measure_init : Stmt := (inClass (topS 12) 0)
abbrev s_Measure_plus : Stmt := (inClass (topS 12) 4)
abbrev s_Measure_minus : Stmt := (inClass (topS 12) 5)
abbrev s_Measure_times : Stmt := (inClass (topS 12) 6)
abbrev s_Measure_parted : Stmt := (inClass (topS 12) 7)
abbrev s_Measure_is_below : Stmt := (inClass (topS 12) 8)
abbrev s_is_measure_or_none : Stmt := (topS 13)
abbrev s_measure_or : Stmt := (topS 14)
abbrev s_slip_of : Stmt := (topS 16)
abbrev s_are_marks : Stmt := (topS 20)
abbrev s_is_rule : Stmt := (topS 21)
abbrev s_is_span : Stmt := (topS 22)
abbrev s_midsts_of : Stmt := (topS 23)
abbrev s_size_by_rule : Stmt := (topS 24)
abbrev s_Ladder_init : Stmt := (inClass (topS 26) 0)
abbrev s_Ladder_size : Stmt := (inClass (topS 26) 5)
abbrev s_Grid_init : Stmt := (inClass (topS 28) 0)
abbrev s_Grid_graded : Stmt := (inClass (topS 28) 3)
abbrev s_Grid_own : Stmt := (inClass (topS 28) 4)
abbrev s_l_hand : Stmt := (topS 30)
abbrev s_l_take : Stmt := (topS 31)
abbrev s_l_pick : Stmt := (topS 32)
abbrev s_l_plain : Stmt := (topS 33)
abbrev s_l_sum : Stmt := (topS 34)
abbrev s_l_less : Stmt := (topS 35)
abbrev s_l_measures : Stmt := (topS 36)
abbrev s_l_part : Stmt := (topS 37)
abbrev s_l_marks_of : Stmt := (topS 38)
abbrev s_l_grades : Stmt := (topS 39)
abbrev s_l_same : Stmt := (topS 40)
abbrev s_l_chart : Stmt := (topS 41)
abbrev s_l_ladder : Stmt := (topS 42)
abbrev s_l_size : Stmt := (topS 43)
abbrev s_l_own : Stmt := (topS 44)
abbrev s_l_near : Stmt := (topS 45)
abbrev s_law : Stmt := (topS 46)
abbrev N_is_whole : List Str := ["thing"]
abbrev p_is_whole : List Str := ["thing"]
theorem sc_is_whole : FnScope N_is_whole p_is_whole (defScope s_is_whole) := ⟨rfl, rfl, rfl, by decide +kernel, rfl, by decide +kernel, by decide +kernel⟩
abbrev N_common_part : List Str := ["one", "other", "great", "small"]
abbrev p_common_part : List Str := ["one", "other"]
theorem sc_common_part : FnScope N_common_part p_common_part (defScope s_common_part) := ⟨rfl, rfl, rfl, by decide +kernel, rfl, by decide +kernel, by decide +kernel⟩
abbrev N_Measure_init : List Str := ["self", "top", "bottom", "common"]
abbrev p_Measure_init : List Str := ["self", "top", "bottom"]
theorem sc_Measure_init : FnScope N_Measure_init p_Measure_init (defScope s_Measure_init) := ⟨rfl, rfl, rfl, by decide +kernel, rfl, by decide +kernel, by decide +kernel⟩
abbrev N_Measure_plus : List Str := ["self", "other"]
abbrev p_Measure_plus : List Str := ["self", "other"]
theorem sc_Measure_plus : FnScope N_Measure_plus p_Measure_plus (defScope s_Measure_plus) := ⟨rfl, rfl, rfl, by decide +kernel, rfl, by decide +kernel, by decide +kernel⟩
abbrev N_Measure_minus : List Str := ["self", "other"]
abbrev p_Measure_minus : List Str := ["self", "other"]
theorem sc_Measure_minus : FnScope N_Measure_minus p_Measure_minus (defScope s_Measure_minus) := ⟨rfl, rfl, rfl, by decide +kernel, rfl, by decide +kernel, by decide +kernel⟩
abbrev N_Measure_times : List Str := ["self", "other"]
abbrev p_Measure_times : List Str := ["self", "other"]
theorem sc_Measure_times : FnScope N_Measure_times p_Measure_times (defScope s_Measure_times) := ⟨rfl, rfl, rfl, by decide +kernel, rfl, by decide +kernel, by decide +kernel⟩
abbrev N_Measure_parted : List Str := ["self", "many"]
abbrev p_Measure_parted : List Str := ["self", "many"]
theorem sc_Measure_parted : FnScope N_Measure_parted p_Measure_parted (defScope s_Measure_parted) := ⟨rfl, rfl, rfl, by decide +kernel, rfl, by decide +kernel, by decide +kernel⟩
abbrev N_Measure_is_below : List Str := ["self", "other", "alike", "here", "there"]
abbrev p_Measure_is_below : List Str := ["self", "other", "alike"]
theorem sc_Measure_is_below : FnScope N_Measure_is_below p_Measure_is_below (defScope s_Measure_is_below) := ⟨rfl, rfl, rfl, by decide +kernel, rfl, by decide +kernel, by decide +kernel⟩
abbrev N_is_measure_or_none : List Str := ["thing"]
abbrev p_is_measure_or_none : List Str := ["thing"]
theorem sc_is_measure_or_none : FnScope N_is_measure_or_none p_is_measure_or_none (defScope s_is_measure_or_none) := ⟨rfl, rfl, rfl, by decide +kernel, rfl, by decide +kernel, by decide +kernel⟩
abbrev N_measure_or : List Str := ["thing", "number"]
abbrev p_measure_or : List Str := ["thing", "number"]
theorem sc_measure_or : FnScope N_measure_or p_measure_or (defScope s_measure_or) := ⟨rfl, rfl, rfl, by decide +kernel, rfl, by decide +kernel, by decide +kernel⟩
abbrev N_slip_of : List Str := ["rows", "number"]
abbrev p_slip_of : List Str := ["rows"]
theorem sc_slip_of : FnScope N_slip_of p_slip_of (defScope s_slip_of) := ⟨rfl, rfl, rfl, by decide +kernel, rfl, by decide +kernel, by decide +kernel⟩
abbrev N_are_marks : List Str := ["thing", "mark"]
abbrev p_are_marks : List Str := ["thing"]
theorem sc_are_marks : FnScope N_are_marks p_are_marks (defScope s_are_marks) := ⟨rfl, rfl, rfl, by decide +kernel, rfl, by decide +kernel, by decide +kernel⟩
abbrev N_is_rule : List Str := ["thing"]
abbrev p_is_rule : List Str := ["thing"]
theorem sc_is_rule : FnScope N_is_rule p_is_rule (defScope s_is_rule) := ⟨rfl, rfl, rfl, by decide +kernel, rfl, by decide +kernel, by decide +kernel⟩
abbrev N_is_span : List Str := ["least", "most"]
abbrev p_is_span : List Str := ["least", "most"]
theorem sc_is_span : FnScope N_is_span p_is_span (defScope s_is_span) := ⟨rfl, rfl, rfl, by decide +kernel, rfl, by decide +kernel, by decide +kernel⟩
abbrev N_midsts_of : List Str := ["marks", "at"]
abbrev p_midsts_of : List Str := ["marks"]
theorem sc_midsts_of : FnScope N_midsts_of p_midsts_of (defScope s_midsts_of) := ⟨rfl, rfl, rfl, by decide +kernel, rfl, by decide +kernel, by decide +kernel⟩
abbrev N_size_by_rule : List Str := ["marks", "rule", "measure", "mark", "midst"]
abbrev p_size_by_rule : List Str := ["marks", "rule", "measure"]
theorem sc_size_by_rule : FnScope N_size_by_rule p_size_by_rule (defScope s_size_by_rule) := ⟨rfl, rfl, rfl, by decide +kernel, rfl, by decide +kernel, by decide +kernel⟩
abbrev N_Ladder_init : List Str := ["self", "marks", "rule", "least", "most", "slip"]
abbrev p_Ladder_init : List Str := ["self", "marks", "rule", "least", "most"]
theorem sc_Ladder_init : FnScope N_Ladder_init p_Ladder_init (defScope s_Ladder_init) := ⟨rfl, rfl, rfl, by decide +kernel, rfl, by decide +kernel, by decide +kernel⟩
abbrev N_Ladder_size : List Str := ["self", "measure", "number"]
abbrev p_Ladder_size : List Str := ["self", "measure"]
theorem sc_Ladder_size : FnScope N_Ladder_size p_Ladder_size (defScope s_Ladder_size) := ⟨rfl, rfl, rfl, by decide +kernel, rfl, by decide +kernel, by decide +kernel⟩
abbrev N_Grid_init : List Str := ["self", "lengths", "breadths", "grade"]
abbrev p_Grid_init : List Str := ["self", "lengths", "breadths", "grade"]
theorem sc_Grid_init : FnScope N_Grid_init p_Grid_init (defScope s_Grid_init) := ⟨rfl, rfl, rfl, by decide +kernel, rfl, by decide +kernel, by decide +kernel⟩
abbrev N_Grid_graded : List Str := ["self", "number"]
abbrev p_Grid_graded : List Str := ["self", "number"]
theorem sc_Grid_graded : FnScope N_Grid_graded p_Grid_graded (defScope s_Grid_graded) := ⟨rfl, rfl, rfl, by decide +kernel, rfl, by decide +kernel, by decide +kernel⟩
abbrev N_Grid_own : List Str := ["self", "foot", "length", "breadth", "long", "broad"]
abbrev p_Grid_own : List Str := ["self", "foot"]
theorem sc_Grid_own : FnScope N_Grid_own p_Grid_own (defScope s_Grid_own) := ⟨rfl, rfl, rfl, by decide +kernel, rfl, by decide +kernel, by decide +kernel⟩
abbrev N_l_hand : List Str := ["_law_script", "_law_k", "_law_cell", "_law_own_here"]
abbrev p_l_hand : List Str := ["_law_script", "_law_k"]
theorem sc_l_hand : FnScope N_l_hand p_l_hand (defScope s_l_hand) := ⟨rfl, rfl, rfl, by decide +kernel, rfl, by decide +kernel, by decide +kernel⟩
abbrev N_l_take : List Str := ["_law_hand_here", "_law_many", "_law_digit", "_law_mixed"]
abbrev p_l_take : List Str := ["_law_hand_here", "_law_many"]
theorem sc_l_take : FnScope N_l_take p_l_take (defScope s_l_take) := ⟨rfl, rfl, rfl, by decide +kernel, rfl, by decide +kernel, by decide +kernel⟩
abbrev N_l_pick : List Str := ["_law_hand_here", "_law_some"]
abbrev p_l_pick : List Str := ["_law_hand_here", "_law_some"]
theorem sc_l_pick : FnScope N_l_pick p_l_pick (defScope s_l_pick) := ⟨rfl, rfl, rfl, by decide +kernel, rfl, by decide +kernel, by decide +kernel⟩
abbrev N_l_plain : List Str := ["_law_top", "_law_bottom", "_law_one", "_law_other"]
abbrev p_l_plain : List Str := ["_law_top", "_law_bottom"]
theorem sc_l_plain : FnScope N_l_plain p_l_plain (defScope s_l_plain) := ⟨rfl, rfl, rfl, by decide +kernel, rfl, by decide +kernel, by decide +kernel⟩
abbrev N_l_sum : List Str := ["_law_a", "_law_b"]
abbrev p_l_sum : List Str := ["_law_a", "_law_b"]
theorem sc_l_sum : FnScope N_l_sum p_l_sum (defScope s_l_sum) := ⟨rfl, rfl, rfl, by decide +kernel, rfl, by decide +kernel, by decide +kernel⟩
abbrev N_l_less : List Str := ["_law_a", "_law_b"]
abbrev p_l_less : List Str := ["_law_a", "_law_b"]
theorem sc_l_less : FnScope N_l_less p_l_less (defScope s_l_less) := ⟨rfl, rfl, rfl, by decide +kernel, rfl, by decide +kernel, by decide +kernel⟩
abbrev N_l_measures : List Str := ["_law_some", "_law_top", "_law_bottom"]
abbrev p_l_measures : List Str := ["_law_some"]
theorem sc_l_measures : FnScope N_l_measures p_l_measures (defScope s_l_measures) := ⟨rfl, rfl, rfl, by decide +kernel, rfl, by decide +kernel, by decide +kernel⟩
abbrev N_l_part : List Str := ["_law_hand_here"]
abbrev p_l_part : List Str := ["_law_hand_here"]
theorem sc_l_part : FnScope N_l_part p_l_part (defScope s_l_part) := ⟨rfl, rfl, rfl, by decide +kernel, rfl, by decide +kernel, by decide +kernel⟩
abbrev N_l_marks_of : List Str := ["_law_hand_here", "_law_most", "_law_alike", "_law_many", "_law_step", "_law_found", "_law_k"]
abbrev p_l_marks_of : List Str := ["_law_hand_here", "_law_most"]
theorem sc_l_marks_of : FnScope N_l_marks_of p_l_marks_of (defScope s_l_marks_of) := ⟨rfl, rfl, rfl, by decide +kernel, rfl, by decide +kernel, by decide +kernel⟩
abbrev N_l_grades : List Str := ["_law_hand_here"]
abbrev p_l_grades : List Str := ["_law_hand_here"]
theorem sc_l_grades : FnScope N_l_grades p_l_grades (defScope s_l_grades) := ⟨rfl, rfl, rfl, by decide +kernel, rfl, by decide +kernel, by decide +kernel⟩
abbrev N_l_same : List Str := ["_law_found", "_law_due", "_law_one", "_law_other"]
abbrev p_l_same : List Str := ["_law_found", "_law_due"]
theorem sc_l_same : FnScope N_l_same p_l_same (defScope s_l_same) := ⟨rfl, rfl, rfl, by decide +kernel, rfl, by decide +kernel, by decide +kernel⟩
abbrev N_l_chart : List Str := ["_law_hand_here", "_law_marks", "_law_word", "_law_low", "_law_high", "_law_least", "_law_most"]
abbrev p_l_chart : List Str := ["_law_hand_here", "_law_marks"]
theorem sc_l_chart : FnScope N_l_chart p_l_chart (defScope s_l_chart) := ⟨rfl, rfl, rfl, by decide +kernel, rfl, by decide +kernel, by decide +kernel⟩
abbrev N_l_ladder : List Str := ["_law_marks", "_law_chart_here", "_law_ends", "_law_one"]
abbrev p_l_ladder : List Str := ["_law_marks", "_law_chart_here"]
theorem sc_l_ladder : FnScope N_l_ladder p_l_ladder (defScope s_l_ladder) := ⟨rfl, rfl, rfl, by decide +kernel, rfl, by decide +kernel, by decide +kernel⟩
abbrev N_l_size : List Str := ["_law_marks", "_law_chart_here", "_law_here", "_law_word", "_law_least", "_law_most", "_law_some", "_law_size_here", "_law_k", "_law_both", "_law_mark"]
abbrev p_l_size : List Str := ["_law_marks", "_law_chart_here", "_law_here"]
theorem sc_l_size : FnScope N_l_size p_l_size (defScope s_l_size) := ⟨rfl, rfl, rfl, by decide +kernel, rfl, by decide +kernel, by decide +kernel⟩
abbrev N_l_own : List Str := ["_law_sides", "_law_charts", "_law_foot_here", "_law_k", "_law_less_here", "_law_w"]
abbrev p_l_own : List Str := ["_law_sides", "_law_charts", "_law_foot_here"]
theorem sc_l_own : FnScope N_l_own p_l_own (defScope s_l_own) := ⟨rfl, rfl, rfl, by decide +kernel, rfl, by decide +kernel, by decide +kernel⟩
abbrev N_l_near : List Str := ["_law_hand_here", "_law_marks", "_law_at", "_law_side", "_law_both", "_law_some"]
abbrev p_l_near : List Str := ["_law_hand_here", "_law_marks"]
theorem sc_l_near : FnScope N_l_near p_l_near (defScope s_l_near) := ⟨rfl, rfl, rfl, by decide +kernel, rfl, by decide +kernel, by decide +kernel⟩
abbrev N_law : List Str := ["_law_script", "_law_k", "_law_hand_here", "_law_sides", "_law_charts", "_law_by", "_law_made", "_law_turn", "_law_long", "_law_broad", "_law_size_here", "_law_due", "_law_at"]
abbrev p_law : List Str := ["_law_script"]
theorem sc_law : FnScope N_law p_law (defScope s_law) := ⟨rfl, rfl, rfl, by decide +kernel, rfl, by decide +kernel, by decide +kernel⟩
/-! ### what the top has written -/
structure Fds where
  is_whole : FuncData
  common_part : FuncData
  Measure_init : FuncData
  Measure_plus : FuncData
  Measure_minus : FuncData
  Measure_times : FuncData
  Measure_parted : FuncData
  Measure_is_below : FuncData
  is_measure_or_none : FuncData
  measure_or : FuncData
  slip_of : FuncData
  are_marks : FuncData
  is_rule : FuncData
  is_span : FuncData
  midsts_of : FuncData
  size_by_rule : FuncData
  Ladder_init : FuncData
  Ladder_size : FuncData
  Grid_init : FuncData
  Grid_graded : FuncData
  Grid_own : FuncData
  l_hand : FuncData
  l_take : FuncData
  l_pick : FuncData
  l_plain : FuncData
  l_sum : FuncData
  l_less : FuncData
  l_measures : FuncData
  l_part : FuncData
  l_marks_of : FuncData
  l_grades : FuncData
  l_same : FuncData
  l_chart : FuncData
  l_ladder : FuncData
  l_size : FuncData
  l_own : FuncData
  l_near : FuncData
  law : FuncData
structure Txt (K : PySem.W.Frag) (mg : Str → Option Value) (φ : Fds) : Prop where
  g_is_whole : mg "is_whole" = some (.ref (He.ga K "is_whole"))
  g_common_part : mg "common_part" = some (.ref (He.ga K "common_part"))
  g_is_measure_or_none : mg "is_measure_or_none" = some (.ref (He.ga K "is_measure_or_none"))
  g_measure_or : mg "measure_or" = some (.ref (He.ga K "measure_or"))
  g_slip_of : mg "slip_of" = some (.ref (He.ga K "slip_of"))
  g_are_marks : mg "are_marks" = some (.ref (He.ga K "are_marks"))
  g_is_rule : mg "is_rule" = some (.ref (He.ga K "is_rule"))
  g_is_span : mg "is_span" = some (.ref (He.ga K "is_span"))
  g_midsts_of : mg "midsts_of" = some (.ref (He.ga K "midsts_of"))
  g_size_by_rule : mg "size_by_rule" = some (.ref (He.ga K "size_by_rule"))
  g_l_hand : mg "_law_hand" = some (.ref (He.ga K "_law_hand"))
  g_l_take : mg "_law_take" = some (.ref (He.ga K "_law_take"))
  g_l_pick : mg "_law_pick" = some (.ref (He.ga K "_law_pick"))
  g_l_plain : mg "_law_plain" = some (.ref (He.ga K "_law_plain"))
  g_l_sum : mg "_law_sum" = some (.ref (He.ga K "_law_sum"))
  g_l_less : mg "_law_less" = some (.ref (He.ga K "_law_less"))
  g_l_measures : mg "_law_measures" = some (.ref (He.ga K "_law_measures"))
  g_l_part : mg "_law_part" = some (.ref (He.ga K "_law_part"))
  g_l_marks_of : mg "_law_marks_of" = some (.ref (He.ga K "_law_marks_of"))
  g_l_grades : mg "_law_grades" = some (.ref (He.ga K "_law_grades"))
  g_l_same : mg "_law_same" = some (.ref (He.ga K "_law_same"))
  g_l_chart : mg "_law_chart" = some (.ref (He.ga K "_law_chart"))
  g_l_ladder : mg "_law_ladder" = some (.ref (He.ga K "_law_ladder"))
  g_l_size : mg "_law_size" = some (.ref (He.ga K "_law_size"))
  g_l_own : mg "_law_own" = some (.ref (He.ga K "_law_own"))
  g_l_near : mg "_law_near" = some (.ref (He.ga K "_law_near"))
  g_law : mg "law" = some (.ref (He.ga K "law"))
  g_Measure : mg "Measure" = some (.ref (He.ga K "Measure"))
  g_Ladder : mg "Ladder" = some (.ref (He.ga K "Ladder"))
  g_Grid : mg "Grid" = some (.ref (He.ga K "Grid"))
  g_RULES : mg "RULES" = some (.ref (He.ga K "RULES"))
  v_MOST_MARKS : ∃ t, mg "MOST_MARKS" = some (.int 24 t)
  z_abs : mg "abs" = none
  z_all : mg "all" = none
  z_bool : mg "bool" = none
  z_enumerate : mg "enumerate" = none
  z_int : mg "int" = none
  z_isinstance : mg "isinstance" = none
  z_len : mg "len" = none
  z_max : mg "max" = none
  z_min : mg "min" = none
  z_range : mg "range" = none
  z_str : mg "str" = none
  z_tuple : mg "tuple" = none
  z_zip : mg "zip" = none
  cl_Measure : Cls K (He.ga K "Measure")
  na_Measure_top : NoAttr K (He.ga K "Measure") "top"
  na_Measure_bottom : NoAttr K (He.ga K "Measure") "bottom"
  me_Measure_plus : Meth K (He.ga K "Measure") "plus" (He.ma K (He.ga K "Measure") "plus")
  me_Measure_minus : Meth K (He.ga K "Measure") "minus" (He.ma K (He.ga K "Measure") "minus")
  me_Measure_times : Meth K (He.ga K "Measure") "times" (He.ma K (He.ga K "Measure") "times")
  me_Measure_parted : Meth K (He.ga K "Measure") "parted" (He.ma K (He.ga K "Measure") "parted")
  me_Measure_is_below : Meth K (He.ga K "Measure") "is_below" (He.ma K (He.ga K "Measure") "is_below")
  mk_Measure : Mk K (He.ga K "Measure") (He.ma K (He.ga K "Measure") "__init__")
  cl_Ladder : Cls K (He.ga K "Ladder")
  na_Ladder_marks : NoAttr K (He.ga K "Ladder") "marks"
  na_Ladder_rule : NoAttr K (He.ga K "Ladder") "rule"
  na_Ladder_least : NoAttr K (He.ga K "Ladder") "least"
  na_Ladder_most : NoAttr K (He.ga K "Ladder") "most"
  me_Ladder_size : Meth K (He.ga K "Ladder") "size" (He.ma K (He.ga K "Ladder") "size")
  mk_Ladder : Mk K (He.ga K "Ladder") (He.ma K (He.ga K "Ladder") "__init__")
  cl_Grid : Cls K (He.ga K "Grid")
  na_Grid_lengths : NoAttr K (He.ga K "Grid") "lengths"
  na_Grid_breadths : NoAttr K (He.ga K "Grid") "breadths"
  na_Grid_grade : NoAttr K (He.ga K "Grid") "grade"
  me_Grid_graded : Meth K (He.ga K "Grid") "graded" (He.ma K (He.ga K "Grid") "graded")
  me_Grid_own : Meth K (He.ga K "Grid") "own" (He.ma K (He.ga K "Grid") "own")
  mk_Grid : Mk K (He.ga K "Grid") (He.ma K (He.ga K "Grid") "__init__")
  ii_Measure : IsC K (He.ga K "Measure")
  ii_Ladder : IsC K (He.ga K "Ladder")
  tp_RULES : ∀ H, SqT K H (He.ga K "RULES") ((["up", "down", "near"] : List Str).map V.str)
  k_Measure_Measure : PySem.W.kitOne K (.ref (He.ga K "Measure")) (.ref (He.ga K "Measure")) = some true
  k_Ladder_Ladder : PySem.W.kitOne K (.ref (He.ga K "Ladder")) (.ref (He.ga K "Ladder")) = some true
  f_is_whole : FunD K "is_whole" "is_whole" (defArgs s_is_whole) (defBody s_is_whole) (defScope s_is_whole) [] [] (He.fAd K ("is_whole", none)) φ.is_whole
  f_common_part : FunD K "common_part" "common_part" (defArgs s_common_part) (defBody s_common_part) (defScope s_common_part) [] [] (He.fAd K ("common_part", none)) φ.common_part
  f_Measure_init : FunD K "__init__" "Measure.__init__" (defArgs s_Measure_init) (defBody s_Measure_init) (defScope s_Measure_init) [V.int 1] [] (He.fAd K ("Measure", some "__init__")) φ.Measure_init
  f_Measure_plus : FunD K "plus" "Measure.plus" (defArgs s_Measure_plus) (defBody s_Measure_plus) (defScope s_Measure_plus) [] [] (He.fAd K ("Measure", some "plus")) φ.Measure_plus
  f_Measure_minus : FunD K "minus" "Measure.minus" (defArgs s_Measure_minus) (defBody s_Measure_minus) (defScope s_Measure_minus) [] [] (He.fAd K ("Measure", some "minus")) φ.Measure_minus
  f_Measure_times : FunD K "times" "Measure.times" (defArgs s_Measure_times) (defBody s_Measure_times) (defScope s_Measure_times) [] [] (He.fAd K ("Measure", some "times")) φ.Measure_times
  f_Measure_parted : FunD K "parted" "Measure.parted" (defArgs s_Measure_parted) (defBody s_Measure_parted) (defScope s_Measure_parted) [V.int 2] [] (He.fAd K ("Measure", some "parted")) φ.Measure_parted
  f_Measure_is_below : FunD K "is_below" "Measure.is_below" (defArgs s_Measure_is_below) (defBody s_Measure_is_below) (defScope s_Measure_is_below) [V.bl false] [] (He.fAd K ("Measure", some "is_below")) φ.Measure_is_below
  f_is_measure_or_none : FunD K "is_measure_or_none" "is_measure_or_none" (defArgs s_is_measure_or_none) (defBody s_is_measure_or_none) (defScope s_is_measure_or_none) [] [] (He.fAd K ("is_measure_or_none", none)) φ.is_measure_or_none
  f_measure_or : FunD K "measure_or" "measure_or" (defArgs s_measure_or) (defBody s_measure_or) (defScope s_measure_or) [] [] (He.fAd K ("measure_or", none)) φ.measure_or
  f_slip_of : FunD K "slip_of" "slip_of" (defArgs s_slip_of) (defBody s_slip_of) (defScope s_slip_of) [] [] (He.fAd K ("slip_of", none)) φ.slip_of
  f_are_marks : FunD K "are_marks" "are_marks" (defArgs s_are_marks) (defBody s_are_marks) (defScope s_are_marks) [] [] (He.fAd K ("are_marks", none)) φ.are_marks
  f_is_rule : FunD K "is_rule" "is_rule" (defArgs s_is_rule) (defBody s_is_rule) (defScope s_is_rule) [] [] (He.fAd K ("is_rule", none)) φ.is_rule
  f_is_span : FunD K "is_span" "is_span" (defArgs s_is_span) (defBody s_is_span) (defScope s_is_span) [] [] (He.fAd K ("is_span", none)) φ.is_span
  f_midsts_of : FunD K "midsts_of" "midsts_of" (defArgs s_midsts_of) (defBody s_midsts_of) (defScope s_midsts_of) [] [] (He.fAd K ("midsts_of", none)) φ.midsts_of
  f_size_by_rule : FunD K "size_by_rule" "size_by_rule" (defArgs s_size_by_rule) (defBody s_size_by_rule) (defScope s_size_by_rule) [] [] (He.fAd K ("size_by_rule", none)) φ.size_by_rule
  f_Ladder_init : FunD K "__init__" "Ladder.__init__" (defArgs s_Ladder_init) (defBody s_Ladder_init) (defScope s_Ladder_init) [V.str "up", V.non, V.non] [] (He.fAd K ("Ladder", some "__init__")) φ.Ladder_init
  f_Ladder_size : FunD K "size" "Ladder.size" (defArgs s_Ladder_size) (defBody s_Ladder_size) (defScope s_Ladder_size) [] [] (He.fAd K ("Ladder", some "size")) φ.Ladder_size
  f_Grid_init : FunD K "__init__" "Grid.__init__" (defArgs s_Grid_init) (defBody s_Grid_init) (defScope s_Grid_init) [V.non] [] (He.fAd K ("Grid", some "__init__")) φ.Grid_init
  f_Grid_graded : FunD K "graded" "Grid.graded" (defArgs s_Grid_graded) (defBody s_Grid_graded) (defScope s_Grid_graded) [] [] (He.fAd K ("Grid", some "graded")) φ.Grid_graded
  f_Grid_own : FunD K "own" "Grid.own" (defArgs s_Grid_own) (defBody s_Grid_own) (defScope s_Grid_own) [] [] (He.fAd K ("Grid", some "own")) φ.Grid_own
  f_l_hand : FunD K "_law_hand" "_law_hand" (defArgs s_l_hand) (defBody s_l_hand) (defScope s_l_hand) [] [] (He.fAd K ("_law_hand", none)) φ.l_hand
  f_l_take : FunD K "_law_take" "_law_take" (defArgs s_l_take) (defBody s_l_take) (defScope s_l_take) [] [] (He.fAd K ("_law_take", none)) φ.l_take
  f_l_pick : FunD K "_law_pick" "_law_pick" (defArgs s_l_pick) (defBody s_l_pick) (defScope s_l_pick) [] [] (He.fAd K ("_law_pick", none)) φ.l_pick
  f_l_plain : FunD K "_law_plain" "_law_plain" (defArgs s_l_plain) (defBody s_l_plain) (defScope s_l_plain) [] [] (He.fAd K ("_law_plain", none)) φ.l_plain
  f_l_sum : FunD K "_law_sum" "_law_sum" (defArgs s_l_sum) (defBody s_l_sum) (defScope s_l_sum) [] [] (He.fAd K ("_law_sum", none)) φ.l_sum
  f_l_less : FunD K "_law_less" "_law_less" (defArgs s_l_less) (defBody s_l_less) (defScope s_l_less) [] [] (He.fAd K ("_law_less", none)) φ.l_less
  f_l_measures : FunD K "_law_measures" "_law_measures" (defArgs s_l_measures) (defBody s_l_measures) (defScope s_l_measures) [] [] (He.fAd K ("_law_measures", none)) φ.l_measures
  f_l_part : FunD K "_law_part" "_law_part" (defArgs s_l_part) (defBody s_l_part) (defScope s_l_part) [] [] (He.fAd K ("_law_part", none)) φ.l_part
  f_l_marks_of : FunD K "_law_marks_of" "_law_marks_of" (defArgs s_l_marks_of) (defBody s_l_marks_of) (defScope s_l_marks_of) [] [] (He.fAd K ("_law_marks_of", none)) φ.l_marks_of
  f_l_grades : FunD K "_law_grades" "_law_grades" (defArgs s_l_grades) (defBody s_l_grades) (defScope s_l_grades) [] [] (He.fAd K ("_law_grades", none)) φ.l_grades
  f_l_same : FunD K "_law_same" "_law_same" (defArgs s_l_same) (defBody s_l_same) (defScope s_l_same) [] [] (He.fAd K ("_law_same", none)) φ.l_same
  f_l_chart : FunD K "_law_chart" "_law_chart" (defArgs s_l_chart) (defBody s_l_chart) (defScope s_l_chart) [] [] (He.fAd K ("_law_chart", none)) φ.l_chart
  f_l_ladder : FunD K "_law_ladder" "_law_ladder" (defArgs s_l_ladder) (defBody s_l_ladder) (defScope s_l_ladder) [] [] (He.fAd K ("_law_ladder", none)) φ.l_ladder
  f_l_size : FunD K "_law_size" "_law_size" (defArgs s_l_size) (defBody s_l_size) (defScope s_l_size) [] [] (He.fAd K ("_law_size", none)) φ.l_size
  f_l_own : FunD K "_law_own" "_law_own" (defArgs s_l_own) (defBody s_l_own) (defScope s_l_own) [] [] (He.fAd K ("_law_own", none)) φ.l_own
  f_l_near : FunD K "_law_near" "_law_near" (defArgs s_l_near) (defBody s_l_near) (defScope s_l_near) [] [] (He.fAd K ("_law_near", none)) φ.l_near
  f_law : FunD K "law" "law" (defArgs s_law) (defBody s_law) (defScope s_law) [] [] (He.fAd K ("law", none)) φ.law
/-! ### the head -/
def h_is_whole : He.DefD := ⟨("is_whole", none), "is_whole", "is_whole", defArgs s_is_whole, defBody s_is_whole, defScope s_is_whole, [], []⟩
def h_common_part : He.DefD := ⟨("common_part", none), "common_part", "common_part", defArgs s_common_part, defBody s_common_part, defScope s_common_part, [], []⟩
def h_Measure_init : He.DefD := ⟨("Measure", some "__init__"), "__init__", "Measure.__init__", defArgs s_Measure_init, defBody s_Measure_init, defScope s_Measure_init, [.int 1], []⟩
def h_Measure_plus : He.DefD := ⟨("Measure", some "plus"), "plus", "Measure.plus", defArgs s_Measure_plus, defBody s_Measure_plus, defScope s_Measure_plus, [], []⟩
def h_Measure_minus : He.DefD := ⟨("Measure", some "minus"), "minus", "Measure.minus", defArgs s_Measure_minus, defBody s_Measure_minus, defScope s_Measure_minus, [], []⟩
def h_Measure_times : He.DefD := ⟨("Measure", some "times"), "times", "Measure.times", defArgs s_Measure_times, defBody s_Measure_times, defScope s_Measure_times, [], []⟩
def h_Measure_parted : He.DefD := ⟨("Measure", some "parted"), "parted", "Measure.parted", defArgs s_Measure_parted, defBody s_Measure_parted, defScope s_Measure_parted, [.int 2], []⟩
def h_Measure_is_below : He.DefD := ⟨("Measure", some "is_below"), "is_below", "Measure.is_below", defArgs s_Measure_is_below, defBody s_Measure_is_below, defScope s_Measure_is_below, [.bl false], []⟩
def h_is_measure_or_none : He.DefD := ⟨("is_measure_or_none", none), "is_measure_or_none", "is_measure_or_none", defArgs s_is_measure_or_none, defBody s_is_measure_or_none, defScope s_is_measure_or_none, [], []⟩
def h_measure_or : He.DefD := ⟨("measure_or", none), "measure_or", "measure_or", defArgs s_measure_or, defBody s_measure_or, defScope s_measure_or, [], []⟩
def h_slip_of : He.DefD := ⟨("slip_of", none), "slip_of", "slip_of", defArgs s_slip_of, defBody s_slip_of, defScope s_slip_of, [], []⟩
def h_are_marks : He.DefD := ⟨("are_marks", none), "are_marks", "are_marks", defArgs s_are_marks, defBody s_are_marks, defScope s_are_marks, [], []⟩
def h_is_rule : He.DefD := ⟨("is_rule", none), "is_rule", "is_rule", defArgs s_is_rule, defBody s_is_rule, defScope s_is_rule, [], []⟩
def h_is_span : He.DefD := ⟨("is_span", none), "is_span", "is_span", defArgs s_is_span, defBody s_is_span, defScope s_is_span, [], []⟩
def h_midsts_of : He.DefD := ⟨("midsts_of", none), "midsts_of", "midsts_of", defArgs s_midsts_of, defBody s_midsts_of, defScope s_midsts_of, [], []⟩
def h_size_by_rule : He.DefD := ⟨("size_by_rule", none), "size_by_rule", "size_by_rule", defArgs s_size_by_rule, defBody s_size_by_rule, defScope s_size_by_rule, [], []⟩
def h_Ladder_init : He.DefD := ⟨("Ladder", some "__init__"), "__init__", "Ladder.__init__", defArgs s_Ladder_init, defBody s_Ladder_init, defScope s_Ladder_init, [.str "up", .non, .non], []⟩
def h_Ladder_size : He.DefD := ⟨("Ladder", some "size"), "size", "Ladder.size", defArgs s_Ladder_size, defBody s_Ladder_size, defScope s_Ladder_size, [], []⟩
def h_Grid_init : He.DefD := ⟨("Grid", some "__init__"), "__init__", "Grid.__init__", defArgs s_Grid_init, defBody s_Grid_init, defScope s_Grid_init, [.non], []⟩
def h_Grid_graded : He.DefD := ⟨("Grid", some "graded"), "graded", "Grid.graded", defArgs s_Grid_graded, defBody s_Grid_graded, defScope s_Grid_graded, [], []⟩
def h_Grid_own : He.DefD := ⟨("Grid", some "own"), "own", "Grid.own", defArgs s_Grid_own, defBody s_Grid_own, defScope s_Grid_own, [], []⟩
def h_l_hand : He.DefD := ⟨("_law_hand", none), "_law_hand", "_law_hand", defArgs s_l_hand, defBody s_l_hand, defScope s_l_hand, [], []⟩
def h_l_take : He.DefD := ⟨("_law_take", none), "_law_take", "_law_take", defArgs s_l_take, defBody s_l_take, defScope s_l_take, [], []⟩
def h_l_pick : He.DefD := ⟨("_law_pick", none), "_law_pick", "_law_pick", defArgs s_l_pick, defBody s_l_pick, defScope s_l_pick, [], []⟩
def h_l_plain : He.DefD := ⟨("_law_plain", none), "_law_plain", "_law_plain", defArgs s_l_plain, defBody s_l_plain, defScope s_l_plain, [], []⟩
def h_l_sum : He.DefD := ⟨("_law_sum", none), "_law_sum", "_law_sum", defArgs s_l_sum, defBody s_l_sum, defScope s_l_sum, [], []⟩
def h_l_less : He.DefD := ⟨("_law_less", none), "_law_less", "_law_less", defArgs s_l_less, defBody s_l_less, defScope s_l_less, [], []⟩
def h_l_measures : He.DefD := ⟨("_law_measures", none), "_law_measures", "_law_measures", defArgs s_l_measures, defBody s_l_measures, defScope s_l_measures, [], []⟩
def h_l_part : He.DefD := ⟨("_law_part", none), "_law_part", "_law_part", defArgs s_l_part, defBody s_l_part, defScope s_l_part, [], []⟩
def h_l_marks_of : He.DefD := ⟨("_law_marks_of", none), "_law_marks_of", "_law_marks_of", defArgs s_l_marks_of, defBody s_l_marks_of, defScope s_l_marks_of, [], []⟩
def h_l_grades : He.DefD := ⟨("_law_grades", none), "_law_grades", "_law_grades", defArgs s_l_grades, defBody s_l_grades, defScope s_l_grades, [], []⟩
def h_l_same : He.DefD := ⟨("_law_same", none), "_law_same", "_law_same", defArgs s_l_same, defBody s_l_same, defScope s_l_same, [], []⟩
def h_l_chart : He.DefD := ⟨("_law_chart", none), "_law_chart", "_law_chart", defArgs s_l_chart, defBody s_l_chart, defScope s_l_chart, [], []⟩
def h_l_ladder : He.DefD := ⟨("_law_ladder", none), "_law_ladder", "_law_ladder", defArgs s_l_ladder, defBody s_l_ladder, defScope s_l_ladder, [], []⟩
def h_l_size : He.DefD := ⟨("_law_size", none), "_law_size", "_law_size", defArgs s_l_size, defBody s_l_size, defScope s_l_size, [], []⟩
def h_l_own : He.DefD := ⟨("_law_own", none), "_law_own", "_law_own", defArgs s_l_own, defBody s_l_own, defScope s_l_own, [], []⟩
def h_l_near : He.DefD := ⟨("_law_near", none), "_law_near", "_law_near", defArgs s_l_near, defBody s_l_near, defScope s_l_near, [], []⟩
def h_law : He.DefD := ⟨("law", none), "law", "law", defArgs s_law, defBody s_law, defScope s_law, [], []⟩
def fn : List He.DefD := [h_is_whole, h_common_part, h_Measure_init, h_Measure_plus, h_Measure_minus, h_Measure_times, h_Measure_parted, h_Measure_is_below, h_is_measure_or_none, h_measure_or, h_slip_of, h_are_marks, h_is_rule, h_is_span, h_midsts_of, h_size_by_rule, h_Ladder_init, h_Ladder_size, h_Grid_init, h_Grid_graded, h_Grid_own, h_l_hand, h_l_take, h_l_pick, h_l_plain, h_l_sum, h_l_less, h_l_measures, h_l_part, h_l_marks_of, h_l_grades, h_l_same, h_l_chart, h_l_ladder, h_l_size, h_l_own, h_l_near, h_law]
def fa : List He.Fa := [.glo "is_whole", .glo "common_part", .glo "is_measure_or_none", .glo "measure_or", .glo "slip_of", .glo "are_marks", .glo "is_rule", .glo "is_span", .glo "midsts_of", .glo "size_by_rule", .glo "_law_hand", .glo "_law_take", .glo "_law_pick", .glo "_law_plain", .glo "_law_sum", .glo "_law_less", .glo "_law_measures", .glo "_law_part", .glo "_law_marks_of", .glo "_law_grades", .glo "_law_same", .glo "_law_chart", .glo "_law_ladder", .glo "_law_size", .glo "_law_own", .glo "_law_near", .glo "law", .glo "Measure", .glo "Ladder", .glo "Grid", .glo "RULES", .int "MOST_MARKS" 24, .free "abs", .free "all", .free "bool", .free "enumerate", .free "int", .free "isinstance", .free "len", .free "max", .free "min", .free "range", .free "str", .free "tuple", .free "zip", .cls "Measure", .noat "Measure" "top", .noat "Measure" "bottom", .meth "Measure" "plus", .meth "Measure" "minus", .meth "Measure" "times", .meth "Measure" "parted", .meth "Measure" "is_below", .mkr "Measure", .cls "Ladder", .noat "Ladder" "marks", .noat "Ladder" "rule", .noat "Ladder" "least", .noat "Ladder" "most", .meth "Ladder" "size", .mkr "Ladder", .cls "Grid", .noat "Grid" "lengths", .noat "Grid" "breadths", .noat "Grid" "grade", .meth "Grid" "graded", .meth "Grid" "own", .mkr "Grid"]
abbrev R : PySem.W.OpenRow := PySem.W.OpenLaw.row PySem.Challenge.rw_sizeladders_k48_own_pairs
def ex : List (PySem.W.Frag → Bool) := [isCB "Measure", isCB "Ladder", tupB "RULES" ["up", "down", "near"], kitF (.inl "Measure") (.inl "Measure") true, kitF (.inl "Ladder") (.inl "Ladder") true]
abbrev hk : PySem.W.Hook := hookM 5 fa fn ex
def ob (s : PySem.W.SharedT) : He.AlD × Bool := obsM 5 fa fn ex (HandSHeadRun.getT s)
theorem ob_eq (s : PySem.W.SharedT) : ob s = hk.obs s.abs := obsM_eq (HandSHeadRun.getT_eq s)
theorem run (w : World) : HandSHeadRun.RunEq R (PySem.W.view R.prog [46]) hk ob 20000 [("_wall" : PySem.Str), ("LadderError" : PySem.Str), ("NoMeasure" : PySem.Str), ("NoLadder" : PySem.Str), ("Slip" : PySem.Str), ("NoBottom" : PySem.Str), ("is_whole" : PySem.Str), ("common_part" : PySem.Str), ("written" : PySem.Str), ("Measure" : PySem.Str), ("is_measure_or_none" : PySem.Str), ("measure_or" : PySem.Str), ("slip_of" : PySem.Str), ("MOST_MARKS" : PySem.Str), ("RULES" : PySem.Str), ("are_marks" : PySem.Str), ("is_rule" : PySem.Str), ("is_span" : PySem.Str), ("midsts_of" : PySem.Str), ("size_by_rule" : PySem.Str), ("bound_text" : PySem.Str), ("Ladder" : PySem.Str), ("Grid" : PySem.Str), ("_law_hand" : PySem.Str), ("_law_take" : PySem.Str), ("_law_pick" : PySem.Str), ("_law_plain" : PySem.Str), ("_law_sum" : PySem.Str), ("_law_less" : PySem.Str), ("_law_measures" : PySem.Str), ("_law_part" : PySem.Str), ("_law_marks_of" : PySem.Str), ("_law_grades" : PySem.Str), ("_law_same" : PySem.Str), ("_law_chart" : PySem.Str), ("_law_ladder" : PySem.Str), ("_law_size" : PySem.Str), ("_law_own" : PySem.Str), ("_law_near" : PySem.Str)] w := by
  intro os
  kernel_rfl

theorem facts {K : PySem.W.Frag} {h : Heap} {mg : Str → Option Value} (X : K.In h) (G : h.Ns mainGlobals mg) (c : He.SaysD fa fn K) (cx : (ex.all fun f => f K) = true) : ∃ φ : Fds, Txt K mg φ := by
  obtain ⟨d0, F0⟩ := c.def_ 0 (d := h_is_whole) rfl
  obtain ⟨d1, F1⟩ := c.def_ 1 (d := h_common_part) rfl
  obtain ⟨d2, F2⟩ := c.def_ 2 (d := h_Measure_init) rfl
  obtain ⟨d3, F3⟩ := c.def_ 3 (d := h_Measure_plus) rfl
  obtain ⟨d4, F4⟩ := c.def_ 4 (d := h_Measure_minus) rfl
  obtain ⟨d5, F5⟩ := c.def_ 5 (d := h_Measure_times) rfl
  obtain ⟨d6, F6⟩ := c.def_ 6 (d := h_Measure_parted) rfl
  obtain ⟨d7, F7⟩ := c.def_ 7 (d := h_Measure_is_below) rfl
  obtain ⟨d8, F8⟩ := c.def_ 8 (d := h_is_measure_or_none) rfl
  obtain ⟨d9, F9⟩ := c.def_ 9 (d := h_measure_or) rfl
  obtain ⟨d10, F10⟩ := c.def_ 10 (d := h_slip_of) rfl
  obtain ⟨d11, F11⟩ := c.def_ 11 (d := h_are_marks) rfl
  obtain ⟨d12, F12⟩ := c.def_ 12 (d := h_is_rule) rfl
  obtain ⟨d13, F13⟩ := c.def_ 13 (d := h_is_span) rfl
  obtain ⟨d14, F14⟩ := c.def_ 14 (d := h_midsts_of) rfl
  obtain ⟨d15, F15⟩ := c.def_ 15 (d := h_size_by_rule) rfl
  obtain ⟨d16, F16⟩ := c.def_ 16 (d := h_Ladder_init) rfl
  obtain ⟨d17, F17⟩ := c.def_ 17 (d := h_Ladder_size) rfl
  obtain ⟨d18, F18⟩ := c.def_ 18 (d := h_Grid_init) rfl
  obtain ⟨d19, F19⟩ := c.def_ 19 (d := h_Grid_graded) rfl
  obtain ⟨d20, F20⟩ := c.def_ 20 (d := h_Grid_own) rfl
  obtain ⟨d21, F21⟩ := c.def_ 21 (d := h_l_hand) rfl
  obtain ⟨d22, F22⟩ := c.def_ 22 (d := h_l_take) rfl
  obtain ⟨d23, F23⟩ := c.def_ 23 (d := h_l_pick) rfl
  obtain ⟨d24, F24⟩ := c.def_ 24 (d := h_l_plain) rfl
  obtain ⟨d25, F25⟩ := c.def_ 25 (d := h_l_sum) rfl
  obtain ⟨d26, F26⟩ := c.def_ 26 (d := h_l_less) rfl
  obtain ⟨d27, F27⟩ := c.def_ 27 (d := h_l_measures) rfl
  obtain ⟨d28, F28⟩ := c.def_ 28 (d := h_l_part) rfl
  obtain ⟨d29, F29⟩ := c.def_ 29 (d := h_l_marks_of) rfl
  obtain ⟨d30, F30⟩ := c.def_ 30 (d := h_l_grades) rfl
  obtain ⟨d31, F31⟩ := c.def_ 31 (d := h_l_same) rfl
  obtain ⟨d32, F32⟩ := c.def_ 32 (d := h_l_chart) rfl
  obtain ⟨d33, F33⟩ := c.def_ 33 (d := h_l_ladder) rfl
  obtain ⟨d34, F34⟩ := c.def_ 34 (d := h_l_size) rfl
  obtain ⟨d35, F35⟩ := c.def_ 35 (d := h_l_own) rfl
  obtain ⟨d36, F36⟩ := c.def_ 36 (d := h_l_near) rfl
  obtain ⟨d37, F37⟩ := c.def_ 37 (d := h_law) rfl
  refine ⟨⟨d0, d1, d2, d3, d4, d5, d6, d7, d8, d9, d10, d11, d12, d13, d14, d15, d16, d17, d18, d19, d20, d21, d22, d23, d24, d25, d26, d27, d28, d29, d30, d31, d32, d33, d34, d35, d36, d37⟩, ?_⟩
  exact {
    g_is_whole := He.glo_ok X G (c.fact 0 (f := .glo "is_whole") rfl),
    g_common_part := He.glo_ok X G (c.fact 1 (f := .glo "common_part") rfl),
    g_is_measure_or_none := He.glo_ok X G (c.fact 2 (f := .glo "is_measure_or_none") rfl),
    g_measure_or := He.glo_ok X G (c.fact 3 (f := .glo "measure_or") rfl),
    g_slip_of := He.glo_ok X G (c.fact 4 (f := .glo "slip_of") rfl),
    g_are_marks := He.glo_ok X G (c.fact 5 (f := .glo "are_marks") rfl),
    g_is_rule := He.glo_ok X G (c.fact 6 (f := .glo "is_rule") rfl),
    g_is_span := He.glo_ok X G (c.fact 7 (f := .glo "is_span") rfl),
    g_midsts_of := He.glo_ok X G (c.fact 8 (f := .glo "midsts_of") rfl),
    g_size_by_rule := He.glo_ok X G (c.fact 9 (f := .glo "size_by_rule") rfl),
    g_l_hand := He.glo_ok X G (c.fact 10 (f := .glo "_law_hand") rfl),
    g_l_take := He.glo_ok X G (c.fact 11 (f := .glo "_law_take") rfl),
    g_l_pick := He.glo_ok X G (c.fact 12 (f := .glo "_law_pick") rfl),
    g_l_plain := He.glo_ok X G (c.fact 13 (f := .glo "_law_plain") rfl),
    g_l_sum := He.glo_ok X G (c.fact 14 (f := .glo "_law_sum") rfl),
    g_l_less := He.glo_ok X G (c.fact 15 (f := .glo "_law_less") rfl),
    g_l_measures := He.glo_ok X G (c.fact 16 (f := .glo "_law_measures") rfl),
    g_l_part := He.glo_ok X G (c.fact 17 (f := .glo "_law_part") rfl),
    g_l_marks_of := He.glo_ok X G (c.fact 18 (f := .glo "_law_marks_of") rfl),
    g_l_grades := He.glo_ok X G (c.fact 19 (f := .glo "_law_grades") rfl),
    g_l_same := He.glo_ok X G (c.fact 20 (f := .glo "_law_same") rfl),
    g_l_chart := He.glo_ok X G (c.fact 21 (f := .glo "_law_chart") rfl),
    g_l_ladder := He.glo_ok X G (c.fact 22 (f := .glo "_law_ladder") rfl),
    g_l_size := He.glo_ok X G (c.fact 23 (f := .glo "_law_size") rfl),
    g_l_own := He.glo_ok X G (c.fact 24 (f := .glo "_law_own") rfl),
    g_l_near := He.glo_ok X G (c.fact 25 (f := .glo "_law_near") rfl),
    g_law := He.glo_ok X G (c.fact 26 (f := .glo "law") rfl),
    g_Measure := He.glo_ok X G (c.fact 27 (f := .glo "Measure") rfl),
    g_Ladder := He.glo_ok X G (c.fact 28 (f := .glo "Ladder") rfl),
    g_Grid := He.glo_ok X G (c.fact 29 (f := .glo "Grid") rfl),
    g_RULES := He.glo_ok X G (c.fact 30 (f := .glo "RULES") rfl),
    v_MOST_MARKS := He.int_ok X G (c.fact 31 (f := .int "MOST_MARKS" 24) rfl),
    z_abs := He.free_ok X G (c.fact 32 (f := .free "abs") rfl),
    z_all := He.free_ok X G (c.fact 33 (f := .free "all") rfl),
    z_bool := He.free_ok X G (c.fact 34 (f := .free "bool") rfl),
    z_enumerate := He.free_ok X G (c.fact 35 (f := .free "enumerate") rfl),
    z_int := He.free_ok X G (c.fact 36 (f := .free "int") rfl),
    z_isinstance := He.free_ok X G (c.fact 37 (f := .free "isinstance") rfl),
    z_len := He.free_ok X G (c.fact 38 (f := .free "len") rfl),
    z_max := He.free_ok X G (c.fact 39 (f := .free "max") rfl),
    z_min := He.free_ok X G (c.fact 40 (f := .free "min") rfl),
    z_range := He.free_ok X G (c.fact 41 (f := .free "range") rfl),
    z_str := He.free_ok X G (c.fact 42 (f := .free "str") rfl),
    z_tuple := He.free_ok X G (c.fact 43 (f := .free "tuple") rfl),
    z_zip := He.free_ok X G (c.fact 44 (f := .free "zip") rfl),
    cl_Measure := He.cls_ok (c.fact 45 (f := .cls "Measure") rfl),
    na_Measure_top := He.noat_ok (c.fact 46 (f := .noat "Measure" "top") rfl),
    na_Measure_bottom := He.noat_ok (c.fact 47 (f := .noat "Measure" "bottom") rfl),
    me_Measure_plus := He.meth_ok (c.fact 48 (f := .meth "Measure" "plus") rfl),
    me_Measure_minus := He.meth_ok (c.fact 49 (f := .meth "Measure" "minus") rfl),
    me_Measure_times := He.meth_ok (c.fact 50 (f := .meth "Measure" "times") rfl),
    me_Measure_parted := He.meth_ok (c.fact 51 (f := .meth "Measure" "parted") rfl),
    me_Measure_is_below := He.meth_ok (c.fact 52 (f := .meth "Measure" "is_below") rfl),
    mk_Measure := He.mkr_ok (c.fact 53 (f := .mkr "Measure") rfl),
    cl_Ladder := He.cls_ok (c.fact 54 (f := .cls "Ladder") rfl),
    na_Ladder_marks := He.noat_ok (c.fact 55 (f := .noat "Ladder" "marks") rfl),
    na_Ladder_rule := He.noat_ok (c.fact 56 (f := .noat "Ladder" "rule") rfl),
    na_Ladder_least := He.noat_ok (c.fact 57 (f := .noat "Ladder" "least") rfl),
    na_Ladder_most := He.noat_ok (c.fact 58 (f := .noat "Ladder" "most") rfl),
    me_Ladder_size := He.meth_ok (c.fact 59 (f := .meth "Ladder" "size") rfl),
    mk_Ladder := He.mkr_ok (c.fact 60 (f := .mkr "Ladder") rfl),
    cl_Grid := He.cls_ok (c.fact 61 (f := .cls "Grid") rfl),
    na_Grid_lengths := He.noat_ok (c.fact 62 (f := .noat "Grid" "lengths") rfl),
    na_Grid_breadths := He.noat_ok (c.fact 63 (f := .noat "Grid" "breadths") rfl),
    na_Grid_grade := He.noat_ok (c.fact 64 (f := .noat "Grid" "grade") rfl),
    me_Grid_graded := He.meth_ok (c.fact 65 (f := .meth "Grid" "graded") rfl),
    me_Grid_own := He.meth_ok (c.fact 66 (f := .meth "Grid" "own") rfl),
    mk_Grid := He.mkr_ok (c.fact 67 (f := .mkr "Grid") rfl),
    ii_Measure := isC_ok (ex_at cx 0 (f := isCB "Measure") rfl),
    ii_Ladder := isC_ok (ex_at cx 1 (f := isCB "Ladder") rfl),
    tp_RULES := tup_ok (ex_at cx 2 (f := tupB "RULES" ["up", "down", "near"]) rfl),
    k_Measure_Measure := kitF_ok (ex_at cx 3 (f := kitF (.inl "Measure") (.inl "Measure") true) rfl),
    k_Ladder_Ladder := kitF_ok (ex_at cx 4 (f := kitF (.inl "Ladder") (.inl "Ladder") true) rfl),
    f_is_whole := F0,
    f_common_part := F1,
    f_Measure_init := F2,
    f_Measure_plus := F3,
    f_Measure_minus := F4,
    f_Measure_times := F5,
    f_Measure_parted := F6,
    f_Measure_is_below := F7,
    f_is_measure_or_none := F8,
    f_measure_or := F9,
    f_slip_of := F10,
    f_are_marks := F11,
    f_is_rule := F12,
    f_is_span := F13,
    f_midsts_of := F14,
    f_size_by_rule := F15,
    f_Ladder_init := F16,
    f_Ladder_size := F17,
    f_Grid_init := F18,
    f_Grid_graded := F19,
    f_Grid_own := F20,
    f_l_hand := F21,
    f_l_take := F22,
    f_l_pick := F23,
    f_l_plain := F24,
    f_l_sum := F25,
    f_l_less := F26,
    f_l_measures := F27,
    f_l_part := F28,
    f_l_marks_of := F29,
    f_l_grades := F30,
    f_l_same := F31,
    f_l_chart := F32,
    f_l_ladder := F33,
    f_l_size := F34,
    f_l_own := F35,
    f_l_near := F36,
    f_law := F37 }
def sp_law (K : PySem.W.Frag) : Sp := fun vs H Q _ => ∃ (a : Addr) (ns : List Int), vs = [.ref a] ∧ SqL K H a (ns.map V.int) ∧ ns.length ≤ 63 ∧ ∀ H', Q (.bl true) H'

end K48
open PySem PySem.W PySem.Calls PyProof.Rows in
set_option maxRecDepth 100000 in
set_option maxHeartbeats 0 in
theorem K48.pre (hl : ∀ {P : Program} {w : World} {K : PySem.W.Frag} {mg : Str → Option Value} {base : Heap} {φ : K48.Fds} (T : K48.Txt K mg φ), L2.FnOk P w K mg base L2.CX0 9 (He.fAd K ("law", none)) φ.law K48.p_law (K48.sp_law K)) : PySem.Challenge.rw_sizeladders_k48_own_pairs.Holds := by
  w_on; o_law
  refine HandSHeadRun.head_any (r := OpenLaw.row PySem.Challenge.rw_sizeladders_k48_own_pairs) (q := view (OpenLaw.row PySem.Challenge.rw_sizeladders_k48_own_pairs).prog [46]) (H := K48.hk) (ob := K48.ob) (M := 20000) (loose := [("_wall" : PySem.Str), ("LadderError" : PySem.Str), ("NoMeasure" : PySem.Str), ("NoLadder" : PySem.Str), ("Slip" : PySem.Str), ("NoBottom" : PySem.Str), ("is_whole" : PySem.Str), ("common_part" : PySem.Str), ("written" : PySem.Str), ("Measure" : PySem.Str), ("is_measure_or_none" : PySem.Str), ("measure_or" : PySem.Str), ("slip_of" : PySem.Str), ("MOST_MARKS" : PySem.Str), ("RULES" : PySem.Str), ("are_marks" : PySem.Str), ("is_rule" : PySem.Str), ("is_span" : PySem.Str), ("midsts_of" : PySem.Str), ("size_by_rule" : PySem.Str), ("bound_text" : PySem.Str), ("Ladder" : PySem.Str), ("Grid" : PySem.Str), ("_law_hand" : PySem.Str), ("_law_take" : PySem.Str), ("_law_pick" : PySem.Str), ("_law_plain" : PySem.Str), ("_law_sum" : PySem.Str), ("_law_less" : PySem.Str), ("_law_measures" : PySem.Str), ("_law_part" : PySem.Str), ("_law_marks_of" : PySem.Str), ("_law_grades" : PySem.Str), ("_law_same" : PySem.Str), ("_law_chart" : PySem.Str), ("_law_ladder" : PySem.Str), ("_law_size" : PySem.Str), ("_law_own" : PySem.Str), ("_law_near" : PySem.Str)]) (d := HandSHeadRun.topDef (OpenLaw.row PySem.Challenge.rw_sizeladders_k48_own_pairs).prog 46) (kwd := []) K48.ob_eq
    (by kernel_rfl) (fun s => by kernel_rfl) K48.run (by kernel_rfl) (by kernel_rfl) (by kernel_rfl) (by rfl) (by first | assumption | decide +kernel) (by decide +kernel) ⟨rfl, rfl, rfl, rfl, rfl, by decide +kernel⟩ ?hw ?hc
  case hw => w_witness2
  case hc =>
    refine L2.walk_ofE (l := PySem.Challenge.rw_sizeladders_k48_own_pairs) (n := 63) (k := 9) (x := "_law_script") (CX := L2.CX0) rfl (by decide) (by kernel_rfl) ⟨rfl, by decide, by decide⟩ ?F (fun _ _ _ _ z => z)
    intro w mg fa h Y G hmg0
    obtain ⟨K, KX, c, cx⟩ := Y
    have hmg : mg ("law" : PySem.Str) = some (.ref fa) := by
      have e : (HandSHeadRun.topDef (OpenLaw.row PySem.Challenge.rw_sizeladders_k48_own_pairs).prog 46).name = ("law" : PySem.Str) := by kernel_rfl
      rw [← e]
      exact hmg0
    obtain ⟨φ, T⟩ := K48.facts KX G c cx
    have e := hmg.symm.trans T.g_law
    cases e
    have b := L2.FunD.bindsA (ps := K48.p_law) T.f_law fun _ _ _ _ _ _ us hl => match us, hl with | [_], _ => rfl
    exact ⟨K, φ.law, K48.sp_law K, KX, fun s v => b s [v] rfl, fun H a ns hl _ hS => ⟨a, ns, rfl, hS, hl, fun _ => rfl⟩, fun base _ _ => hl T⟩

namespace My
open PySem PySem.Spec PyProof.Rows L2
/-! ### enumerate of a tuple -/
section
variable {X : Cx}
/-! ### len of an own object -/
end
/-! ### max and min with a default -/
theorem ints_depth : ∀ ns : List Int, PyData.depthAll (ns.map PyData.int) ≤ 1
  | [] => by simp [PyData.depthAll]
  | n :: ns => by
    have := ints_depth ns
    simp [PyData.depthAll, PyData.depth] at this ⊢
    omega
section
variable {X : Cx} {K : PySem.W.Frag}
/-! ### xs[::k] -/
def rTupL (K : PySem.W.Frag) : List V → Hp → VK → Prop := fun xs H Q => ∃ (p : Addr) (ys : List V), xs = [.ref p] ∧ SqL K H p ys ∧ ∀ l, H l = none → Q (.ref l) (upd H l (.tup ys))
theorem tupleL (hK : X.K = K := by rfl) : CallR X (.type "tuple") (rTupL K) := by
  subst hK
  intro pins s σ H xs us Q I r h
  obtain ⟨p, ys, e, h1, h2⟩ := h
  exact call_tuple_of pins s σ H xs us Q I r ⟨p, ys, e, .inl ⟨h1, h2⟩⟩
theorem walk_zipT {a b : Addr} {xs ys : List V} {n : Nat} (hn : n = min xs.length ys.length) : Walk (RZ.ItzT K a b) n (fun H => SqT K H a xs ∧ SqT K H b ys) (YPair (fun i => xs[i]?) (fun i => ys[i]?)) := by
  subst hn
  refine ⟨fun i _ hi q => ?_, fun _ q => ⟨xs, ys, q.1, q.2, by omega⟩, fun i H v H' _ q y => ?_⟩
  · have h1 : i < xs.length := by omega
    have h2 : i < ys.length := by omega
    exact ⟨xs, ys, xs[i], ys[i], q.1, q.2, by simp [h1], by simp [h2]⟩
  · obtain ⟨T, x, z, h1, h2, h3, h4, h5⟩ := y
    exact ⟨T, x, z, h1, h2, h3, h4 xs q.1, h5 ys q.2⟩
end
theorem logS {m : Int} (h : m.natAbs < 2 ^ 60) : m.natAbs.log2 < 9000 := Nat.lt_of_lt_of_le (PySem.Flt.log2_lt_of (by decide) h) (by decide)
theorem szl {n : Nat} (h : n ≤ 1000) : n ≤ sizeLine := Nat.le_trans h (by decide)
theorem szb {n : Nat} (h : Nat.ble n 1000 = true) : n ≤ sizeLine := szl (Nat.le_of_ble_eq_true h)
theorem szs {n : Nat} (h : n < 1000) : n < sizeLine := Nat.lt_of_lt_of_le h (by decide)
theorem atI_end {xs : List V} {n : Nat} {v : V} (hn : n + 1 = xs.length) (h : xs[n]? = some v) : atI xs (-1) = some v := by
  have e : ixN xs.length (-1) = some n := by
    unfold ixN
    rw [if_neg (by decide), if_pos (by omega)]
    exact congrArg some (by omega)
  unfold atI
  rw [e]
  exact h
theorem qmk_pos {a b : Int} (h : 0 < b) : qmk a b = (a, b) := by
  have e : sgn b = 1 := by unfold sgn; rw [if_pos h]
  unfold qmk
  rw [e, Int.mul_one, Int.mul_one]
/-- a Measure is made -/
theorem q_made {C : Addr} {H : Hp} {Qa : Addr → Hp → Prop} {E : XK} {k : Nat} {a b : Int} (hb : 0 < b) (sa : Sz k a) (sb : Sz k b) (k0 : 0 < k) (k1 : k ≤ 8900) (f : ∀ (p : Addr) (H' : Hp), Same H H' → QAt C H' p k (a, b) → Qa p H') :
    ∀ x dx, H x = none → H dx = none → dx ≠ x → sp_minit C [.ref x, .int a, .int b] (upd (upd H dx (.own x)) x (.ins C dx [])) (fun v H2 => v = .non ∧ Qa x H2) E := by
  intro x dx nx nd ne
  refine ⟨x, dx, a, b, rfl, upd_same, by omega, Sz.log sb k0 (by omega), fun t u H' fr hx kp => ⟨rfl, ?_⟩⟩
  have q := q_mk (k := k) ⟨dx, hx⟩ fr (by omega) sa sb
  rw [qmk_pos hb] at q
  exact f x H' (made_same nx nd kp) q
/-! ### draws -/
/-- one of a list -/
def sp_of (K : PySem.W.Frag) : Sp := fun vs H Q _ => ∃ (h l : Addr) (n : Nat) (xs : List V), vs = [.ref h, .ref l] ∧ HandAt H h n ∧ n < 100000 ∧ SqL K H l xs ∧ l ≠ h ∧ 0 < xs.length ∧ xs.length ≤ 1000 ∧
  ∀ (i : Nat) (x : V) (H' : Hp), xs[i]? = some x → HandAt H' h (n + 1) → Kp h H H' → Q x H'
end My
namespace My
open PySem PySem.Spec PyProof.Rows L2
theorem HandAt.put {H : Hp} {h l : Addr} {u : HO} {n : Nat} (a : HandAt H h n) (ne : l ≠ h) : HandAt (upd H l u) h n := by
  obtain ⟨x, y, z, h1, h2⟩ := a
  exact ⟨x, y, z, by rw [upd_ne ne.symm]; exact h1, h2⟩
theorem Kp.fresh {h l : Addr} {H H1 : Hp} (k : Kp h H H1) (hn : H1 l = none) (ne : l ≠ h) : H l = none := by
  cases e : H l with
  | none => rfl
  | some o => rw [k l o e ne] at hn; cases hn
theorem Kp.putN {h l : Addr} {H H1 : Hp} {u : HO} (k : Kp h H H1) (hn : H l = none) : Kp h H (upd H1 l u) := fun c o e n => by
  rw [upd_ne (ne_of_none e hn)]; exact k c o e n
theorem geI {n : Nat} {zs : List Int} (h : n < zs.length) : ∃ a, zs[n]? = some a := ⟨_, List.getElem?_eq_getElem h⟩
def optZ : Option Int → V
  | none => .non
  | some z => .int z
/-- a ladder in whole parts, as the laws draw it -/
structure LawL (H : Hp) (p : Addr) (part : Int) (ms : List Int) (r : Str) (lo hi : Option Int) : Prop where
  ob : ∃ T, H p = some (.tup [.int part, .ref T, .str r, optZ lo, optZ hi]) ∧ H T = some (.tup (ms.map V.int))
  p0 : 0 < part
  p1 : part ≤ 10007
  len0 : 0 < ms.length
  len1 : ms.length ≤ 24
  rise : ∀ (i : Nat) (a b : Int), ms[i]? = some a → ms[i + 1]? = some b → a < b
  four : ∀ m ∈ ms, m % 4 = 0
  bnd : ∀ m ∈ ms, -4000000 ≤ m ∧ m ≤ 4000000
  blo : ∀ z, lo = some z → -4000040 ≤ z ∧ z ≤ 4000040
  bhi : ∀ z, hi = some z → -4000040 ≤ z ∧ z ≤ 4000040
  rule : IsRule r
  span : ∀ a b, lo = some a → hi = some b → a ≤ b
section
variable {H H' : Hp} {p : Addr} {part : Int} {ms : List Int} {r : Str} {lo hi : Option Int}
theorem LawL.same (a : LawL H p part ms r lo hi) (s : Same H H') : LawL H' p part ms r lo hi := by
  obtain ⟨⟨T, h1, h2⟩, a1⟩ := a
  exact ⟨⟨T, s _ _ h1, s _ _ h2⟩, by assumption, by assumption, by assumption, by assumption, by assumption, by assumption, by assumption, by assumption, by assumption, by assumption, by assumption⟩
end
/-- whole numbers within a bound -/
def IntsB (B : Int) (xs : List V) : Prop := ∀ x ∈ xs, ∃ z : Int, x = .int z ∧ -B ≤ z ∧ z ≤ B
theorem IntsB.app {B : Int} {xs ys : List V} (a : IntsB B xs) (b : IntsB B ys) : IntsB B (xs ++ ys) := fun x h => by
  rcases List.mem_append.mp h with h | h
  · exact a x h
  · exact b x h
theorem IntsB.mono {B B' : Int} {xs : List V} (a : IntsB B xs) (l : B ≤ B') : IntsB B' xs := fun x h => by
  obtain ⟨z, e, h1, h2⟩ := a x h
  exact ⟨z, e, by omega, by omega⟩
theorem IntsB.ints {B : Int} : ∀ {xs : List V}, IntsB B xs → ∃ ys : List Int, xs = ys.map V.int ∧ ∀ y ∈ ys, -B ≤ y ∧ y ≤ B
  | [], _ => ⟨[], rfl, fun y h => by simp at h⟩
  | x :: xs, a => by
    obtain ⟨z, rfl, h1⟩ := a x (by simp)
    obtain ⟨ys, e, h2⟩ := IntsB.ints (xs := xs) fun w hw => a w (by simp [hw])
    refine ⟨z :: ys, by rw [e]; rfl, fun y hy => ?_⟩
    rcases List.mem_cons.mp hy with e | e
    · rw [e]; exact h1
    · exact h2 y e
theorem IntsB.of {B : Int} {ms : List Int} (h : ∀ m ∈ ms, -B ≤ m ∧ m ≤ B) : IntsB B (ms.map V.int) := fun x hx => by
  obtain ⟨m, hm, rfl⟩ := List.mem_map.mp hx
  exact ⟨m, rfl, h m hm⟩
/-! ### sizes by whole numbers -/
abbrev RiseI (ms : List Int) : Prop := ∀ (i : Nat) (a b : Int), ms[i]? = some a → ms[i + 1]? = some b → a < b
theorem RiseI.tail {x : Int} {ms : List Int} (h : RiseI (x :: ms)) : RiseI ms := fun i a b h1 h2 => h (i + 1) a b (by simpa using h1) (by simpa using h2)
theorem RiseI.head : ∀ {ms : List Int} {x : Int}, RiseI (x :: ms) → ∀ m ∈ ms, x < m
  | [], _, _, m, hm => by simp at hm
  | y :: ms, x, h, m, hm => by
    have h0 : x < y := h 0 x y rfl rfl
    rcases List.mem_cons.mp hm with e | e
    · rw [e]; exact h0
    · have := RiseI.head h.tail m e
      omega
theorem RiseI.lt {ms : List Int} (h : RiseI ms) : ∀ {j : Nat} {i : Nat} {a b : Int}, i < j → ms[i]? = some a → ms[j]? = some b → a < b
  | 0, _, _, _, hi, _, _ => by omega
  | j + 1, i, a, b, hi, ha, hb => by
    obtain ⟨c, hc⟩ := geI (zs := ms) (n := j) (by have := (List.getElem?_eq_some_iff.mp hb).1; omega)
    have h1 := h j c b hc hb
    by_cases e : i = j
    · subst e
      rw [ha] at hc
      cases hc
      exact h1
    · have := RiseI.lt h (show i < j by omega) ha hc
      omega
section
variable {ms : List Int} {d z : Int} {lo hi : Option Q2}
end
theorem rep_fm (n : Nat) : (List.replicate n (some (V.bl true))).filterMap _root_.id = (List.replicate n true).map V.bl := by
  induction n with
  | zero => rfl
  | succ n ih => rw [List.replicate_succ, List.replicate_succ]; simpa using ih
theorem rep_all (n : Nat) : (List.replicate n true).all _root_.id = true := by
  induction n with
  | zero => rfl
  | succ n ih => rw [List.replicate_succ]; simpa using ih
/-- the numbers from 0 on of which c holds -/
def idx (n : Nat) (c : Nat → Bool) : List Int := ((List.range n).filter c).map fun k : Nat => (k : Int)
def oIdx (n : Nat) (c : Nat → Bool) : List (Option V) := (List.range n).map fun k => if c k then some (.int (k : Int)) else none
theorem oIdx_len (n : Nat) (c : Nat → Bool) : (oIdx n c).length = n := by unfold oIdx; simp
theorem oIdx_get {n i : Nat} {c : Nat → Bool} {z : Option V} (h : (oIdx n c)[i]? = some z) : z = if c i then some (.int (i : Int)) else none := by
  unfold oIdx at h
  rw [List.getElem?_map] at h
  by_cases hi : i < n
  · rw [List.getElem?_range hi] at h
    exact (Option.some.inj h).symm
  · rw [List.getElem?_eq_none (by simpa using hi)] at h
    cases h
theorem oIdx_fm (n : Nat) (c : Nat → Bool) : (oIdx n c).filterMap _root_.id = (idx n c).map V.int := by
  unfold oIdx idx
  rw [List.filterMap_map, List.map_map]
  generalize List.range n = l
  induction l with
  | nil => rfl
  | cons x l ih =>
    rw [List.filterMap_cons, List.filter_cons]
    cases e : c x
    · simpa [e] using ih
    · simpa [e] using ih
/-! ### what the laws' own defs promise -/
end My
namespace My
open PySem PySem.Spec PyProof.Rows L2
/-! ### the stretches of a ladder's sizes -/
section
variable {X : Cx} {K : PySem.W.Frag}
end
/-- a Stretch whose ends are these fractions -/
def StQ (CM CS : Addr) (H : Hp) (p : Addr) (x y : Option Q2 × Bool) : Prop := ∃ lo hi, StAt CM CS H p lo hi (x.2 && x.1.isSome) (y.2 && y.1.isSome) ∧ ReO lo x.1 ∧ ReO hi y.1
theorem StQ.same {CM CS p : Addr} {H H' : Hp} {x y : Option Q2 × Bool} (a : StQ CM CS H p x y) (s : Same H H') : StQ CM CS H' p x y := by
  obtain ⟨lo, hi, h1, h2, h3⟩ := a
  exact ⟨lo, hi, h1.same s, h2, h3⟩
def CutQ (CM CS : Addr) (H : Hp) (v : V) (x y : Option Q2 × Bool) : Prop := ∃ x' y', CutV CM CS H v x' y' ∧ Alike x' x ∧ Alike y' y
theorem CutQ.same {CM CS : Addr} {H H' : Hp} {v : V} {x y : Option Q2 × Bool} (a : CutQ CM CS H v x y) (s : Same H H') : CutQ CM CS H' v x y := by
  obtain ⟨x', y', h1, h2, h3⟩ := a
  exact ⟨x', y', h1.same s, h2, h3⟩
/-! between neighbours there is something -/
/-- the fractions' bottoms are above nought -/
def PosL (zs : List Q2) : Prop := ∀ z ∈ zs, 0 < z.2
theorem Mks.posL {C : Addr} {H : Hp} {k : Nat} {ps : List V} {zs : List Q2} (m : Mks C H k ps zs) : PosL zs := fun z hz => by
  obtain ⟨i, hi⟩ := List.mem_iff_getElem?.mp hz
  obtain ⟨p, _, q⟩ := m.at hi
  exact q.pos
end My
namespace My
open PySem PySem.Spec PyProof.Rows L2
/-! ### defs that are called where no text of a list or tuple is under way -/
section
variable {P : Program} {w : World} {K : PySem.W.Frag} {mg : Str → Option Value} {base : Heap} {x qual : Str} {params : Arguments} {body : List Stmt} {scope : Scope} {dvs : List V} {kws : List (Str × V)} {f : Addr} {fd : FuncData}
end
section
variable {X : Cx} {CX : CXT} {k : Nat} {f : Addr} {fd : FuncData} {ps : List Str} {sp : Sp} {dvs : List V} {ds : List Value} {E : XK} {x : Str} {p pos : Pos} {e : Expr} {es : List Expr} {t : TA}
end
/-! ### the law is called where none is under way -/
end My
namespace My
open PySem PySem.Spec PyProof.Rows L2
/-! ### tuples: sums and slices, whatever their lengths -/
section
variable {X : Cx} {K : PySem.W.Frag}
def rSlU (K : PySem.W.Frag) : V → Option Int → Option Int → Hp → VK → Prop := fun x lo hi H Q => ∃ (a : Addr) (xs : List V), x = .ref a ∧ SqT K H a xs ∧ ∀ (p : Addr) (H' : Hp), Same H H' → SqT K H' p (cutV xs lo hi) → Q (.ref p) H'
theorem slU (hK : X.K = K := by rfl) : SlR X (rSlU K) := by
  subst hK
  intro pins s σ H x v vl vu lo hi sl Q I rx hs pl pu h
  obtain ⟨a, xs, e1, hx, q⟩ := h
  refine sl_tupA pins s σ H x v vl vu lo hi sl Q I rx hs pl pu ⟨a, xs, e1, hx, fun e => q a H (Same.refl _) ?_, fun _ p np => q p _ (same1 np) (SqT.of upd_same)⟩
  have e2 : cutV xs lo hi = xs := by
    unfold cutV
    rw [e.1, e.2, List.drop_zero, Nat.sub_zero, List.take_length]
  rw [e2]
  exact hx
end
theorem cutV_drop (xs : List V) {i : Int} {n : Nat} (e : i = (n : Int)) : cutV xs (some i) none = xs.drop n := by
  subst e
  unfold cutV
  rw [HT.sIx_none, HT.sIx_nat]
  by_cases h : n ≤ xs.length
  · rw [Nat.min_eq_left h, List.take_of_length_le (by rw [List.length_drop]; omega)]
  · rw [Nat.min_eq_right (by omega), Nat.sub_self, List.take_zero, List.drop_eq_nil_of_le (by omega)]
/-! ### rows, as the laws draw them -/
structure RowsL (H : Hp) (p : Addr) (part : Int) (ts : List Int) : Prop where
  ob : ∃ T, H p = some (.tup [.int part, .ref T]) ∧ H T = some (.tup (ts.map V.int))
  p0 : 0 < part
  p1 : part ≤ 10007
  len0 : 0 < ts.length
  len1 : ts.length ≤ 24
  bnd : ∀ t ∈ ts, -2000000 ≤ t ∧ t ≤ 2000000
theorem RowsL.same {H H' : Hp} {p : Addr} {part : Int} {ts : List Int} (a : RowsL H p part ts) (s : Same H H') : RowsL H' p part ts := by
  obtain ⟨⟨T, h1, h2⟩, a1, a2, a3, a4, a5⟩ := a
  exact ⟨⟨T, s _ _ h1, s _ _ h2⟩, a1, a2, a3, a4, a5⟩
/-! ### tuples of whole numbers as data -/
def intsD (zs : List Int) : PyData := .tuple (zs.map PyData.int)
theorem dpI {K : PySem.W.Frag} {H : Hp} : ∀ zs : List Int, DpAll K H (zs.map V.int) (zs.map PyData.int)
  | [] => .nil
  | z :: zs => .cons (.int z) (dpI zs)
theorem dpT {K : PySem.W.Frag} {H : Hp} {p : Addr} {zs : List Int} (h : H p = some (.tup (zs.map V.int))) : Dp K H (.ref p) (intsD zs) := .tup (SqT.of h) (dpI zs)
end My
namespace My
open PySem PySem.Spec PyProof.Rows L2
/-! ### a list or a tuple, walked -/
section
variable {X : Cx} {tg : Expr}
def iSeq (K : PySem.W.Frag) (tl : TE) : TI := fun σ H R => tl σ H fun x H1 => ∃ a, x = .ref a ∧ (((∃ xs, SqL K H1 a xs) ∧ R (Itl K a) H1) ∨ ((∃ xs, SqT K H1 a xs) ∧ R (Itt K a) H1))
theorem pi_seq {l : Expr} {tl : TE} (hl : PE X l tl) : PI X tg l (iSeq X.K tl) := by
  refine ⟨fun pins s σ H R I h => ?_⟩
  refine thn (hl.run pins s σ H _ I h) fun v s1 ⟨x, H1, I1, r1, q1⟩ => ?_
  obtain ⟨a, e, q1⟩ := q1
  subst e
  cases r1
  have fresh : ∀ b ∈ [s1.heap.objs.size], FpOk X pins H1 b := fun b hb => by
    have e : b = s1.heap.objs.size := by simpa using hb
    subst e
    exact I1.fpOk (Nat.le_refl _) (I1.hok.fresh (Nat.le_refl _))
  rcases q1 with ⟨⟨xs, hq⟩, q⟩ | ⟨⟨xs, hq⟩, q⟩
  · obtain ⟨its, rv, p, hz⟩ := I1.list hq
    refine wpAny_pyIter_list p.isList ?_
    exact ⟨s1.heap.objs.size, [s1.heap.objs.size], _, _, H1, rfl, I1.kept (t' := s1.toks) fun b o e => Heap.get?_push_of_some _ e, turn_list a _, ⟨_, Heap.get?_push_size _ rfl, rfl, rfl⟩, fresh, q⟩
  · obtain ⟨its, rv, p, hz⟩ := I1.tuple hq
    refine wpAny_pyIter_tuple (show s1.heap.IsTuple a its.toArray from p) ?_
    exact ⟨s1.heap.objs.size, [s1.heap.objs.size], _, _, H1, rfl, I1.kept (t' := s1.toks) fun b o e => Heap.get?_push_of_some _ e, turn_tuple a _, ⟨_, Heap.get?_push_size _ rfl, rfl, rfl⟩, fresh, q⟩
end
/-- a def that calls itself, ahead of its own promise -/
theorem fn_never {P : Program} {w : World} {K : PySem.W.Frag} {mg : Str → Option Value} {base : Heap} {CX : CXT} {k : Nat} {f : Addr} {fd : FuncData} {ps : List Str} : FnOk P w K mg base CX k f fd ps (fun _ _ _ _ => False) :=
  ⟨fun _ _ _ _ h => h.elim, fun _ _ _ _ _ _ _ _ _ _ _ _ _ h => h.elim⟩
/-! ### fractions as pairs of whole numbers -/
def TQ (H : Hp) (v : V) (k : Nat) (z : Q2) : Prop := ∃ p, v = .ref p ∧ H p = some (.tup [.int z.1, .int z.2]) ∧ 0 < z.2 ∧ Sz k z.1 ∧ Sz k z.2
section
variable {H H' : Hp} {v : V} {k j : Nat} {z : Q2}
theorem TQ.same (a : TQ H v k z) (s : Same H H') : TQ H' v k z := by
  obtain ⟨p, h1, h2, h3⟩ := a
  exact ⟨p, h1, s _ _ h2, h3⟩
theorem TQ.nl (a : TQ H v k z) (s : Nl H H') : TQ H' v k z := by
  obtain ⟨p, h1, h2, h3⟩ := a
  exact ⟨p, h1, s _ _ h2 rfl, h3⟩
theorem TQ.kp {h : Addr} {n : Nat} (a : TQ H v k z) (hh : HandAt H h n) (s : Kp h H H') : TQ H' v k z := by
  obtain ⟨p, h1, h2, h3⟩ := a
  exact ⟨p, h1, s.get hh h2 rfl, h3⟩
theorem TQ.mono (a : TQ H v k z) (l : k ≤ j) : TQ H v j z := by
  obtain ⟨p, h1, h2, h3, h4, h5⟩ := a
  exact ⟨p, h1, h2, h3, h4.mono l, h5.mono l⟩
theorem TQ.pos (a : TQ H v k z) : 0 < z.2 := by
  obtain ⟨p, h1, h2, h3, h4, h5⟩ := a
  exact h3
theorem TQ.mk {p : Addr} {a b : Int} (h : H p = some (.tup [.int a, .int b])) (hb : 0 < b) (s1 : Sz k a) (s2 : Sz k b) : TQ H (.ref p) k (a, b) := ⟨p, rfl, h, hb, s1, s2⟩
end
structure Tqs (H : Hp) (k : Nat) (vs : List V) (zs : List Q2) : Prop where
  len : vs.length = zs.length
  all : ∀ (i : Nat) (v : V) (z : Q2), vs[i]? = some v → zs[i]? = some z → TQ H v k z
section
variable {H H' : Hp} {k j : Nat} {vs : List V} {zs : List Q2}
theorem Tqs.same (m : Tqs H k vs zs) (s : Same H H') : Tqs H' k vs zs := ⟨m.len, fun i v z h1 h2 => (m.all i v z h1 h2).same s⟩
theorem Tqs.nl (m : Tqs H k vs zs) (s : Nl H H') : Tqs H' k vs zs := ⟨m.len, fun i v z h1 h2 => (m.all i v z h1 h2).nl s⟩
theorem Tqs.kp {h : Addr} {n : Nat} (m : Tqs H k vs zs) (hh : HandAt H h n) (s : Kp h H H') : Tqs H' k vs zs := ⟨m.len, fun i v z h1 h2 => (m.all i v z h1 h2).kp hh s⟩
theorem Tqs.mono (m : Tqs H k vs zs) (l : k ≤ j) : Tqs H j vs zs := ⟨m.len, fun i v z h1 h2 => (m.all i v z h1 h2).mono l⟩
theorem Tqs.at (m : Tqs H k vs zs) {i : Nat} {z : Q2} (h : zs[i]? = some z) : ∃ v, vs[i]? = some v ∧ TQ H v k z := by
  have hi : i < vs.length := by rw [m.len]; exact (List.getElem?_eq_some_iff.mp h).1
  exact ⟨_, List.getElem?_eq_getElem hi, m.all i _ z (List.getElem?_eq_getElem hi) h⟩
theorem Tqs.of (m : Tqs H k vs zs) {i : Nat} {v : V} (h : vs[i]? = some v) : ∃ z, zs[i]? = some z ∧ TQ H v k z := by
  have hi : i < zs.length := by rw [← m.len]; exact (List.getElem?_eq_some_iff.mp h).1
  exact ⟨_, List.getElem?_eq_getElem hi, m.all i v _ h (List.getElem?_eq_getElem hi)⟩
theorem Tqs.snoc (m : Tqs H k vs zs) {v : V} {z : Q2} (t : TQ H v k z) : Tqs H k (vs ++ [v]) (zs ++ [z]) := by
  refine ⟨by rw [List.length_append, List.length_append, m.len]; rfl, fun i w y h1 h2 => ?_⟩
  by_cases hi : i < vs.length
  · rw [List.getElem?_append_left hi] at h1
    rw [List.getElem?_append_left (by rw [← m.len]; exact hi)] at h2
    exact m.all i w y h1 h2
  · have l1 := (List.getElem?_eq_some_iff.mp h1).1
    rw [List.length_append, List.length_singleton] at l1
    have e : i = vs.length := by omega
    rw [e, List.getElem?_append_right (Nat.le_refl _), Nat.sub_self] at h1
    rw [e, m.len, List.getElem?_append_right (Nat.le_refl _), Nat.sub_self] at h2
    cases h1; cases h2
    exact t
theorem Tqs.one {v : V} {z : Q2} (t : TQ H v k z) : Tqs H k [v] [z] := (⟨rfl, fun i w y h1 => by simp at h1⟩ : Tqs H k [] []).snoc t
theorem Tqs.cons (m : Tqs H k vs zs) {v : V} {z : Q2} (t : TQ H v k z) : Tqs H k (v :: vs) (z :: zs) := by
  refine ⟨by rw [List.length_cons, List.length_cons, m.len], fun i w y h1 h2 => ?_⟩
  cases i with
  | zero => cases h1; cases h2; exact t
  | succ i => exact m.all i w y (by simpa using h1) (by simpa using h2)
theorem Tqs.nil : Tqs H k [] [] := ⟨rfl, fun i w y h1 => by simp at h1⟩
theorem Mks.mono {C : Addr} {ps : List V} (m : Mks C H k ps zs) (l : k ≤ j) : Mks C H j ps zs := ⟨m.len, fun i v z h1 h2 => by
  obtain ⟨p, e, q⟩ := m.all i v z h1 h2
  exact ⟨p, e, q.mono l⟩⟩
theorem QO.mono {C : Addr} {v : V} (l : k ≤ j) : ∀ {e : Option Q2}, QO C H k v e → QO C H j v e
  | none, h => h
  | some _, ⟨p, h1, h2⟩ => ⟨p, h1, h2.mono l⟩
end
theorem rise_snocQ {zs : List Q2} {x : Q2} (h : RiseQ zs) (hx : ∀ n a, zs[n]? = some a → n + 1 = zs.length → ltq a x = true) : RiseQ (zs ++ [x]) := by
  intro i a b ha hb
  have l1 := (List.getElem?_eq_some_iff.mp hb).1
  rw [List.length_append, List.length_singleton] at l1
  rw [List.getElem?_append_left (by omega)] at ha
  by_cases hi : i + 1 < zs.length
  · rw [List.getElem?_append_left hi] at hb
    exact h i a b ha hb
  · have e : i + 1 = zs.length := by omega
    rw [e, List.getElem?_append_right (Nat.le_refl _), Nat.sub_self] at hb
    have eb : x = b := by simpa using hb
    rw [← eb]
    exact hx i a ha e
theorem ltq_more {x y : Q2} (hx : 0 < x.2) (hy : 0 < y.2) (h : 0 < y.1) : ltq x (qadd x y) = true := by
  unfold ltq qadd
  refine decide_eq_true ?_
  show x.1 * (x.2 * y.2) < (x.1 * y.2 + y.1 * x.2) * x.2
  have e : (x.1 * y.2 + y.1 * x.2) * x.2 = x.1 * (x.2 * y.2) + y.1 * (x.2 * x.2) := by grind
  have := Int.mul_pos h (Int.mul_pos hx hx)
  omega
theorem ltq_moreR {x y z : Q2} (hx : 0 < x.2) (hy : 0 < y.2) (h : 0 < y.1) (r : Re z (qadd x y)) : ltq x z = true := by
  rw [ltq_congr (Re.refl hx) r]
  exact ltq_more hx hy h
theorem Re.pos1 {z w : Q2} (r : Re z w) (h : 0 < w.1) : 0 < z.1 := by
  obtain ⟨h1, h2, e⟩ := r
  have p : 0 < w.1 * z.2 := Int.mul_pos h h1
  rw [← e] at p
  exact Int.pos_of_mul_pos_left p h2 |> fun q => q
theorem leq_not {a b : Q2} : leq a b = !ltq b a := by
  unfold leq ltq eqq
  rw [← Bool.decide_or, ← decide_not]
  exact decide_eq_decide.mpr ⟨fun h => by omega, fun h => by omega⟩
theorem leq_congr {a b c d : Q2} (h : Re a c) (g : Re b d) : leq a b = leq c d := by rw [leq_not, leq_not, ltq_congr g h]
theorem span_leq (a b : Q2) : spanB (some a) (some b) = (ltq a b || eqq a b) := by
  show (!ltq b a) = leq a b
  rw [leq_not]
/-! ### what the defs of pairs promise -/
def sp_plain : Sp := fun vs H Q _ => ∃ (a b : Int) (k : Nat), vs = [.int a, .int b] ∧ 0 < b ∧ Sz k a ∧ Sz k b ∧ 0 < k ∧ k ≤ 8000 ∧ ∀ (v : V) (z : Q2) (H' : Hp), Same H H' → TQ H' v k z → Re z (a, b) → Q v H'
def sp_sum : Sp := fun vs H Q _ => ∃ (v w : V) (k j : Nat) (x y : Q2), vs = [v, w] ∧ TQ H v k x ∧ TQ H w j y ∧ 0 < k ∧ 0 < j ∧ k + j < 8000 ∧ ∀ (v' : V) (z : Q2) (H' : Hp), Same H H' → TQ H' v' (k + j + 1) z → Re z (qadd x y) → Q v' H'
def sp_less : Sp := fun vs H Q _ => ∃ (v w : V) (k j : Nat) (x y : Q2), vs = [v, w] ∧ TQ H v k x ∧ TQ H w j y ∧ 0 < k ∧ 0 < j ∧ k + j < 9000 ∧ Q (.bl (ltq x y)) H
def sp_meass (K : PySem.W.Frag) (CM : Addr) : Sp := fun vs H Q _ => ∃ (p : Addr) (k : Nat) (us : List V) (zs : List Q2), vs = [.ref p] ∧ (SqL K H p us ∨ SqT K H p us) ∧ Tqs H k us zs ∧ 0 < k ∧ k ≤ 4000 ∧ zs.length ≤ 24 ∧
  ∀ (T : Addr) (ps : List V) (H' : Hp), Same H H' → H' T = some (.tup ps) → Mks CM H' k ps zs → Q (.ref T) H'
def sp_lpart : Sp := fun vs H Q _ => ∃ (h : Addr) (n : Nat), vs = [.ref h] ∧ HandAt H h n ∧ n < 90000 ∧ ∀ (v : V) (z : Q2) (H' : Hp), HandAt H' h (n + 2) → Kp h H H' → TQ H' v 20 z → 0 < z.1 → Q v H'
def sp_marks : Sp := fun vs H Q _ => ∃ (h : Addr) (n m : Nat), vs = [.ref h, .int m] ∧ HandAt H h n ∧ n < 10000 ∧ 0 < m ∧ m ≤ 24 ∧
  ∀ (l : Addr) (us : List V) (zs : List Q2) (H' : Hp), HandAt H' h (n + 60) → Kp h H H' → l ≠ h → H' l = some (.lst us) → Tqs H' (12 + 21 * m) us zs → 0 < zs.length → zs.length ≤ m → RiseQ zs → Q (.ref l) H'
/-- None, or a Measure, or another one where it is None -/
def sp_mor (CM : Addr) : Sp := fun vs H Q _ => ∃ (v : V) (k : Nat) (e : Option Q2), vs = [v, .int 0] ∧ QO CM H k v e ∧ 0 < k ∧ k ≤ 8000 ∧ ∀ (p : Addr) (H' : Hp), Same H H' → QAt CM H' p k (e.getD (0, 1)) → Q (.ref p) H'
def sp_span (CM : Addr) : Sp := fun vs H Q _ => ∃ (l h : V) (k : Nat) (lo hi : Option Q2), vs = [l, h] ∧ QO CM H k l lo ∧ QO CM H k h hi ∧ k ≤ 9000 ∧ Q (.bl (spanB lo hi)) H
theorem rise_ltq {zs : List Q2} (h : RiseQ zs) (hp : ∀ z ∈ zs, 0 < z.2) : ∀ {j i : Nat} {a b : Q2}, i < j → zs[i]? = some a → zs[j]? = some b → ltq a b = true
  | 0, _, _, _, hi, _, _ => by omega
  | j + 1, i, a, b, hi, ha, hb => by
    obtain ⟨c, hc⟩ := ge2 (zs := zs) (n := j) (by have := (List.getElem?_eq_some_iff.mp hb).1; omega)
    have h1 := h j c b hc hb
    by_cases e : i = j
    · subst e
      rw [ha] at hc
      cases hc
      exact h1
    · exact ltq_trans (hp c (List.mem_of_getElem? hc)) (hp a (List.mem_of_getElem? ha)) (hp b (List.mem_of_getElem? hb)) (rise_ltq h hp (show i < j by omega) ha hc) h1
theorem Tqs.posL {H : Hp} {k : Nat} {vs : List V} {zs : List Q2} (m : Tqs H k vs zs) : ∀ z ∈ zs, 0 < z.2 := fun z hz => by
  obtain ⟨i, hi⟩ := List.mem_iff_getElem?.mp hz
  obtain ⟨v, _, t⟩ := m.at hi
  exact t.pos
/-- None, or a pair -/
def TOq (H : Hp) (k : Nat) (v : V) : Option Q2 → Prop
  | none => v = .non
  | some z => TQ H v k z
theorem TOq.same {H H' : Hp} {k : Nat} {v : V} : ∀ {e : Option Q2}, TOq H k v e → Same H H' → TOq H' k v e
  | none, h, _ => h
  | some _, h, s => TQ.same h s
theorem TOq.kp {H H' : Hp} {k n : Nat} {h : Addr} {v : V} : ∀ {e : Option Q2}, TOq H k v e → HandAt H h n → Kp h H H' → TOq H' k v e
  | none, h, _, _ => h
  | some _, h, hh, s => TQ.kp h hh s
theorem QO.nl {C : Addr} {H H' : Hp} {k : Nat} {v : V} (s : Nl H H') : ∀ {e : Option Q2}, QO C H k v e → QO C H' k v e
  | none, h => h
  | some _, ⟨p, h1, h2⟩ => ⟨p, h1, h2.nl s⟩
theorem geV {n : Nat} {xs : List V} (h : n < xs.length) : ∃ a, xs[n]? = some a := ⟨_, List.getElem?_eq_getElem h⟩
theorem sqt_kp {K : PySem.W.Frag} {H H' : Hp} {h a : Addr} {n : Nat} {xs : List V} (s : SqT K H a xs) (hh : HandAt H h n) (k : Kp h H H') : SqT K H' a xs := by
  rcases s with (s | ⟨o, s⟩) | s
  · exact .inl (.inl (k.get hh s rfl))
  · exact .inl (.inr ⟨o, k.get hh s rfl⟩)
  · exact .inr s
theorem LadAt.kp {K : PySem.W.Frag} {CM CL p h : Addr} {H H' : Hp} {k n : Nat} {zs : List Q2} {r : Str} {lo hi : Option Q2} (a : LadAt K CM CL H p k zs r lo hi) (hh : HandAt H h n) (s : Kp h H H') : LadAt K CM CL H' p k zs r lo hi := by
  obtain ⟨⟨dx, T, ps, l, u, h1, h2, h3, h4, h5⟩, a1, a2, a3, a4, a5⟩ := a
  exact ⟨⟨dx, T, ps, l, u, s.get hh h1 rfl, sqt_kp h2 hh s, h3.kp hh s, h4.kp hh s, h5.kp hh s⟩, a1, a2, a3, a4, a5⟩
end My
namespace My
open PySem PySem.Spec PyProof.Rows L2
/-! ### comprehensions that draw -/
theorem Kp.nlh {h : Addr} {H H' : Hp} {n : Nat} (k : Kp h H H') (hh : HandAt H h n) : Nl H H' := fun c o e no => k c o e (hh.apart e no)
/-! ### things that are the same, one within another -/
def AtomV (x : V) : Prop := (∃ z : Int, x = .int z) ∨ (∃ s : Str, x = .str s) ∨ x = .non ∨ ∃ b : Bool, x = .bl b
def SameV (K : PySem.W.Frag) (H : Hp) : Nat → V → V → Prop
  | 0, x, y => x = y ∧ AtomV x
  | n + 1, x, y => (x = y ∧ AtomV x) ∨ ∃ p q xs ys, x = .ref p ∧ y = .ref q ∧ SqT K H p xs ∧ SqT K H q ys ∧ xs.length = ys.length ∧ xs.length ≤ 900 ∧ ∀ (i : Nat) (a b : V), xs[i]? = some a → ys[i]? = some b → SameV K H n a b
theorem SameV.same {K : PySem.W.Frag} {H H' : Hp} (s : Same H H') : ∀ {n : Nat} {x y : V}, SameV K H n x y → SameV K H' n x y
  | 0, _, _, h => h
  | n + 1, _, _, .inl h => .inl h
  | n + 1, _, _, .inr ⟨p, q, xs, ys, h1, h2, h3, h4, h5, h6, h7⟩ => .inr ⟨p, q, xs, ys, h1, h2, s.sqt h3, s.sqt h4, h5, h6, fun i a b ha hb => SameV.same s (h7 i a b ha hb)⟩
theorem SameV.atom {K : PySem.W.Frag} {H : Hp} {x : V} (a : AtomV x) : ∀ n, SameV K H n x x
  | 0 => ⟨rfl, a⟩
  | _ + 1 => .inl ⟨rfl, a⟩
theorem SameV.ints {K : PySem.W.Frag} {H : Hp} {p q : Addr} {ss : List Int} (n : Nat) (hp : SqT K H p (ss.map V.int)) (hq : SqT K H q (ss.map V.int)) (l : ss.length ≤ 900) : SameV K H (n + 1) (.ref p) (.ref q) :=
  .inr ⟨p, q, _, _, rfl, rfl, hp, hq, rfl, by rw [List.length_map]; exact l, fun i a b ha hb => by
    rw [ha] at hb
    cases hb
    obtain ⟨s, _, rfl⟩ := List.mem_map.mp (List.mem_of_getElem? ha)
    exact SameV.atom (.inl ⟨s, rfl⟩) n⟩
def sp_sameN (K : PySem.W.Frag) (n : Nat) : Sp := fun vs H Q _ => ∃ x y : V, vs = [x, y] ∧ SameV K H n x y ∧ ∀ H', Same H H' → Q (.bl true) H'
/-! ### a Grid -/
def gf (a b c : V) : List (Str × V) := [("lengths", a), ("breadths", b), ("grade", c)]
theorem gf_put (a b c : V) : putF "grade" c (putF "breadths" b (putF "lengths" a [])) = gf a b c := by
  have e1 : putF ("breadths" : Str) b (putF ("lengths" : Str) a []) = ([("lengths", a), ("breadths", b)] : List (Str × V)) := by
    show (if ("lengths" : Str) = "breadths" then [(("lengths" : Str), b)] else (("lengths" : Str), a) :: putF "breadths" b []) = _
    rw [if_neg (by decide +kernel)] <;> rfl
  have e2 : putF ("grade" : Str) c [("lengths", a), ("breadths", b)] = gf a b c := by
    show (if ("lengths" : Str) = "grade" then _ else (("lengths" : Str), a) :: (if ("breadths" : Str) = "grade" then _ else (("breadths" : Str), b) :: putF "grade" c [])) = _
    rw [if_neg (by decide +kernel), if_neg (by decide +kernel)] <;> rfl
  rw [e1, e2]
section
variable (a b c : V)
theorem gf_lengths : (gf a b c).lookup ("lengths" : Str) = some a := by
  rw [← gf_put, lookup_putF, if_neg (by decide +kernel), lookup_putF, if_neg (by decide +kernel), lookup_putF, if_pos rfl]
theorem gf_breadths : (gf a b c).lookup ("breadths" : Str) = some b := by
  rw [← gf_put, lookup_putF, if_neg (by decide +kernel), lookup_putF, if_pos rfl]
theorem gf_grade : (gf a b c).lookup ("grade" : Str) = some c := by
  rw [← gf_put, lookup_putF, if_pos rfl]
theorem gf_no {m : Str} (h1 : ¬ m = "lengths") (h2 : ¬ m = "breadths") (h3 : ¬ m = "grade") : (gf a b c).lookup m = none := by
  rw [← gf_put, lookup_putF, if_neg h3, lookup_putF, if_neg h2, lookup_putF, if_neg h1] <;> rfl
end
structure GrdAt (K : PySem.W.Frag) (CM CL CG : Addr) (H : Hp) (p : Addr) (k : Nat) (L1 L2 : Addr) (g : Q2) : Prop where
  ob : ∃ dx q, H p = some (.ins CG dx (gf (.ref L1) (.ref L2) (.ref q))) ∧ QAt CM H q k g
theorem GrdAt.same {K : PySem.W.Frag} {CM CL CG : Addr} {H H' : Hp} {p : Addr} {k : Nat} {L1 L2 : Addr} {g : Q2} (a : GrdAt K CM CL CG H p k L1 L2 g) (s : Same H H') : GrdAt K CM CL CG H' p k L1 L2 g := by
  obtain ⟨dx, q, h1, h2⟩ := a.ob
  exact ⟨dx, q, s _ _ h1, h2.same s⟩
theorem GrdAt.kp {K : PySem.W.Frag} {CM CL CG : Addr} {H H' : Hp} {p h : Addr} {k n : Nat} {L1 L2 : Addr} {g : Q2} (a : GrdAt K CM CL CG H p k L1 L2 g) (hh : HandAt H h n) (s : Kp h H H') : GrdAt K CM CL CG H' p k L1 L2 g := by
  obtain ⟨dx, q, h1, h2⟩ := a.ob
  exact ⟨dx, q, s.get hh h1 rfl, h2.kp hh s⟩
def sp_ginit (K : PySem.W.Frag) (CM CL CG : Addr) : Sp := fun vs H Q _ => ∃ (p dx L1 L2 : Addr) (v : V) (k j : Nat) (zs ys : List Q2) (r1 r2 : Str) (lo1 hi1 lo2 hi2 e : Option Q2), vs = [.ref p, .ref L1, .ref L2, v] ∧ H p = some (.ins CG dx []) ∧ LadAt K CM CL H L1 k zs r1 lo1 hi1 ∧ LadAt K CM CL H L2 k ys r2 lo2 hi2 ∧ QO CM H j v e ∧ 0 < j ∧ j ≤ 4000 ∧
  ∀ (q : Addr) (H' : Hp), H' p = some (.ins CG dx (gf (.ref L1) (.ref L2) (.ref q))) → QAt CM H' q j (e.getD (0, 1)) → (∀ b o, H b = some o → b ≠ p → H' b = some o) → Q .non H'
theorem grd_made {K : PySem.W.Frag} {CM CL CG L1 L2 : Addr} {H : Hp} {Qa : Addr → Hp → Prop} {E : XK} {v : V} {k j : Nat} {zs ys : List Q2} {r1 r2 : Str} {lo1 hi1 lo2 hi2 e : Option Q2} (a1 : LadAt K CM CL H L1 k zs r1 lo1 hi1) (a2 : LadAt K CM CL H L2 k ys r2 lo2 hi2) (q1 : QO CM H j v e) (j0 : 0 < j) (j1 : j ≤ 4000)
    (f : ∀ (p : Addr) (H' : Hp), H p = none → Same H H' → GrdAt K CM CL CG H' p j L1 L2 (e.getD (0, 1)) → Qa p H') :
    ∀ x dx, H x = none → H dx = none → dx ≠ x → sp_ginit K CM CL CG [.ref x, .ref L1, .ref L2, v] (upd (upd H dx (.own x)) x (.ins CG dx [])) (fun v H2 => v = .non ∧ Qa x H2) E := by
  intro x dx nx nd ne
  have s0 : Same H (upd (upd H dx (.own x)) x (.ins CG dx [])) := fun c o e => by
    rw [upd_ne (ne_of_none e nx)]
    exact up1 nd e
  refine ⟨x, dx, L1, L2, v, k, j, zs, ys, r1, r2, lo1, hi1, lo2, hi2, e, rfl, upd_same, a1.same s0, a2.same s0, q1.same s0, j0, j1, fun q H' hx hq kp => ⟨rfl, ?_⟩⟩
  exact f x H' nx (made_same nx nd kp) ⟨⟨dx, q, hx, hq⟩⟩
def sp_graded (K : PySem.W.Frag) (CM CL CG : Addr) : Sp := fun vs H Q _ => ∃ (p L1 L2 : Addr) (i j : Nat) (g : Q2), vs = [.ref p, .int (i : Int)] ∧ GrdAt K CM CL CG H p j L1 L2 g ∧ i ≤ 24 ∧ 0 < j ∧ j ≤ 4000 ∧ ∀ (q : Addr) (H' : Hp), Same H H' → QAt CM H' q (j + 6 + 1) (qmul g ((i : Int), 1)) → Q (.ref q) H'
/-! ### the laws' sides of a grid -/
structure SidesAt (H : Hp) (h p : Addr) (k : Nat) (zs ys : List Q2) (g : Q2) : Prop where
  ob : ∃ l1 l2 v us ws, H p = some (.lst [.ref l1, .ref l2, v]) ∧ H l1 = some (.lst us) ∧ H l2 = some (.lst ws) ∧ Tqs H k us zs ∧ Tqs H k ws ys ∧ TQ H v 20 g ∧ p ≠ h ∧ l1 ≠ h ∧ l2 ≠ h
  l0 : 0 < zs.length
  l1 : zs.length ≤ 8
  m0 : 0 < ys.length
  m1 : ys.length ≤ 8
theorem SidesAt.same {H H' : Hp} {h p : Addr} {k : Nat} {zs ys : List Q2} {g : Q2} (a : SidesAt H h p k zs ys g) (s : Same H H') : SidesAt H' h p k zs ys g := by
  obtain ⟨⟨l1, l2, v, us, ws, a1, a2, a3, a4, a5, a6, a7⟩, b1, b2, b3, b4⟩ := a
  exact ⟨⟨l1, l2, v, us, ws, s _ _ a1, s _ _ a2, s _ _ a3, a4.same s, a5.same s, a6.same s, a7⟩, b1, b2, b3, b4⟩
theorem SidesAt.kp {H H' : Hp} {h p : Addr} {k n : Nat} {zs ys : List Q2} {g : Q2} (a : SidesAt H h p k zs ys g) (hh : HandAt H h n) (s : Kp h H H') : SidesAt H' h p k zs ys g := by
  obtain ⟨⟨l1, l2, v, us, ws, a1, a2, a3, a4, a5, a6, a7, a8, a9⟩, b1, b2, b3, b4⟩ := a
  exact ⟨⟨l1, l2, v, us, ws, s _ _ a1 a7, s _ _ a2 a8, s _ _ a3 a9, a4.kp hh s, a5.kp hh s, a6.kp hh s, a7, a8, a9⟩, b1, b2, b3, b4⟩
def sp_gr : Sp := fun vs H Q _ => ∃ (h : Addr) (n : Nat), vs = [.ref h] ∧ HandAt H h n ∧ n < 90000 ∧ ∀ (v : V) (z : Q2) (H' : Hp), HandAt H' h (n + 3) → Kp h H H' → TQ H' v 20 z → Q v H'
theorem ne_fields {H : Hp} {q p C D dq dp : Addr} {t u : Int} (hq : H q = some (.ins C dq (mf t u))) (hp : H p = some (.ins D dp [])) : q ≠ p := by
  intro e
  subst e
  rw [hq] at hp
  cases hp
theorem ne_fields2 {H : Hp} {q p C D dq dp : Addr} {t u : Int} {a b : V} (hq : H q = some (.ins C dq (mf t u))) (hp : H p = some (.ins D dp (putF "breadths" b (putF "lengths" a [])))) : q ≠ p := by
  intro e
  subst e
  rw [hq] at hp
  have e2 : mf t u = putF "breadths" b (putF "lengths" a []) := by cases hp
  have h1 := mf_top t u
  rw [e2, lookup_putF, if_neg (by decide +kernel), lookup_putF, if_neg (by decide +kernel)] at h1
  cases h1
end My
namespace My
open PySem PySem.Spec PyProof.Rows L2
/-! ### sizes by fractions -/
/-- f holds of the first ones alone -/
def DownQ (f : Q2 → Bool) (zs : List Q2) : Prop := ∀ (i j : Nat) (a b : Q2), i < j → zs[i]? = some a → zs[j]? = some b → f b = true → f a = true
theorem DownQ.tail {f : Q2 → Bool} {x : Q2} {zs : List Q2} (h : DownQ f (x :: zs)) : DownQ f zs := fun i j a b hij ha hb hf => h (i + 1) (j + 1) a b (by omega) (by simpa using ha) (by simpa using hb) hf
theorem cntQ (f : Q2 → Bool) : ∀ {zs : List Q2}, DownQ f zs → ∀ (k : Nat) (a : Q2), zs[k]? = some a → (f a = true ↔ k < zs.countP f)
  | [], _, k, a, h => by simp at h
  | x :: zs, hd, k, a, h => by
    rw [List.countP_cons]
    cases e : f x with
    | true =>
      rw [if_pos rfl]
      cases k with
      | zero =>
        have : x = a := by simpa using h
        subst this
        simp [e]
      | succ k =>
        have := cntQ f hd.tail k a (by simpa using h)
        rw [this]
        omega
    | false =>
      rw [if_neg (by simp)]
      have z0 : zs.countP f = 0 := by
        rw [List.countP_eq_zero]
        intro y hy q
        obtain ⟨n, hn⟩ := List.mem_iff_getElem?.mp hy
        have := hd 0 (n + 1) x y (by omega) rfl (by simpa using hn) q
        rw [e] at this
        cases this
      rw [z0]
      have fa : f a = false := by
        cases k with
        | zero =>
          have : x = a := by simpa using h
          rw [← this]; exact e
        | succ k =>
          cases q : f a with
          | false => rfl
          | true =>
            have := hd 0 (k + 1) x a (by omega) rfl h q
            rw [e] at this
            cases this
      rw [fa]
      simp
theorem down_lt {zs : List Q2} {x : Q2} (h : RiseQ zs) (hp : ∀ z ∈ zs, 0 < z.2) (hx : 0 < x.2) : DownQ (fun a => ltq a x) zs := fun i j a b hij ha hb hf =>
  ltq_trans (hp b (List.mem_of_getElem? hb)) (hp a (List.mem_of_getElem? ha)) hx (rise_ltq h hp hij ha hb) hf
theorem leq_trans_lt {a b c : Q2} (ha : 0 < a.2) (hb : 0 < b.2) (hc : 0 < c.2) (h : ltq a b = true) (g : leq b c = true) : leq a c = true := by
  rw [leq_not] at g ⊢
  have g' : ltq c b = false := by simpa using g
  cases e : ltq c a with
  | false => rfl
  | true =>
    rw [ltq_trans ha hc hb e h] at g'
    cases g'
theorem down_le {zs : List Q2} {x : Q2} (h : RiseQ zs) (hp : ∀ z ∈ zs, 0 < z.2) (hx : 0 < x.2) : DownQ (fun a => leq a x) zs := fun i j a b hij ha hb hf =>
  leq_trans_lt (hp a (List.mem_of_getElem? ha)) (hp b (List.mem_of_getElem? hb)) hx (rise_ltq h hp hij ha hb) hf
section
variable {zs : List Q2} {r : Str} {lo hi : Option Q2} {x : Q2}
theorem sizeQ_up (hin : inO lo hi x = true) : sizeQ zs "up" lo hi x = if zs.countP (fun a => ltq a x) < zs.length then some (zs.countP fun a => ltq a x) else none := by
  have e : sizeR zs "up" x = (zs.countP (fun a => ltq a x) : Nat) := by
    unfold sizeR
    rw [if_pos rfl]
  unfold sizeQ
  rw [if_pos hin, e]
  by_cases h : zs.countP (fun a => ltq a x) < zs.length
  · rw [if_pos ⟨by omega, by omega⟩, if_pos h]
    rfl
  · rw [if_neg (fun z => h (by omega)), if_neg h]
theorem sizeQ_dn (hin : inO lo hi x = true) : sizeQ zs "down" lo hi x = if 0 < zs.countP (fun a => leq a x) then some (zs.countP (fun a => leq a x) - 1) else none := by
  have le : zs.countP (fun a => leq a x) ≤ zs.length := List.countP_le_length
  have nd : ¬ (("down" : Str) = "up") := by decide +kernel
  have e : sizeR zs "down" x = (zs.countP (fun a => leq a x) : Nat) - 1 := by
    unfold sizeR
    rw [if_neg nd, if_pos rfl]
  unfold sizeQ
  rw [if_pos hin, e]
  by_cases h : 0 < zs.countP (fun a => leq a x)
  · rw [if_pos ⟨by omega, by omega⟩, if_pos h]
    congr 1
    omega
  · rw [if_neg (fun z => h (by omega)), if_neg h]
theorem sizeQ_nr (hin : inO lo hi x = true) (h1 : ¬ r = "up") (h2 : ¬ r = "down") (l0 : 0 < zs.length) : sizeQ zs r lo hi x = some ((midq zs).countP fun a => leq a x) := by
  have le : (midq zs).countP (fun a => leq a x) ≤ (midq zs).length := List.countP_le_length
  rw [midq_len] at le
  have e : sizeR zs r x = ((midq zs).countP (fun a => leq a x) : Nat) := by
    unfold sizeR
    rw [if_neg h1, if_neg h2]
  unfold sizeQ
  rw [if_pos hin, e, if_pos ⟨by omega, by omega⟩]
  rfl
end
end My
namespace My
open PySem PySem.Spec PyProof.Rows L2
/-! ### what stood ahead, wanted at a later heap: the step first -/
section
variable {K : PySem.W.Frag} {C CM CL CG p q h a L1 L2 : Addr} {H H' H1 : Hp} {v : V} {k j n : Nat} {z : Q2} {vs : List V} {zs ys : List Q2} {o : HO} {e : Option Q2} {r : Str} {lo hi : Option Q2}
theorem TQ.s (s : Same H H') (t : TQ H v k z) : TQ H' v k z := t.same s
theorem TQ.kq (s : Kp h H H') (hh : HandAt H h n) (t : TQ H v k z) : TQ H' v k z := t.kp hh s
theorem TQ.nq (s : Nl H H') (t : TQ H v k z) : TQ H' v k z := t.nl s
theorem Tqs.s (s : Same H H') (t : Tqs H k vs zs) : Tqs H' k vs zs := t.same s
theorem Tqs.kq (s : Kp h H H') (hh : HandAt H h n) (t : Tqs H k vs zs) : Tqs H' k vs zs := t.kp hh s
theorem QAt.s (s : Same H H') (t : QAt C H p k z) : QAt C H' p k z := t.same s
theorem QAt.kq (s : Kp h H H') (hh : HandAt H h n) (t : QAt C H p k z) : QAt C H' p k z := t.kp hh s
theorem Mks.s (s : Same H H') (t : Mks C H k vs zs) : Mks C H' k vs zs := t.same s
theorem Mks.kq (s : Kp h H H') (hh : HandAt H h n) (t : Mks C H k vs zs) : Mks C H' k vs zs := t.kp hh s
theorem QO.s (s : Same H H') (t : QO C H k v e) : QO C H' k v e := t.same s
theorem QO.kq (s : Kp h H H') (hh : HandAt H h n) (t : QO C H k v e) : QO C H' k v e := t.kp hh s
theorem TOq.s (s : Same H H') (t : TOq H k v e) : TOq H' k v e := t.same s
theorem TOq.kq (s : Kp h H H') (hh : HandAt H h n) (t : TOq H k v e) : TOq H' k v e := t.kp hh s
theorem TOq.mono (l : k ≤ j) : ∀ {e : Option Q2}, TOq H k v e → TOq H j v e
  | none, h => h
  | some _, h => TQ.mono h l
theorem LadAt.s (s : Same H H') (t : LadAt K CM CL H p k zs r lo hi) : LadAt K CM CL H' p k zs r lo hi := t.same s
theorem LadAt.kq (s : Kp h H H') (hh : HandAt H h n) (t : LadAt K CM CL H p k zs r lo hi) : LadAt K CM CL H' p k zs r lo hi := t.kp hh s
theorem LadAt.mono (t : LadAt K CM CL H p k zs r lo hi) (l : k ≤ j) : LadAt K CM CL H p j zs r lo hi := by
  obtain ⟨⟨dx, T, ps, u, w, h1, h2, h3, h4, h5⟩, a1, a2, a3, a4, a5⟩ := t
  exact ⟨⟨dx, T, ps, u, w, h1, h2, h3.mono l, h4.mono l, h5.mono l⟩, a1, a2, a3, a4, a5⟩
theorem GrdAt.s (s : Same H H') (t : GrdAt K CM CL CG H p k L1 L2 z) : GrdAt K CM CL CG H' p k L1 L2 z := t.same s
theorem GrdAt.kq (s : Kp h H H') (hh : HandAt H h n) (t : GrdAt K CM CL CG H p k L1 L2 z) : GrdAt K CM CL CG H' p k L1 L2 z := t.kp hh s
theorem SidesAt.s (s : Same H H') (t : SidesAt H h p k zs ys z) : SidesAt H' h p k zs ys z := t.same s
theorem SidesAt.kq (s : Kp h H H') (hh : HandAt H h n) (t : SidesAt H h p k zs ys z) : SidesAt H' h p k zs ys z := t.kp hh s
theorem HandAt.s (s : Same H H') (t : HandAt H h n) : HandAt H' h n := t.same s
theorem sqt_s (s : Same H H') (t : SqT K H a vs) : SqT K H' a vs := s.sqt t
theorem sqt_k (s : Kp h H H') (hh : HandAt H h n) (t : SqT K H a vs) : SqT K H' a vs := sqt_kp t hh s
theorem sql_s (s : Same H H') (t : SqL K H a vs) : SqL K H' a vs := s.seq t
theorem sql_k (s : Kp h H H') (ne : a ≠ h) (t : SqL K H a vs) : SqL K H' a vs := s.seq ne t
theorem hp_u {u : HO} {b : Addr} (np : H b = none) (t : H p = some o) : upd H b u p = some o := My.up1 np t
theorem hp_s (s : Same H H') (t : H p = some o) : H' p = some o := s _ _ t
theorem hp_k (s : Kp h H H') (hh : HandAt H h n) (no : notHand o = true) (t : H p = some o) : H' p = some o := s.get hh t no
theorem hp_l (s : Kp h H H') (ne : p ≠ h) (t : H p = some o) : H' p = some o := s _ _ t ne
theorem TQ.u {u : HO} {b : Addr} (np : H b = none) (t : TQ H v k z) : TQ (upd H b u) v k z := t.same (same1 np)
theorem Tqs.u {u : HO} {b : Addr} (np : H b = none) (t : Tqs H k vs zs) : Tqs (upd H b u) k vs zs := t.same (same1 np)
theorem QAt.u {u : HO} {b : Addr} (np : H b = none) (t : QAt C H p k z) : QAt C (upd H b u) p k z := t.same (same1 np)
theorem Mks.u {u : HO} {b : Addr} (np : H b = none) (t : Mks C H k vs zs) : Mks C (upd H b u) k vs zs := t.same (same1 np)
theorem QO.u {u : HO} {b : Addr} (np : H b = none) (t : QO C H k v e) : QO C (upd H b u) k v e := t.same (same1 np)
theorem TOq.u {u : HO} {b : Addr} (np : H b = none) (t : TOq H k v e) : TOq (upd H b u) k v e := t.same (same1 np)
theorem LadAt.u {u : HO} {b : Addr} (np : H b = none) (t : LadAt K CM CL H p k zs r lo hi) : LadAt K CM CL (upd H b u) p k zs r lo hi := t.same (same1 np)
theorem GrdAt.u {u : HO} {b : Addr} (np : H b = none) (t : GrdAt K CM CL CG H p k L1 L2 z) : GrdAt K CM CL CG (upd H b u) p k L1 L2 z := t.same (same1 np)
theorem SidesAt.u {u : HO} {b : Addr} (np : H b = none) (t : SidesAt H h p k zs ys z) : SidesAt (upd H b u) h p k zs ys z := t.same (same1 np)
theorem HandAt.u {u : HO} {b : Addr} (np : H b = none) (t : HandAt H h n) : HandAt (upd H b u) h n := t.same (same1 np)
theorem sqt_u {u : HO} {b : Addr} (np : H b = none) (t : SqT K H a vs) : SqT K (upd H b u) a vs := (same1 np).sqt t
theorem sql_u {u : HO} {b : Addr} (np : H b = none) (t : SqL K H a vs) : SqL K (upd H b u) a vs := (same1 np).seq t
theorem QO.monoR (t : QO C H k v e) (l : k ≤ j) : QO C H j v e := QO.mono l t
theorem TOq.monoR (t : TOq H k v e) (l : k ≤ j) : TOq H j v e := TOq.mono l t
theorem hand_ne (np : H p = none) (a : HandAt H h n) : p ≠ h := a.ne np
theorem same_k (k : Kp h H1 H') (nh : H h = none) (s : Same H H1) : Same H H' := s.ofKp nh k
end
theorem TQ.lit {H : Hp} {p : Addr} {a b : Int} (h : H p = some (.tup [.int a, .int b])) (hb : 0 < b) (s1 : Sz 31 a) (s2 : Sz 31 b) : TQ H (.ref p) 31 (a, b) := ⟨p, rfl, h, hb, s1, s2⟩
theorem eqv_nil : PyData.eqv (.list (([] : List Int).map PyData.int)) (.list []) = true := by
  simp [PyData.eqv, PyData.eqvAll]
theorem eqv_cons (z : Int) (zs : List Int) : PyData.eqv (.list ((z :: zs).map PyData.int)) (.list []) = false := by
  simp [PyData.eqv, PyData.eqvAll]
theorem dpL {K : PySem.W.Frag} {H : Hp} {p : Addr} {zs : List Int} (h : H p = some (.lst (zs.map V.int))) : Dp K H (.ref p) (.list (zs.map PyData.int)) := .lst (SqL.of h) (dpI zs)
theorem layI : ∀ zs : List Int, PyData.canLayAll0 (zs.map PyData.int) = true
  | [] => rfl
  | z :: zs => by
    show (true && PyData.canLayAll0 (zs.map PyData.int)) = true
    rw [layI zs]; rfl
theorem shL (zs : List Int) : SeqAt.shaped (.list (zs.map PyData.int)) = true := by
  have h := ints_depth zs
  have e1 : (PyData.list (zs.map PyData.int)).depth ≤ 64 := by
    show PyData.depthAll (zs.map PyData.int) + 1 ≤ 64
    omega
  have e2 : (PyData.list (zs.map PyData.int)).canLay0 = true := layI zs
  unfold SeqAt.shaped
  rw [e2, decide_eq_true e1]
  rfl
theorem dpN {K : PySem.W.Frag} {H : Hp} {p : Addr} (h : H p = some (.lst [])) : Dp K H (.ref p) (.list []) := .lst (SqL.of h) .nil
/-- each of these values is a fraction -/
def AllTQ (H : Hp) (k : Nat) (vs : List V) : Prop := ∀ x ∈ vs, ∃ z, TQ H x k z
theorem AllTQ.nil {H : Hp} {k : Nat} : AllTQ H k [] := fun x hx => by simp at hx
theorem AllTQ.cons {H : Hp} {k : Nat} {v : V} {z : Q2} {vs : List V} (t : TQ H v k z) (m : AllTQ H k vs) : AllTQ H k (v :: vs) := fun x hx => by
  rcases List.mem_cons.mp hx with e | e
  · rw [e]; exact ⟨z, t⟩
  · exact m x e
theorem AllTQ.app {H : Hp} {k : Nat} {vs ws : List V} (m : AllTQ H k vs) (m' : AllTQ H k ws) : AllTQ H k (vs ++ ws) := fun x hx => by
  rcases List.mem_append.mp hx with e | e
  · exact m x e
  · exact m' x e
theorem of_tq {K : PySem.W.Frag} {H : Hp} {Q : VK} {E : XK} {h l : Addr} {n k : Nat} {xs : List V} (hh : HandAt H h n) (hn : n < 100000) (hl : SqL K H l xs) (ne : l ≠ h) (l0 : 0 < xs.length) (l1 : xs.length ≤ 1000) (all : AllTQ H k xs)
    (f : ∀ (v : V) (z : Q2) (H' : Hp), HandAt H' h (n + 1) → Kp h H H' → TQ H' v k z → Q v H') : sp_of K [.ref h, .ref l] H Q E :=
  ⟨h, l, n, xs, rfl, hh, hn, hl, ne, l0, l1, fun i x H' hx hh' k' => by
    obtain ⟨z, t⟩ := all x (List.mem_of_getElem? hx)
    exact f x z H' hh' k' (t.kp hh k')⟩
/-! ### a rule, a least and a most, as the laws draw them in fractions -/
structure ChartAt (H : Hp) (T : Addr) (k : Nat) (r : Str) (lo hi : Option Q2) : Prop where
  ob : ∃ u w, H T = some (.tup [.str r, u, w]) ∧ TOq H k u lo ∧ TOq H k w hi
  rule : IsRule r
  span : spanB lo hi = true
section
variable {H H' : Hp} {T h : Addr} {k n : Nat} {r : Str} {lo hi : Option Q2}
theorem ChartAt.same (c : ChartAt H T k r lo hi) (s : Same H H') : ChartAt H' T k r lo hi := by
  obtain ⟨⟨u, w, h1, h2, h3⟩, h4, h5⟩ := c
  exact ⟨⟨u, w, s _ _ h1, h2.same s, h3.same s⟩, h4, h5⟩
theorem ChartAt.kp (c : ChartAt H T k r lo hi) (hh : HandAt H h n) (s : Kp h H H') : ChartAt H' T k r lo hi := by
  obtain ⟨⟨u, w, h1, h2, h3⟩, h4, h5⟩ := c
  exact ⟨⟨u, w, s.get hh h1 rfl, h2.kp hh s, h3.kp hh s⟩, h4, h5⟩
theorem ChartAt.u {u : HO} {b : Addr} (np : H b = none) (c : ChartAt H T k r lo hi) : ChartAt (upd H b u) T k r lo hi := c.same (same1 np)
theorem ChartAt.s (s : Same H H') (c : ChartAt H T k r lo hi) : ChartAt H' T k r lo hi := c.same s
theorem ChartAt.kq (s : Kp h H H') (hh : HandAt H h n) (c : ChartAt H T k r lo hi) : ChartAt H' T k r lo hi := c.kp hh s
end
def PosE (o : Option Q2) : Prop := ∀ a, o = some a → 0 < a.2
theorem TOq.posE {H : Hp} {k : Nat} {v : V} {e : Option Q2} (t : TOq H k v e) : PosE e := fun a ea => by
  subst ea
  exact TQ.pos t
theorem midq_pos : ∀ {zs : List Q2}, (∀ z ∈ zs, 0 < z.2) → ∀ z ∈ midq zs, 0 < z.2
  | [], _, z, hz => by simp [midq] at hz
  | [_], _, z, hz => by simp [midq] at hz
  | a :: b :: r, hp, z, hz => by
    have hz' : z ∈ qhalf a b :: midq (b :: r) := hz
    rcases List.mem_cons.mp hz' with e | e
    · rw [e, qhalf_eq]
      have := hp a (by simp)
      have := hp b (by simp)
      have := Int.mul_pos (hp a (by simp)) (hp b (by simp))
      show 0 < a.2 * b.2 * 2
      omega
    · exact midq_pos (fun y hy => hp y (by simp [hy])) z e
theorem inO_congr {lo hi : Option Q2} {x x' : Q2} (hl : PosE lo) (hh : PosE hi) (h : Re x x') : inO lo hi x = inO lo hi x' := by
  have e1 : loOk lo x = loOk lo x' := by
    cases lo with
    | none => rfl
    | some a =>
      show (!ltq x a) = (!ltq x' a)
      rw [ltq_congr h (Re.refl (hl a rfl))]
  have e2 : hiOk hi x = hiOk hi x' := by
    cases hi with
    | none => rfl
    | some a =>
      show (!ltq a x) = (!ltq a x')
      rw [ltq_congr (Re.refl (hh a rfl)) h]
  unfold inO
  rw [e1, e2]
theorem sizeQ_congr {zs : List Q2} {r : Str} {lo hi : Option Q2} {x x' : Q2} (hp : ∀ z ∈ zs, 0 < z.2) (hl : PosE lo) (hh : PosE hi) (h : Re x x') : sizeQ zs r lo hi x = sizeQ zs r lo hi x' := by
  have e1 := inO_congr hl hh h
  have e2 : sizeR zs r x = sizeR zs r x' := by
    have c1 : zs.countP (fun a => ltq a x) = zs.countP (fun a => ltq a x') := List.countP_congr fun a ha => by rw [ltq_congr (Re.refl (hp a ha)) h]
    have c2 : zs.countP (fun a => leq a x) = zs.countP (fun a => leq a x') := List.countP_congr fun a ha => by rw [leq_congr (Re.refl (hp a ha)) h]
    have c3 : (midq zs).countP (fun a => leq a x) = (midq zs).countP (fun a => leq a x') := List.countP_congr fun a ha => by rw [leq_congr (Re.refl (midq_pos hp a ha)) h]
    unfold sizeR
    rw [c1, c2, c3]
  unfold sizeQ
  rw [e1, e2]
theorem sizeQ_lt {zs : List Q2} {r : Str} {lo hi : Option Q2} {x : Q2} {i : Nat} (h : sizeQ zs r lo hi x = some i) : i < zs.length := by
  unfold sizeQ at h
  split at h
  · split at h
    · rename_i c
      have e := Option.some.inj h
      omega
    · cases h
  · cases h
def sp_chart : Sp := fun vs H Q _ => ∃ (h l : Addr) (n k : Nat) (us : List V) (zs : List Q2), vs = [.ref h, .ref l] ∧ HandAt H h n ∧ n < 10000 ∧ l ≠ h ∧ H l = some (.lst us) ∧ Tqs H k us zs ∧ 0 < k ∧ k ≤ 1000 ∧ 0 < zs.length ∧ zs.length ≤ 24 ∧
  ∀ (T : Addr) (r : Str) (lo hi : Option Q2) (H' : Hp), HandAt H' h (n + 3) → Kp h H H' → ChartAt H' T (k + 40) r lo hi → Q (.ref T) H'
def sp_lladder (K : PySem.W.Frag) (CM CL : Addr) : Sp := fun vs H Q _ => ∃ (l T : Addr) (k : Nat) (us : List V) (zs : List Q2) (r : Str) (lo hi : Option Q2), vs = [.ref l, .ref T] ∧ H l = some (.lst us) ∧ Tqs H k us zs ∧ ChartAt H T (k + 40) r lo hi ∧ 0 < k ∧ k ≤ 1000 ∧ 0 < zs.length ∧ zs.length ≤ 24 ∧ RiseQ zs ∧
  ∀ (p : Addr) (H' : Hp), Same H H' → LadAt K CM CL H' p (k + 40) zs r lo hi → Q (.ref p) H'
def sp_lsizeQ : Sp := fun vs H Q _ => ∃ (l T : Addr) (v : V) (k j m : Nat) (us : List V) (zs : List Q2) (r : Str) (lo hi : Option Q2) (x : Q2), vs = [.ref l, .ref T, v] ∧ H l = some (.lst us) ∧ Tqs H k us zs ∧ ChartAt H T j r lo hi ∧ TQ H v m x ∧ 0 < k ∧ k ≤ 1000 ∧ 0 < j ∧ j ≤ 1000 ∧ 0 < m ∧ m ≤ 1000 ∧ 0 < zs.length ∧ zs.length ≤ 24 ∧ RiseQ zs ∧
  ∀ H', Same H H' → Q (optI (sizeQ zs r lo hi x)) H'
def sp_nearQ : Sp := fun vs H Q _ => ∃ (h l : Addr) (n k : Nat) (us : List V) (zs : List Q2), vs = [.ref h, .ref l] ∧ HandAt H h n ∧ n < 10000 ∧ l ≠ h ∧ H l = some (.lst us) ∧ Tqs H k us zs ∧ 20 ≤ k ∧ k ≤ 400 ∧ 0 < zs.length ∧ zs.length ≤ 24 ∧
  ∀ (v : V) (z : Q2) (H' : Hp), HandAt H' h (n + 4) → Kp h H H' → TQ H' v (2 * k + 40) z → Q v H'
/-- a pair of sizes, or None -/
def OwnV (H : Hp) (v : V) : Option (Nat × Nat) → Prop
  | none => v = .non
  | some x => ∃ T, v = .ref T ∧ H T = some (.tup [.int (x.1 : Int), .int (x.2 : Int)])
theorem OwnV.s {H H' : Hp} {v : V} (s : Same H H') : ∀ {o : Option (Nat × Nat)}, OwnV H v o → OwnV H' v o
  | none, h => h
  | some _, ⟨T, h1, h2⟩ => ⟨T, h1, s _ _ h2⟩
theorem OwnV.alike {K : PySem.W.Frag} {H : Hp} {v w : V} : ∀ {o : Option (Nat × Nat)}, OwnV H v o → OwnV H w o → SameV K H 1 v w
  | none, h, g => by
    cases h; cases g
    exact SameV.atom (.inr (.inr (.inl rfl))) 1
  | some x, ⟨T, h1, h2⟩, ⟨T', g1, g2⟩ => by
    subst h1 g1
    exact SameV.ints (ss := [(x.1 : Int), (x.2 : Int)]) 0 (SqT.of h2) (SqT.of g2) (Nat.le_of_ble_eq_true rfl)
def ownQ (zs : List Q2) (r1 : Str) (lo1 hi1 : Option Q2) (ys : List Q2) (r2 : Str) (lo2 hi2 : Option Q2) (g x1 x2 : Q2) : Option (Nat × Nat) :=
  match sizeQ zs r1 lo1 hi1 x1 with
  | none => none
  | some i => match sizeQ ys r2 lo2 hi2 (qsub x2 (qmul g ((i : Int), 1))) with
    | none => none
    | some w => some (i, w)
def sp_own (K : PySem.W.Frag) (CM CL CG : Addr) : Sp := fun vs H Q _ => ∃ (p f L1 L2 f1 f2 : Addr) (k j m : Nat) (zs ys : List Q2) (r1 r2 : Str) (lo1 hi1 lo2 hi2 : Option Q2) (g x1 x2 : Q2), vs = [.ref p, .ref f] ∧ GrdAt K CM CL CG H p j L1 L2 g ∧ LadAt K CM CL H L1 k zs r1 lo1 hi1 ∧ LadAt K CM CL H L2 k ys r2 lo2 hi2 ∧ SqT K H f [.ref f1, .ref f2] ∧ QAt CM H f1 m x1 ∧ QAt CM H f2 m x2 ∧
  0 < j ∧ j ≤ 100 ∧ 0 < k ∧ k ≤ 300 ∧ 0 < m ∧ m ≤ 500 ∧ ∀ (v : V) (H' : Hp), Same H H' → OwnV H' v (ownQ zs r1 lo1 hi1 ys r2 lo2 hi2 g x1 x2) → Q v H'
def sp_lown (K : PySem.W.Frag) : Sp := fun vs H Q _ => ∃ (h p c c1 c2 f : Addr) (v1 v2 : V) (k j m : Nat) (zs ys : List Q2) (r1 r2 : Str) (lo1 hi1 lo2 hi2 : Option Q2) (g x1 x2 : Q2), vs = [.ref p, .ref c, .ref f] ∧ SidesAt H h p k zs ys g ∧ H c = some (.lst [.ref c1, .ref c2]) ∧ ChartAt H c1 j r1 lo1 hi1 ∧ ChartAt H c2 j r2 lo2 hi2 ∧ SqT K H f [v1, v2] ∧ TQ H v1 m x1 ∧ TQ H v2 m x2 ∧ RiseQ zs ∧ RiseQ ys ∧
  0 < j ∧ j ≤ 900 ∧ 0 < k ∧ k ≤ 900 ∧ 0 < m ∧ m ≤ 500 ∧ ∀ (v : V) (H' : Hp), Same H H' → OwnV H' v (ownQ zs r1 lo1 hi1 ys r2 lo2 hi2 g x1 x2) → Q v H'
theorem own_eq (x g : Q2) (i : Nat) : qadd x (0 - (i : Int) * g.1, g.2) = qsub x (qmul g ((i : Int), 1)) := by
  unfold qadd qsub qmul
  refine Prod.ext ?_ ?_
  · show x.1 * g.2 + (0 - (i : Int) * g.1) * x.2 = x.1 * (g.2 * 1) - (g.1 * (i : Int)) * x.2
    grind
  · show x.2 * g.2 = x.2 * (g.2 * 1)
    grind
theorem midq_rises {zs : List Q2} (h : RiseQ zs) (hp : ∀ z ∈ zs, 0 < z.2) : RiseQ (midq zs) := by
  intro i a b ha hb
  have l := (List.getElem?_eq_some_iff.mp hb).1
  rw [midq_len] at l
  obtain ⟨x, hx⟩ := ge2 (zs := zs) (n := i) (by omega)
  obtain ⟨y, hy⟩ := ge2 (zs := zs) (n := i + 1) (by omega)
  obtain ⟨z, hz⟩ := ge2 (zs := zs) (n := i + 1 + 1) (by omega)
  have ea := midq_get zs i x y hx hy
  have eb := midq_get zs (i + 1) y z hy hz
  have pa := midq_pos hp a (List.mem_of_getElem? ha)
  have pb := midq_pos hp b (List.mem_of_getElem? hb)
  rw [ea] at ha
  cases ha
  rw [eb] at hb
  cases hb
  have px := hp x (List.mem_of_getElem? hx)
  have py := hp y (List.mem_of_getElem? hy)
  have pz := hp z (List.mem_of_getElem? hz)
  have h1 : ltq (qhalf x y) y = true := by rw [(half_lo px py).2.1]; exact h i x y hx hy
  have h2 : ltq y (qhalf y z) = true := by rw [(half_lo py pz).1]; exact h (i + 1) y z hy hz
  exact ltq_trans py pa pb h1 h2
theorem down_mid {zs : List Q2} {x : Q2} (h : RiseQ zs) (hp : ∀ z ∈ zs, 0 < z.2) (hx : 0 < x.2) : DownQ (fun a => leq a x) (midq zs) := down_le (midq_rises h hp) (midq_pos hp) hx
theorem half_re {a b z : Q2} (r : Re z (qadd a b)) : Re (z.1, 2 * z.2) (qhalf a b) := by
  obtain ⟨h1, h2, h3⟩ := r
  rw [qhalf_eq]
  refine ⟨by show 0 < 2 * z.2; omega, ?_, ?_⟩
  · have h2 : 0 < a.2 * b.2 := h2
    show 0 < a.2 * b.2 * 2
    omega
  · have h3 : z.1 * (a.2 * b.2) = (a.1 * b.2 + b.1 * a.2) * z.2 := h3
    show z.1 * (a.2 * b.2 * 2) = (a.1 * b.2 + b.1 * a.2) * (2 * z.2)
    grind
/-! ### the numbers of the marks, first and last -/
def upB (zs : List Q2) (x : Q2) : Nat → Bool := fun i => match zs[i]? with | some a => !ltq a x | none => false
def dnB (zs : List Q2) (x : Q2) : Nat → Bool := fun i => match zs[i]? with | some a => !ltq x a | none => false
theorem upB_at {zs : List Q2} {x a : Q2} {i : Nat} (h : zs[i]? = some a) : upB zs x i = !ltq a x := by unfold upB; rw [h]
theorem dnB_at {zs : List Q2} {x a : Q2} {i : Nat} (h : zs[i]? = some a) : dnB zs x i = !ltq x a := by unfold dnB; rw [h]
theorem idx_up {zs : List Q2} {x : Q2} (h : RiseQ zs) (hp : ∀ z ∈ zs, 0 < z.2) (hx : 0 < x.2) : idx zs.length (upB zs x) = [] ∧ ¬ zs.countP (fun a => ltq a x) < zs.length ∨ ∃ r, idx zs.length (upB zs x) = ((zs.countP fun a => ltq a x : Nat) : Int) :: r ∧ zs.countP (fun a => ltq a x) < zs.length := by
  have le : zs.countP (fun a => ltq a x) ≤ zs.length := List.countP_le_length
  have key := cntQ _ (down_lt h hp hx)
  generalize zs.countP (fun a => ltq a x) = c at *
  have er : idx zs.length (upB zs x) = idx zs.length (fun i => decide (c ≤ i)) := by
    unfold idx
    congr 1
    refine List.filter_congr fun i hi => ?_
    have hi : i < zs.length := List.mem_range.mp hi
    rw [upB_at (List.getElem?_eq_getElem hi)]
    have := key i _ (List.getElem?_eq_getElem hi)
    cases e : ltq zs[i] x with
    | true =>
      have : i < c := this.mp e
      rw [decide_eq_false (by omega)]; rfl
    | false =>
      have : ¬ i < c := fun z => by rw [this.mpr z] at e; cases e
      rw [decide_eq_true (by omega)]; rfl
  rw [er]
  unfold idx
  by_cases hc : c < zs.length
  · refine .inr ⟨((List.range' (c + 1) (zs.length - (c + 1))).map fun k : Nat => (k : Int)), ?_, hc⟩
    have e1 : List.range zs.length = List.range' 0 c ++ List.range' c (zs.length - c) := by
      rw [List.range_eq_range']
      have := List.range'_append_1 (s := 0) (m := c) (n := zs.length - c)
      rw [Nat.zero_add] at this
      rw [this]
      congr 1
      omega
    rw [e1, List.filter_append]
    have z1 : (List.range' 0 c).filter (fun i => decide (c ≤ i)) = [] := by
      rw [List.filter_eq_nil_iff]
      intro i hi
      have := List.mem_range'_1.mp hi
      simp
      omega
    have z2 : (List.range' c (zs.length - c)).filter (fun i => decide (c ≤ i)) = List.range' c (zs.length - c) := by
      rw [List.filter_eq_self]
      intro i hi
      have := List.mem_range'_1.mp hi
      simp
      omega
    rw [z1, z2, List.nil_append]
    have e2 : zs.length - c = (zs.length - (c + 1)) + 1 := by omega
    rw [e2, List.range'_succ]
    rfl
  · refine .inl ⟨?_, hc⟩
    rw [List.map_eq_nil_iff, List.filter_eq_nil_iff]
    intro i hi
    have := List.mem_range.mp hi
    simp
    omega
theorem idx_dn {zs : List Q2} {x : Q2} (h : RiseQ zs) (hp : ∀ z ∈ zs, 0 < z.2) (hx : 0 < x.2) : idx zs.length (dnB zs x) = idx zs.length (fun i => decide (i < zs.countP fun a => leq a x)) := by
  have key := cntQ _ (down_le h hp hx)
  generalize zs.countP (fun a => leq a x) = c at *
  unfold idx
  congr 1
  refine List.filter_congr fun i hi => ?_
  have hi : i < zs.length := List.mem_range.mp hi
  rw [dnB_at (List.getElem?_eq_getElem hi)]
  have := key i _ (List.getElem?_eq_getElem hi)
  have e0 : leq zs[i] x = !ltq x zs[i] := leq_not
  rw [← e0]
  cases e : leq zs[i] x with
  | true =>
    have : i < c := this.mp e
    rw [decide_eq_true this]
  | false =>
    have : ¬ i < c := fun z => by rw [this.mpr z] at e; cases e
    rw [decide_eq_false this]
theorem idx_below {n c : Nat} (h : c ≤ n) : idx n (fun i => decide (i < c)) = (List.range c).map fun k : Nat => (k : Int) := by
  unfold idx
  congr 1
  have e1 : List.range n = List.range' 0 c ++ List.range' c (n - c) := by
    rw [List.range_eq_range']
    have := List.range'_append_1 (s := 0) (m := c) (n := n - c)
    rw [Nat.zero_add] at this
    rw [this]
    congr 1
    omega
  rw [e1, List.filter_append]
  have z1 : (List.range' 0 c).filter (fun i => decide (i < c)) = List.range' 0 c := by
    rw [List.filter_eq_self]
    intro i hi
    have := List.mem_range'_1.mp hi
    simp
    omega
  have z2 : (List.range' c (n - c)).filter (fun i => decide (i < c)) = [] := by
    rw [List.filter_eq_nil_iff]
    intro i hi
    have := List.mem_range'_1.mp hi
    simp
    omega
  rw [z1, z2, List.append_nil, List.range_eq_range']
end My
namespace My
open PySem PySem.Spec PyProof.Rows L2
/-! ### lists of numbers -/
/-! ### the sizes that fit some feet -/
structure FitsL (H : Hp) (D : Addr) (ls : List (List Int)) : Prop where
  ob : ∃ ts : List V, H D = some (.lst ts) ∧ ts.length = ls.length ∧ ∀ (i : Nat) (v : V) (l : List Int), ts[i]? = some v → ls[i]? = some l → ∃ T, v = .ref T ∧ H T = some (.tup (l.map V.int))
theorem FitsL.same {H H' : Hp} {D : Addr} {ls : List (List Int)} (a : FitsL H D ls) (s : Same H H') : FitsL H' D ls := by
  obtain ⟨ts, h1, h2, h3⟩ := a.ob
  refine ⟨ts, s _ _ h1, h2, fun i v l e1 e2 => ?_⟩
  obtain ⟨T, e, h⟩ := h3 i v l e1 e2
  exact ⟨T, e, s _ _ h⟩
theorem FitsL.at {H : Hp} {D : Addr} {ls : List (List Int)} {ts : List V} (h2 : ts.length = ls.length) (h3 : ∀ (i : Nat) (v : V) (l : List Int), ts[i]? = some v → ls[i]? = some l → ∃ T, v = .ref T ∧ H T = some (.tup (l.map V.int))) {i : Nat} {l : List Int} (h : ls[i]? = some l) : ∃ T, ts[i]? = some (.ref T) ∧ H T = some (.tup (l.map V.int)) := by
  have hi : i < ts.length := by rw [h2]; exact (List.getElem?_eq_some_iff.mp h).1
  obtain ⟨T, e, k⟩ := h3 i _ l (List.getElem?_eq_getElem hi) h
  exact ⟨T, by rw [List.getElem?_eq_getElem hi, e], k⟩
/-- the first one of which there is none -/
def BareAt (ls : List (List Int)) : Option Nat → Prop
  | none => ∀ l ∈ ls, l ≠ []
  | some n => ls[n]? = some [] ∧ ∀ j l, j < n → ls[j]? = some l → l ≠ []
theorem BareAt.uniq {ls : List (List Int)} : ∀ {o o' : Option Nat}, BareAt ls o → BareAt ls o' → o = o'
  | none, none, _, _ => rfl
  | none, some n, h, g => absurd rfl (h _ (List.mem_of_getElem? g.1))
  | some n, none, h, g => absurd rfl (g _ (List.mem_of_getElem? h.1))
  | some n, some m, h, g => by
    rcases Nat.lt_trichotomy n m with q | q | q
    · exact absurd rfl (g.2 n _ q h.1)
    · rw [q]
    · exact absurd rfl (h.2 m _ q g.1)
def firstI (ls : List (List Int)) (a : Int) : Int := ((ls.getD a.toNat []).head?).getD 0
def lastI (ls : List (List Int)) (a : Int) : Int := ((ls.getD a.toNat []).getLast?).getD 0
/-- runs: none is bare, each begins no later than it ends -/
def RunsI (ls : List (List Int)) : Prop := ∀ i : Nat, i < ls.length → ls.getD i [] ≠ [] ∧ firstI ls i ≤ lastI ls i
structure GInv (ls : List (List Int)) (done : List (Int × Int)) (ss as : List Int) : Prop where
  len : ss.length = as.length
  hits : ∀ q ∈ done, ∃ s ∈ ss, firstI ls q.2 ≤ s ∧ s ≤ q.1
  own : ∀ (j : Nat) (s a : Int), ss[j]? = some s → as[j]? = some a → (s, a) ∈ done
  ap : ∀ (j j' : Nat) (s a : Int), j < j' → ss[j]? = some s → as[j']? = some a → s < firstI ls a
theorem GInv.nil {ls : List (List Int)} : GInv ls [] [] [] := ⟨rfl, fun q h => by simp at h, fun j s a h => by simp at h, fun j j' s a _ h => by simp at h⟩
/-- the pairs of last sizes and numbers -/
structure PairsOf (ls : List (List Int)) (ps : List (Int × Int)) : Prop where
  perm : ps.Perm ((List.range ls.length).map fun i : Nat => (lastI ls i, (i : Int)))
  srt : ∀ (i j : Nat) (p q : Int × Int), i < j → ps[i]? = some p → ps[j]? = some q → p.1 ≤ q.1
theorem PairsOf.mem {ls : List (List Int)} {ps : List (Int × Int)} (h : PairsOf ls ps) {q : Int × Int} : q ∈ ps ↔ ∃ i : Nat, i < ls.length ∧ q = (lastI ls i, (i : Int)) := by
  rw [h.perm.mem_iff, List.mem_map]
  constructor
  · rintro ⟨i, hi, e⟩; exact ⟨i, List.mem_range.mp hi, e.symm⟩
  · rintro ⟨i, hi, e⟩; exact ⟨i, List.mem_range.mpr hi, e.symm⟩
theorem GInv.rise {ls : List (List Int)} {ps : List (Int × Int)} {k : Nat} {ss as : List Int} (P : PairsOf ls ps) (R : RunsI ls) (g : GInv ls (ps.take k) ss as) : ∀ (j j' : Nat) (s s' : Int), j < j' → ss[j]? = some s → ss[j']? = some s' → s < s' := fun j j' s s' hj h h' => by
  have l := (List.getElem?_eq_some_iff.mp h').1
  obtain ⟨a', ha'⟩ := geI (zs := as) (n := j') (by rw [← g.len]; exact l)
  have h1 := g.ap j j' s a' hj h ha'
  have h2 := g.own j' s' a' h' ha'
  obtain ⟨i, hi, e⟩ := P.mem.mp (List.mem_of_mem_take h2)
  obtain ⟨rfl, rfl⟩ := Prod.mk.inj e
  have := (R i hi).2
  omega
theorem GInv.skip {ls : List (List Int)} {ps : List (Int × Int)} {k : Nat} {ss as : List Int} {b n s : Int} (P : PairsOf ls ps) (R : RunsI ls) (hk : ps[k]? = some (b, n)) (g : GInv ls (ps.take k) ss as) (hl : ss.getLast? = some s) (h : firstI ls n ≤ s) : GInv ls (ps.take (k + 1)) ss as := by
  have e : ps.take (k + 1) = ps.take k ++ [(b, n)] := by rw [List.take_add_one, hk]; rfl
  refine ⟨g.len, fun q hq => ?_, fun j s' a h1 h2 => ?_, g.ap⟩
  · rw [e] at hq
    rcases List.mem_append.mp hq with hq | hq
    · exact g.hits q hq
    · have : q = (b, n) := by simpa using hq
      subst this
      refine ⟨s, List.mem_of_getLast? hl, h, ?_⟩
      have l0 : 0 < ss.length := by cases ss with | nil => simp at hl | cons => simp
      have hs : ss[ss.length - 1]? = some s := by rw [← List.getLast?_eq_getElem?]; exact hl
      obtain ⟨a, ha⟩ := geI (zs := as) (n := ss.length - 1) (by rw [← g.len]; omega)
      have hm := g.own _ s a hs ha
      obtain ⟨i, hi⟩ := List.mem_iff_getElem?.mp hm
      have li := (List.getElem?_eq_some_iff.mp hi).1
      rw [List.length_take] at li
      rw [List.getElem?_take_of_lt (by omega)] at hi
      exact P.srt i k (s, a) (b, n) (by omega) hi hk
  · rw [e]
    exact List.mem_append.mpr (.inl (g.own j s' a h1 h2))
theorem GInv.take {ls : List (List Int)} {ps : List (Int × Int)} {k : Nat} {ss as : List Int} {b n : Int} (P : PairsOf ls ps) (R : RunsI ls) (hk : ps[k]? = some (b, n)) (g : GInv ls (ps.take k) ss as) (h : ∀ s, ss.getLast? = some s → s < firstI ls n) : GInv ls (ps.take (k + 1)) (ss ++ [b]) (as ++ [n]) := by
  have e : ps.take (k + 1) = ps.take k ++ [(b, n)] := by rw [List.take_add_one, hk]; rfl
  obtain ⟨i, hi, ei⟩ := P.mem.mp (List.mem_of_getElem? hk)
  obtain ⟨rfl, rfl⟩ := Prod.mk.inj ei
  refine ⟨by rw [List.length_append, List.length_append, g.len]; rfl, fun q hq => ?_, fun j s' a h1 h2 => ?_, fun j j' s' a hj h1 h2 => ?_⟩
  · rw [e] at hq
    rcases List.mem_append.mp hq with hq | hq
    · obtain ⟨s, hs, q1⟩ := g.hits q hq
      exact ⟨s, List.mem_append.mpr (.inl hs), q1⟩
    · have : q = (lastI ls (i : Int), (i : Int)) := by simpa using hq
      subst this
      exact ⟨lastI ls i, by simp, (R i hi).2, Int.le_refl _⟩
  · rw [e]
    by_cases hlt : j < ss.length
    · rw [List.getElem?_append_left hlt] at h1
      rw [List.getElem?_append_left (by rw [← g.len]; exact hlt)] at h2
      exact List.mem_append.mpr (.inl (g.own j s' a h1 h2))
    · have l1 := (List.getElem?_eq_some_iff.mp h1).1
      rw [List.length_append, List.length_singleton] at l1
      have ej : j = ss.length := by omega
      rw [ej, List.getElem?_append_right (Nat.le_refl _), Nat.sub_self] at h1
      rw [ej, g.len, List.getElem?_append_right (Nat.le_refl _), Nat.sub_self] at h2
      have h1 : lastI ls i = s' := by simpa using h1
      have h2 : (i : Int) = a := by simpa using h2
      rw [← h1, ← h2]
      simp
  · have l2 := (List.getElem?_eq_some_iff.mp h2).1
    rw [List.length_append, List.length_singleton, ← g.len] at l2
    have h1' : ss[j]? = some s' := by
      rw [List.getElem?_append_left (by omega)] at h1; exact h1
    by_cases hlt : j' < ss.length
    · rw [List.getElem?_append_left (by rw [← g.len]; exact hlt)] at h2
      exact g.ap j j' s' a hj h1' h2
    · have ej : j' = ss.length := by omega
      rw [ej, g.len, List.getElem?_append_right (Nat.le_refl _), Nat.sub_self] at h2
      have h2 : (i : Int) = a := by simpa using h2
      rw [← h2]
      have hs : ss[ss.length - 1]? = ss.getLast? := List.getLast?_eq_getElem?.symm
      obtain ⟨s, hs2⟩ := geI (zs := ss) (n := ss.length - 1) (by omega)
      have hlast := h s (by rw [← hs]; exact hs2)
      by_cases q : j = ss.length - 1
      · rw [q, hs2] at h1'
        cases h1'
        exact hlast
      · have := g.rise P R j (ss.length - 1) s' s (by omega) h1' hs2
        omega
/-! ### tuples of the heap: sums and slices -/
section
variable {X : Cx}
end
/-! ### fractions as rational numbers -/
def toR (z : Q2) : Rat := (z.1 : Rat) / (z.2 : Rat)
theorem posR {n : Int} (h : 0 < n) : (0 : Rat) < (n : Rat) := by
  have := Rat.intCast_lt_intCast.mpr h
  simpa using this
section
variable {a b z w x y : Q2}
theorem div_ltR {a b c d : Int} (hb : 0 < b) (hd : 0 < d) : ((a : Rat) / b < (c : Rat) / d) ↔ (a : Rat) * d < c * b := by
  have hb := posR hb
  have hd := posR hd
  constructor
  · intro h
    have e1 : (a : Rat) * d = (a / b) * (b * d) := by grind
    have e2 : (c : Rat) * b = (c / d) * (b * d) := by grind
    rw [e1, e2]
    exact Rat.mul_lt_mul_of_pos_right h (Rat.mul_pos hb hd)
  · intro h
    by_cases g : (c : Rat) / d ≤ (a : Rat) / b
    · have := Rat.mul_le_mul_of_nonneg_right g (Rat.le_of_lt (Rat.mul_pos hb hd))
      have e1 : (a : Rat) * d = (a / b) * (b * d) := by grind
      have e2 : (c : Rat) * b = (c / d) * (b * d) := by grind
      grind
    · grind
theorem ltq_R (ha : 0 < a.2) (hb : 0 < b.2) : ltq a b = true ↔ toR a < toR b := by
  unfold toR
  rw [div_ltR ha hb]
  unfold ltq
  rw [decide_eq_true_iff, ← Rat.intCast_mul, ← Rat.intCast_mul, Rat.intCast_lt_intCast]
theorem leq_R (ha : 0 < a.2) (hb : 0 < b.2) : leq a b = true ↔ toR a ≤ toR b := by
  rw [leq_not]
  cases e : ltq b a with
  | true =>
    have := (ltq_R hb ha).mp e
    constructor
    · intro h; simp at h
    · intro h; grind
  | false =>
    have : ¬ toR b < toR a := fun q => by rw [(ltq_R hb ha).mpr q] at e; cases e
    constructor
    · intro _; grind
    · intro _; rfl
theorem re_R (h : Re z w) : toR z = toR w := by
  obtain ⟨h1, h2, h3⟩ := h
  unfold toR
  have p1 := posR h1
  have p2 := posR h2
  have e : (z.1 : Rat) * (w.2 : Rat) = (w.1 : Rat) * (z.2 : Rat) := by rw [← Rat.intCast_mul, ← Rat.intCast_mul, h3]
  grind
theorem nn_R (ha : 0 < a.2) : 0 ≤ a.1 ↔ 0 ≤ toR a := by
  have p : 0 < ((0, 1) : Q2).2 := by decide
  have h := leq_R (a := (0, 1)) (b := a) p ha
  have e : toR (0, 1) = 0 := by unfold toR; grind
  rw [e] at h
  rw [← h, leq_not]
  unfold ltq
  simp
end
theorem Re.nn {z w : Q2} (r : Re z w) (h : 0 ≤ w.1) : 0 ≤ z.1 := by
  rw [nn_R r.1, re_R r]
  exact (nn_R r.2.1).mp h
section
variable {zs : List Q2} {a z x y e w : Q2} {i : Nat}
end
/-! ### lists of tuples of numbers as data -/
section
variable {X : Cx} {K : PySem.W.Frag}
end
theorem dpAll_of {α : Type} {K : PySem.W.Frag} {H : Hp} (f : α → PyData) : ∀ {ts : List V} {ls : List α}, ts.length = ls.length → (∀ (i : Nat) (v : V) (l : α), ts[i]? = some v → ls[i]? = some l → Dp K H v (f l)) → DpAll K H ts (ls.map f)
  | [], [], _, _ => .nil
  | [], _ :: _, h, _ => by simp at h
  | _ :: _, [], h, _ => by simp at h
  | t :: ts, l :: ls, h, g => .cons (g 0 t l rfl rfl) (dpAll_of f (by simpa using h) fun i v l' h1 h2 => g (i + 1) v l' (by simpa using h1) (by simpa using h2))
theorem FitsL.dp {K : PySem.W.Frag} {H : Hp} {D : Addr} {ls : List (List Int)} (a : FitsL H D ls) : Dp K H (.ref D) (.list (ls.map fun l => intsD l)) := by
  obtain ⟨ts, h1, h2, h3⟩ := a.ob
  refine .lst (SqL.of h1) (dpAll_of (fun l => intsD l) h2 fun i v l e1 e2 => ?_)
  obtain ⟨T, rfl, h⟩ := h3 i v l e1 e2
  exact dpT h
/-! ### a set of a tuple of numbers -/
/-! ### looked at ahead of a step (apply fails at once where exact, refine and show take seconds) -/
theorem eq_id {α : Sort _} {a b : α} (h : a = b) : a = b := h
theorem ile_id {a b : Int} (h : a ≤ b) : a ≤ b := h
theorem ilt_id {a b : Int} (h : a < b) : a < b := h
theorem nle_id {a b : Nat} (h : a ≤ b) : a ≤ b := h
theorem nlt_id {a b : Nat} (h : a < b) : a < b := h
section
variable {K : PySem.W.Frag} {C CM CL CG p h a L1 L2 : Addr} {H H' : Hp} {v : V} {k n : Nat} {z : Q2} {vs : List V} {zs ys : List Q2} {e : Option Q2} {r : Str} {lo hi : Option Q2} {o : Option HO} {x : HO} {P Q : Prop}
theorem TQ_id (t : TQ H v k z) : TQ H v k z := t
theorem Tqs_id (t : Tqs H k vs zs) : Tqs H k vs zs := t
theorem QAt_id (t : QAt C H p k z) : QAt C H p k z := t
theorem Mks_id (t : Mks C H k vs zs) : Mks C H k vs zs := t
theorem QO_id (t : QO C H k v e) : QO C H k v e := t
theorem TOq_id (t : TOq H k v e) : TOq H k v e := t
theorem LadAt_id (t : LadAt K CM CL H p k zs r lo hi) : LadAt K CM CL H p k zs r lo hi := t
theorem GrdAt_id (t : GrdAt K CM CL CG H p k L1 L2 z) : GrdAt K CM CL CG H p k L1 L2 z := t
theorem SidesAt_id (t : SidesAt H h p k zs ys z) : SidesAt H h p k zs ys z := t
theorem ChartAt_id (t : ChartAt H p k r lo hi) : ChartAt H p k r lo hi := t
theorem HandAt_id (t : HandAt H h n) : HandAt H h n := t
theorem SqT_id (t : SqT K H a vs) : SqT K H a vs := t
theorem SqL_id (t : SqL K H a vs) : SqL K H a vs := t
theorem Kp_id (t : Kp h H H') : Kp h H H' := t
theorem Same_id (t : Same H H') : Same H H' := t
theorem AllTQ_id (t : AllTQ H k vs) : AllTQ H k vs := t
theorem ho_id (t : o = some x) : o = some x := t
theorem sq2_id (t : SqL K H a vs ∨ SqT K H a vs) : SqL K H a vs ∨ SqT K H a vs := t
theorem exT_id (t : ∃ xs, SqT K H a xs) : ∃ xs, SqT K H a xs := t
theorem exL_id (t : ∃ xs, SqL K H a xs) : ∃ xs, SqL K H a xs := t
end
/-! ### what follows a statement, kept out of sight while it is read -/
/-! ### a comprehension over a list that draws, some left out -/
theorem AllTQ.nl {H H' : Hp} {k : Nat} {vs : List V} (m : AllTQ H k vs) (s : Nl H H') : AllTQ H' k vs := fun x hx => by
  obtain ⟨z, t⟩ := m x hx
  exact ⟨z, t.nl s⟩
theorem AllTQ.same {H H' : Hp} {k : Nat} {vs : List V} (m : AllTQ H k vs) (s : Same H H') : AllTQ H' k vs := m.nl (Nl.of s)
theorem AllTQ.mono {H : Hp} {k j : Nat} {vs : List V} (m : AllTQ H k vs) (l : k ≤ j) : AllTQ H j vs := fun x hx => by
  obtain ⟨z, t⟩ := m x hx
  exact ⟨z, t.mono l⟩
theorem Kp.up2 {h D : Addr} {H H1 : Hp} {u : HO} (k : Kp h H H1) (hD : H D = none) : Kp h H (upd H1 D u) := fun c o e n => by
  rw [upd_ne (ne_of_none e hD)]
  exact k c o e n
end My
namespace K48
open PySem PySem.Spec PyProof.Rows L2 My
local macro_rules | `(tactic| walk_at "c") => `(tactic| first | (with_reducible apply eq_id; apply Eq.refl) | (with_reducible apply ile_id; omega) | (with_reducible apply ilt_id; omega) | (with_reducible apply nle_id; omega) | (with_reducible apply nlt_id; omega) | assumption | (apply Eq.refl; done) | with_reducible exact lf_marks _ _ _ _ | with_reducible exact lf_rule _ _ _ _ | with_reducible exact lf_least _ _ _ _ | with_reducible exact lf_most _ _ _ _ | with_reducible exact mf_top _ _ | with_reducible exact mf_bottom _ _ | with_reducible exact sf_low _ _ _ _ | with_reducible exact sf_high _ _ _ _ | with_reducible exact sf_low_in _ _ _ _ | with_reducible exact sf_high_in _ _ _ _ | exact SqL.of (by assumption) | exact SqT.of (by assumption) | exact Or.inl (SqL.of (by assumption)) | exact Or.inr (SqT.of (by assumption)) | exact Or.inr (by assumption) | exact Or.inl (by assumption) | omega | exact atI_nat (by assumption) | exact atI_of (n := 0) rfl (by assumption) | exact logS (by omega) | exact Or.inl (Or.inl ⟨by omega, by omega⟩) | exact Or.inl (Or.inr ⟨by omega, by omega⟩) | exact szb rfl | exact szs (by omega) | exact szl (by omega) | exact Or.inl ⟨Eq.refl _, _, SqL.of (by assumption)⟩ | exact ⟨_, SqT.of (by assumption)⟩ | exact ⟨_, SqL.of (by assumption)⟩ | exact ⟨by omega, by omega, by omega, by omega⟩)
local macro_rules | `(tactic| walk_at "e") => `(tactic| first | rfl | exact ⟨rfl, rfl⟩ | exact ⟨rfl, rfl, rfl⟩ | assumption | exact trivial)
local macro_rules | `(tactic| walk_at "w1") => `(tactic| first
  | refine q_belowT (by assumption) (by assumption) (by omega) (by omega) ?_ | refine q_belowA (by assumption) (by assumption) (by omega) (by omega) ?_ | refine q_subT (by assumption) (by assumption) (by omega) (by omega) (by omega) ?_
  | refine meth_q (by assumption) (by decide +kernel) (by decide +kernel) ?_ | refine meth_l (by assumption) (by decide +kernel) (by decide +kernel) (by decide +kernel) (by decide +kernel) ?_ | refine meth_s (by assumption) (by decide +kernel) (by decide +kernel) (by decide +kernel) (by decide +kernel) ?_
  | apply @Exists.intro V | apply @Exists.intro Int | apply @Exists.intro Addr | apply @Exists.intro Bool | apply @Exists.intro (List V) | apply @Exists.intro Str | apply @Exists.intro Nat | apply @Exists.intro (List (Str × V))
  | (apply And.intro; (focus (walk_at "c"))) | (with_reducible apply iteT) | (with_reducible apply iteF) | refine iteDT (by omega) ?_ | refine iteDF (by omega) ?_ | refine iteNS (by omega) ?_ | refine iteNT (by omega) ?_)
local macro_rules | `(tactic| walk_at "w") => `(tactic| repeat (walk_at "w1"))
local macro_rules | `(tactic| walk_at "wa1") => `(tactic| first | refine q_addT (by assumption) (by assumption) (by omega) (by omega) (by omega) ?_ | refine q_mulT (by assumption) (by assumption) (by omega) (by omega) (by omega) ?_ | walk_at "w1")
local macro_rules | `(tactic| walk_at "wa") => `(tactic| repeat (walk_at "wa1"))
local macro_rules | `(tactic| walk_at "hand") => `(tactic| first | assumption | exact HandAt.up (by walk_at "hand") (by assumption))
local macro_rules | `(tactic| walk_at "hp") => `(tactic| first | assumption | exact upd_same | exact up1 (by assumption) (by walk_at "hp") | exact Kp.get (by assumption) (by walk_at "hand") (by walk_at "hp") (by rfl) | exact L2.Same.get (by assumption) (by walk_at "hp") | exact up2 (by assumption) (by walk_at "hp") (by rfl))
local macro_rules | `(tactic| walk_at "n") => `(tactic| skip)
local macro_rules | `(tactic| walk_at "k") => `(tactic| first | with_reducible assumption | with_reducible exact Kp.refl _ _ | (with_reducible refine Kp.trans ?_ (by with_reducible assumption); walk_at "k") | (with_reducible refine Kp.trans ?_ (Kp.same (by with_reducible assumption)); walk_at "k") | (with_reducible refine Kp.trans ?_ (Kp.same (same1 (by with_reducible assumption))); walk_at "k"))
local macro_rules | `(tactic| walk_at "s") => `(tactic| first | with_reducible assumption | with_reducible exact Same.refl _ | (with_reducible refine Same.trans ?_ (by with_reducible assumption); walk_at "s") | (with_reducible refine Same.trans ?_ (same1 (by with_reducible assumption)); walk_at "s") | (with_reducible apply same_k; (with_reducible assumption); (with_reducible assumption); walk_at "s"))
local macro_rules | `(tactic| walk_at "u") => `(tactic| (first | (with_reducible assumption) | ((with_reducible apply TQ_id); first | ((repeat (first | (with_reducible assumption) | (with_reducible apply TQ.s; (with_reducible assumption)) | (with_reducible apply TQ.kq; (with_reducible assumption); (focus (repeat (first | (with_reducible assumption) | (with_reducible apply HandAt.s; (with_reducible assumption)) | (with_reducible apply HandAt.u; (with_reducible assumption)))))) | (with_reducible apply TQ.u; (with_reducible assumption)))); done) | (with_reducible apply TQ.lit; (focus (repeat (first | (with_reducible exact upd_same) | (with_reducible assumption) | (with_reducible apply hp_u; (with_reducible assumption)) | (with_reducible apply hp_s; (with_reducible assumption)) | (with_reducible apply hp_l; (with_reducible assumption); (with_reducible assumption)) | (with_reducible apply hp_k; (with_reducible assumption); (focus (repeat (first | (with_reducible assumption) | (with_reducible apply HandAt.s; (with_reducible assumption)) | (with_reducible apply HandAt.u; (with_reducible assumption))))); (with_unfolding_all exact rfl))))); decide; decide; decide) | (with_reducible apply TQ.mono; with_reducible apply TQ.lit; (focus (repeat (first | (with_reducible exact upd_same) | (with_reducible assumption) | (with_reducible apply hp_u; (with_reducible assumption)) | (with_reducible apply hp_s; (with_reducible assumption)) | (with_reducible apply hp_l; (with_reducible assumption); (with_reducible assumption)) | (with_reducible apply hp_k; (with_reducible assumption); (focus (repeat (first | (with_reducible assumption) | (with_reducible apply HandAt.s; (with_reducible assumption)) | (with_reducible apply HandAt.u; (with_reducible assumption))))); (with_unfolding_all exact rfl))))); decide; decide; decide; omega) | (with_reducible apply TQ.mono; (focus (repeat (first | (with_reducible assumption) | (with_reducible apply TQ.s; (with_reducible assumption)) | (with_reducible apply TQ.kq; (with_reducible assumption); (focus (repeat (first | (with_reducible assumption) | (with_reducible apply HandAt.s; (with_reducible assumption)) | (with_reducible apply HandAt.u; (with_reducible assumption)))))) | (with_reducible apply TQ.u; (with_reducible assumption))))); omega)) | ((with_reducible apply Tqs_id); first | ((repeat (first | (with_reducible assumption) | (with_reducible apply Tqs.s; (with_reducible assumption)) | (with_reducible apply Tqs.kq; (with_reducible assumption); (focus (repeat (first | (with_reducible assumption) | (with_reducible apply HandAt.s; (with_reducible assumption)) | (with_reducible apply HandAt.u; (with_reducible assumption)))))) | (with_reducible apply Tqs.u; (with_reducible assumption)))); done) | (with_reducible apply Tqs.mono; (focus (repeat (first | (with_reducible assumption) | (with_reducible apply Tqs.s; (with_reducible assumption)) | (with_reducible apply Tqs.kq; (with_reducible assumption); (focus (repeat (first | (with_reducible assumption) | (with_reducible apply HandAt.s; (with_reducible assumption)) | (with_reducible apply HandAt.u; (with_reducible assumption)))))) | (with_reducible apply Tqs.u; (with_reducible assumption))))); omega)) | ((with_reducible apply QAt_id); first | ((repeat (first | (with_reducible assumption) | (with_reducible apply QAt.s; (with_reducible assumption)) | (with_reducible apply QAt.kq; (with_reducible assumption); (focus (repeat (first | (with_reducible assumption) | (with_reducible apply HandAt.s; (with_reducible assumption)) | (with_reducible apply HandAt.u; (with_reducible assumption)))))) | (with_reducible apply QAt.u; (with_reducible assumption)))); done) | (with_reducible apply QAt.mono; (focus (repeat (first | (with_reducible assumption) | (with_reducible apply QAt.s; (with_reducible assumption)) | (with_reducible apply QAt.kq; (with_reducible assumption); (focus (repeat (first | (with_reducible assumption) | (with_reducible apply HandAt.s; (with_reducible assumption)) | (with_reducible apply HandAt.u; (with_reducible assumption)))))) | (with_reducible apply QAt.u; (with_reducible assumption))))); omega) | ((repeat (first | assumption | (apply QAt.s; assumption) | (apply QAt.kq; assumption; (focus (repeat (first | (with_reducible assumption) | (with_reducible apply HandAt.s; (with_reducible assumption)) | (with_reducible apply HandAt.u; (with_reducible assumption)))))) | (with_reducible apply QAt.u; assumption))); done)) | ((with_reducible apply Mks_id); first | ((repeat (first | (with_reducible assumption) | (with_reducible apply Mks.s; (with_reducible assumption)) | (with_reducible apply Mks.kq; (with_reducible assumption); (focus (repeat (first | (with_reducible assumption) | (with_reducible apply HandAt.s; (with_reducible assumption)) | (with_reducible apply HandAt.u; (with_reducible assumption)))))) | (with_reducible apply Mks.u; (with_reducible assumption)))); done)) | ((with_reducible apply QO_id); first | ((repeat (first | (with_reducible assumption) | (with_reducible apply QO.s; (with_reducible assumption)) | (with_reducible apply QO.kq; (with_reducible assumption); (focus (repeat (first | (with_reducible assumption) | (with_reducible apply HandAt.s; (with_reducible assumption)) | (with_reducible apply HandAt.u; (with_reducible assumption)))))) | (with_reducible apply QO.u; (with_reducible assumption)))); done) | (with_reducible apply QO.monoR; (focus (repeat (first | (with_reducible assumption) | (with_reducible apply QO.s; (with_reducible assumption)) | (with_reducible apply QO.kq; (with_reducible assumption); (focus (repeat (first | (with_reducible assumption) | (with_reducible apply HandAt.s; (with_reducible assumption)) | (with_reducible apply HandAt.u; (with_reducible assumption)))))) | (with_reducible apply QO.u; (with_reducible assumption))))); omega)) | ((with_reducible apply TOq_id); first | ((repeat (first | (with_reducible assumption) | (with_reducible apply TOq.s; (with_reducible assumption)) | (with_reducible apply TOq.kq; (with_reducible assumption); (focus (repeat (first | (with_reducible assumption) | (with_reducible apply HandAt.s; (with_reducible assumption)) | (with_reducible apply HandAt.u; (with_reducible assumption)))))) | (with_reducible apply TOq.u; (with_reducible assumption)))); done) | (with_reducible apply TOq.monoR; (focus (repeat (first | (with_reducible assumption) | (with_reducible apply TOq.s; (with_reducible assumption)) | (with_reducible apply TOq.kq; (with_reducible assumption); (focus (repeat (first | (with_reducible assumption) | (with_reducible apply HandAt.s; (with_reducible assumption)) | (with_reducible apply HandAt.u; (with_reducible assumption)))))) | (with_reducible apply TOq.u; (with_reducible assumption))))); omega)) | ((with_reducible apply LadAt_id); first | ((repeat (first | (with_reducible assumption) | (with_reducible apply LadAt.s; (with_reducible assumption)) | (with_reducible apply LadAt.kq; (with_reducible assumption); (focus (repeat (first | (with_reducible assumption) | (with_reducible apply HandAt.s; (with_reducible assumption)) | (with_reducible apply HandAt.u; (with_reducible assumption)))))) | (with_reducible apply LadAt.u; (with_reducible assumption)))); done) | (with_reducible apply LadAt.mono; (focus (repeat (first | (with_reducible assumption) | (with_reducible apply LadAt.s; (with_reducible assumption)) | (with_reducible apply LadAt.kq; (with_reducible assumption); (focus (repeat (first | (with_reducible assumption) | (with_reducible apply HandAt.s; (with_reducible assumption)) | (with_reducible apply HandAt.u; (with_reducible assumption)))))) | (with_reducible apply LadAt.u; (with_reducible assumption))))); omega) | ((repeat (first | assumption | (apply LadAt.s; assumption) | (apply LadAt.kq; assumption; (focus (repeat (first | (with_reducible assumption) | (with_reducible apply HandAt.s; (with_reducible assumption)) | (with_reducible apply HandAt.u; (with_reducible assumption)))))) | (with_reducible apply LadAt.u; assumption))); done)) | ((with_reducible apply GrdAt_id); first | ((repeat (first | (with_reducible assumption) | (with_reducible apply GrdAt.s; (with_reducible assumption)) | (with_reducible apply GrdAt.kq; (with_reducible assumption); (focus (repeat (first | (with_reducible assumption) | (with_reducible apply HandAt.s; (with_reducible assumption)) | (with_reducible apply HandAt.u; (with_reducible assumption)))))) | (with_reducible apply GrdAt.u; (with_reducible assumption)))); done) | ((repeat (first | assumption | (apply GrdAt.s; assumption) | (apply GrdAt.kq; assumption; (focus (repeat (first | (with_reducible assumption) | (with_reducible apply HandAt.s; (with_reducible assumption)) | (with_reducible apply HandAt.u; (with_reducible assumption)))))) | (with_reducible apply GrdAt.u; assumption))); done)) | ((with_reducible apply SidesAt_id); first | ((repeat (first | (with_reducible assumption) | (with_reducible apply SidesAt.s; (with_reducible assumption)) | (with_reducible apply SidesAt.kq; (with_reducible assumption); (focus (repeat (first | (with_reducible assumption) | (with_reducible apply HandAt.s; (with_reducible assumption)) | (with_reducible apply HandAt.u; (with_reducible assumption)))))) | (with_reducible apply SidesAt.u; (with_reducible assumption)))); done)) | ((with_reducible apply ChartAt_id); first | ((repeat (first | (with_reducible assumption) | (with_reducible apply ChartAt.s; (with_reducible assumption)) | (with_reducible apply ChartAt.kq; (with_reducible assumption); (focus (repeat (first | (with_reducible assumption) | (with_reducible apply HandAt.s; (with_reducible assumption)) | (with_reducible apply HandAt.u; (with_reducible assumption)))))) | (with_reducible apply ChartAt.u; (with_reducible assumption)))); done)) | ((with_reducible apply HandAt_id); first | ((focus (repeat (first | (with_reducible assumption) | (with_reducible apply HandAt.s; (with_reducible assumption)) | (with_reducible apply HandAt.u; (with_reducible assumption))))); done) | (with_reducible apply HandAt.mono; (focus (focus (repeat (first | (with_reducible assumption) | (with_reducible apply HandAt.s; (with_reducible assumption)) | (with_reducible apply HandAt.u; (with_reducible assumption)))))); omega)) | ((with_reducible apply SqT_id); first | ((first | (with_reducible apply SqT.of; (repeat (first | (with_reducible exact upd_same) | (with_reducible assumption) | (with_reducible apply hp_u; (with_reducible assumption)) | (with_reducible apply hp_s; (with_reducible assumption)) | (with_reducible apply hp_l; (with_reducible assumption); (with_reducible assumption)) | (with_reducible apply hp_k; (with_reducible assumption); (focus (repeat (first | (with_reducible assumption) | (with_reducible apply HandAt.s; (with_reducible assumption)) | (with_reducible apply HandAt.u; (with_reducible assumption))))); (with_unfolding_all exact rfl)))); done) | (repeat (first | (with_reducible assumption) | (with_reducible apply sqt_s; (with_reducible assumption)) | (with_reducible apply sqt_k; (with_reducible assumption); (focus (repeat (first | (with_reducible assumption) | (with_reducible apply HandAt.s; (with_reducible assumption)) | (with_reducible apply HandAt.u; (with_reducible assumption)))))) | (with_reducible apply sqt_u; (with_reducible assumption))))); done)) | ((with_reducible apply SqL_id); first | ((first | (with_reducible apply SqL.of; (repeat (first | (with_reducible exact upd_same) | (with_reducible assumption) | (with_reducible apply hp_u; (with_reducible assumption)) | (with_reducible apply hp_s; (with_reducible assumption)) | (with_reducible apply hp_l; (with_reducible assumption); (with_reducible assumption)) | (with_reducible apply hp_k; (with_reducible assumption); (focus (repeat (first | (with_reducible assumption) | (with_reducible apply HandAt.s; (with_reducible assumption)) | (with_reducible apply HandAt.u; (with_reducible assumption))))); (with_unfolding_all exact rfl)))); done) | (repeat (first | (with_reducible assumption) | (with_reducible apply sql_s; (with_reducible assumption)) | (with_reducible apply sql_k; (with_reducible assumption); (with_reducible assumption)) | (with_reducible apply sql_u; (with_reducible assumption))))); done)) | ((with_reducible apply ho_id); first | ((repeat (first | (with_reducible exact upd_same) | (with_reducible assumption) | (with_reducible apply hp_u; (with_reducible assumption)) | (with_reducible apply hp_s; (with_reducible assumption)) | (with_reducible apply hp_l; (with_reducible assumption); (with_reducible assumption)) | (with_reducible apply hp_k; (with_reducible assumption); (focus (repeat (first | (with_reducible assumption) | (with_reducible apply HandAt.s; (with_reducible assumption)) | (with_reducible apply HandAt.u; (with_reducible assumption))))); (with_unfolding_all exact rfl)))); done))))
local macro_rules | `(tactic| walk_at "um") => `(tactic| (first | (with_reducible assumption) | ((with_reducible apply TQ_id); first | ((repeat (first | (with_reducible assumption) | (with_reducible apply TQ.s; (with_reducible assumption)) | (with_reducible apply TQ.kq; (with_reducible assumption); (focus (repeat (first | (with_reducible assumption) | (with_reducible apply HandAt.s; (with_reducible assumption)) | (with_reducible apply HandAt.u; (with_reducible assumption)))))) | (with_reducible apply TQ.u; (with_reducible assumption)))); done) | (with_reducible apply TQ.lit; (focus (repeat (first | (with_reducible exact upd_same) | (with_reducible assumption) | (with_reducible apply hp_u; (with_reducible assumption)) | (with_reducible apply hp_s; (with_reducible assumption)) | (with_reducible apply hp_l; (with_reducible assumption); (with_reducible assumption)) | (with_reducible apply hp_k; (with_reducible assumption); (focus (repeat (first | (with_reducible assumption) | (with_reducible apply HandAt.s; (with_reducible assumption)) | (with_reducible apply HandAt.u; (with_reducible assumption))))); (with_unfolding_all exact rfl))))); decide; decide; decide) | (with_reducible apply TQ.mono; with_reducible apply TQ.lit; (focus (repeat (first | (with_reducible exact upd_same) | (with_reducible assumption) | (with_reducible apply hp_u; (with_reducible assumption)) | (with_reducible apply hp_s; (with_reducible assumption)) | (with_reducible apply hp_l; (with_reducible assumption); (with_reducible assumption)) | (with_reducible apply hp_k; (with_reducible assumption); (focus (repeat (first | (with_reducible assumption) | (with_reducible apply HandAt.s; (with_reducible assumption)) | (with_reducible apply HandAt.u; (with_reducible assumption))))); (with_unfolding_all exact rfl))))); decide; decide; decide; omega) | (with_reducible apply TQ.mono; (focus (repeat (first | (with_reducible assumption) | (with_reducible apply TQ.s; (with_reducible assumption)) | (with_reducible apply TQ.kq; (with_reducible assumption); (focus (repeat (first | (with_reducible assumption) | (with_reducible apply HandAt.s; (with_reducible assumption)) | (with_reducible apply HandAt.u; (with_reducible assumption)))))) | (with_reducible apply TQ.u; (with_reducible assumption))))); omega)) | ((with_reducible apply Tqs_id); first | ((repeat (first | (with_reducible assumption) | (with_reducible apply Tqs.s; (with_reducible assumption)) | (with_reducible apply Tqs.kq; (with_reducible assumption); (focus (repeat (first | (with_reducible assumption) | (with_reducible apply HandAt.s; (with_reducible assumption)) | (with_reducible apply HandAt.u; (with_reducible assumption)))))) | (with_reducible apply Tqs.u; (with_reducible assumption)))); done) | (with_reducible apply Tqs.mono; (focus (repeat (first | (with_reducible assumption) | (with_reducible apply Tqs.s; (with_reducible assumption)) | (with_reducible apply Tqs.kq; (with_reducible assumption); (focus (repeat (first | (with_reducible assumption) | (with_reducible apply HandAt.s; (with_reducible assumption)) | (with_reducible apply HandAt.u; (with_reducible assumption)))))) | (with_reducible apply Tqs.u; (with_reducible assumption))))); omega)) | ((with_reducible apply QAt_id); first | ((repeat (first | (with_reducible assumption) | (with_reducible apply QAt.s; (with_reducible assumption)) | (with_reducible apply QAt.kq; (with_reducible assumption); (focus (repeat (first | (with_reducible assumption) | (with_reducible apply HandAt.s; (with_reducible assumption)) | (with_reducible apply HandAt.u; (with_reducible assumption)))))) | (with_reducible apply QAt.u; (with_reducible assumption)))); done) | (with_reducible apply QAt.mono; (focus (repeat (first | (with_reducible assumption) | (with_reducible apply QAt.s; (with_reducible assumption)) | (with_reducible apply QAt.kq; (with_reducible assumption); (focus (repeat (first | (with_reducible assumption) | (with_reducible apply HandAt.s; (with_reducible assumption)) | (with_reducible apply HandAt.u; (with_reducible assumption)))))) | (with_reducible apply QAt.u; (with_reducible assumption))))); omega) | ((repeat (first | assumption | (apply QAt.s; assumption) | (apply QAt.kq; assumption; (focus (repeat (first | (with_reducible assumption) | (with_reducible apply HandAt.s; (with_reducible assumption)) | (with_reducible apply HandAt.u; (with_reducible assumption)))))) | (with_reducible apply QAt.u; assumption))); done)) | ((with_reducible apply Mks_id); first | ((repeat (first | (with_reducible assumption) | (with_reducible apply Mks.s; (with_reducible assumption)) | (with_reducible apply Mks.kq; (with_reducible assumption); (focus (repeat (first | (with_reducible assumption) | (with_reducible apply HandAt.s; (with_reducible assumption)) | (with_reducible apply HandAt.u; (with_reducible assumption)))))) | (with_reducible apply Mks.u; (with_reducible assumption)))); done)) | ((with_reducible apply QO_id); first | ((repeat (first | (with_reducible assumption) | (with_reducible apply QO.s; (with_reducible assumption)) | (with_reducible apply QO.kq; (with_reducible assumption); (focus (repeat (first | (with_reducible assumption) | (with_reducible apply HandAt.s; (with_reducible assumption)) | (with_reducible apply HandAt.u; (with_reducible assumption)))))) | (with_reducible apply QO.u; (with_reducible assumption)))); done) | (with_reducible apply QO.monoR; (focus (repeat (first | (with_reducible assumption) | (with_reducible apply QO.s; (with_reducible assumption)) | (with_reducible apply QO.kq; (with_reducible assumption); (focus (repeat (first | (with_reducible assumption) | (with_reducible apply HandAt.s; (with_reducible assumption)) | (with_reducible apply HandAt.u; (with_reducible assumption)))))) | (with_reducible apply QO.u; (with_reducible assumption))))); omega)) | ((with_reducible apply TOq_id); first | ((repeat (first | (with_reducible assumption) | (with_reducible apply TOq.s; (with_reducible assumption)) | (with_reducible apply TOq.kq; (with_reducible assumption); (focus (repeat (first | (with_reducible assumption) | (with_reducible apply HandAt.s; (with_reducible assumption)) | (with_reducible apply HandAt.u; (with_reducible assumption)))))) | (with_reducible apply TOq.u; (with_reducible assumption)))); done) | (with_reducible apply TOq.monoR; (focus (repeat (first | (with_reducible assumption) | (with_reducible apply TOq.s; (with_reducible assumption)) | (with_reducible apply TOq.kq; (with_reducible assumption); (focus (repeat (first | (with_reducible assumption) | (with_reducible apply HandAt.s; (with_reducible assumption)) | (with_reducible apply HandAt.u; (with_reducible assumption)))))) | (with_reducible apply TOq.u; (with_reducible assumption))))); omega)) | ((with_reducible apply LadAt_id); first | ((repeat (first | (with_reducible assumption) | (with_reducible apply LadAt.s; (with_reducible assumption)) | (with_reducible apply LadAt.kq; (with_reducible assumption); (focus (repeat (first | (with_reducible assumption) | (with_reducible apply HandAt.s; (with_reducible assumption)) | (with_reducible apply HandAt.u; (with_reducible assumption)))))) | (with_reducible apply LadAt.u; (with_reducible assumption)))); done) | (with_reducible apply LadAt.mono; (focus (repeat (first | (with_reducible assumption) | (with_reducible apply LadAt.s; (with_reducible assumption)) | (with_reducible apply LadAt.kq; (with_reducible assumption); (focus (repeat (first | (with_reducible assumption) | (with_reducible apply HandAt.s; (with_reducible assumption)) | (with_reducible apply HandAt.u; (with_reducible assumption)))))) | (with_reducible apply LadAt.u; (with_reducible assumption))))); omega) | ((repeat (first | assumption | (apply LadAt.s; assumption) | (apply LadAt.kq; assumption; (focus (repeat (first | (with_reducible assumption) | (with_reducible apply HandAt.s; (with_reducible assumption)) | (with_reducible apply HandAt.u; (with_reducible assumption)))))) | (with_reducible apply LadAt.u; assumption))); done)) | ((with_reducible apply GrdAt_id); first | ((repeat (first | (with_reducible assumption) | (with_reducible apply GrdAt.s; (with_reducible assumption)) | (with_reducible apply GrdAt.kq; (with_reducible assumption); (focus (repeat (first | (with_reducible assumption) | (with_reducible apply HandAt.s; (with_reducible assumption)) | (with_reducible apply HandAt.u; (with_reducible assumption)))))) | (with_reducible apply GrdAt.u; (with_reducible assumption)))); done) | ((repeat (first | assumption | (apply GrdAt.s; assumption) | (apply GrdAt.kq; assumption; (focus (repeat (first | (with_reducible assumption) | (with_reducible apply HandAt.s; (with_reducible assumption)) | (with_reducible apply HandAt.u; (with_reducible assumption)))))) | (with_reducible apply GrdAt.u; assumption))); done)) | ((with_reducible apply SidesAt_id); first | ((repeat (first | (with_reducible assumption) | (with_reducible apply SidesAt.s; (with_reducible assumption)) | (with_reducible apply SidesAt.kq; (with_reducible assumption); (focus (repeat (first | (with_reducible assumption) | (with_reducible apply HandAt.s; (with_reducible assumption)) | (with_reducible apply HandAt.u; (with_reducible assumption)))))) | (with_reducible apply SidesAt.u; (with_reducible assumption)))); done)) | ((with_reducible apply ChartAt_id); first | ((repeat (first | (with_reducible assumption) | (with_reducible apply ChartAt.s; (with_reducible assumption)) | (with_reducible apply ChartAt.kq; (with_reducible assumption); (focus (repeat (first | (with_reducible assumption) | (with_reducible apply HandAt.s; (with_reducible assumption)) | (with_reducible apply HandAt.u; (with_reducible assumption)))))) | (with_reducible apply ChartAt.u; (with_reducible assumption)))); done)) | ((with_reducible apply HandAt_id); first | ((focus (repeat (first | (with_reducible assumption) | (with_reducible apply HandAt.s; (with_reducible assumption)) | (with_reducible apply HandAt.u; (with_reducible assumption))))); done) | (with_reducible apply HandAt.mono; (focus (focus (repeat (first | (with_reducible assumption) | (with_reducible apply HandAt.s; (with_reducible assumption)) | (with_reducible apply HandAt.u; (with_reducible assumption)))))); omega)) | ((with_reducible apply SqT_id); first | ((first | (with_reducible apply SqT.of; (repeat (first | (with_reducible exact upd_same) | (with_reducible assumption) | (with_reducible apply hp_u; (with_reducible assumption)) | (with_reducible apply hp_s; (with_reducible assumption)) | (with_reducible apply hp_l; (with_reducible assumption); (with_reducible assumption)) | (with_reducible apply hp_k; (with_reducible assumption); (focus (repeat (first | (with_reducible assumption) | (with_reducible apply HandAt.s; (with_reducible assumption)) | (with_reducible apply HandAt.u; (with_reducible assumption))))); (with_unfolding_all exact rfl)))); done) | (repeat (first | (with_reducible assumption) | (with_reducible apply sqt_s; (with_reducible assumption)) | (with_reducible apply sqt_k; (with_reducible assumption); (focus (repeat (first | (with_reducible assumption) | (with_reducible apply HandAt.s; (with_reducible assumption)) | (with_reducible apply HandAt.u; (with_reducible assumption)))))) | (with_reducible apply sqt_u; (with_reducible assumption))))); done)) | ((with_reducible apply SqL_id); first | ((first | (with_reducible apply SqL.of; (repeat (first | (with_reducible exact upd_same) | (with_reducible assumption) | (with_reducible apply hp_u; (with_reducible assumption)) | (with_reducible apply hp_s; (with_reducible assumption)) | (with_reducible apply hp_l; (with_reducible assumption); (with_reducible assumption)) | (with_reducible apply hp_k; (with_reducible assumption); (focus (repeat (first | (with_reducible assumption) | (with_reducible apply HandAt.s; (with_reducible assumption)) | (with_reducible apply HandAt.u; (with_reducible assumption))))); (with_unfolding_all exact rfl)))); done) | (repeat (first | (with_reducible assumption) | (with_reducible apply sql_s; (with_reducible assumption)) | (with_reducible apply sql_k; (with_reducible assumption); (with_reducible assumption)) | (with_reducible apply sql_u; (with_reducible assumption))))); done)) | ((with_reducible apply ho_id); first | ((repeat (first | (with_reducible exact upd_same) | (with_reducible assumption) | (with_reducible apply hp_u; (with_reducible assumption)) | (with_reducible apply hp_s; (with_reducible assumption)) | (with_reducible apply hp_l; (with_reducible assumption); (with_reducible assumption)) | (with_reducible apply hp_k; (with_reducible assumption); (focus (repeat (first | (with_reducible assumption) | (with_reducible apply HandAt.s; (with_reducible assumption)) | (with_reducible apply HandAt.u; (with_reducible assumption))))); (with_unfolding_all exact rfl)))); done))))
local macro_rules | `(tactic| walk_at "all") => `(tactic| first | with_reducible exact AllTQ.nil | (with_reducible apply AllTQ.app; walk_at "all"; walk_at "all") | (with_reducible apply AllTQ.cons; (focus ((with_reducible apply TQ_id); first | ((repeat (first | (with_reducible assumption) | (with_reducible apply TQ.s; (with_reducible assumption)) | (with_reducible apply TQ.kq; (with_reducible assumption); (focus (repeat (first | (with_reducible assumption) | (with_reducible apply HandAt.s; (with_reducible assumption)) | (with_reducible apply HandAt.u; (with_reducible assumption)))))) | (with_reducible apply TQ.u; (with_reducible assumption)))); done) | (with_reducible apply TQ.lit; (focus (repeat (first | (with_reducible exact upd_same) | (with_reducible assumption) | (with_reducible apply hp_u; (with_reducible assumption)) | (with_reducible apply hp_s; (with_reducible assumption)) | (with_reducible apply hp_l; (with_reducible assumption); (with_reducible assumption)) | (with_reducible apply hp_k; (with_reducible assumption); (focus (repeat (first | (with_reducible assumption) | (with_reducible apply HandAt.s; (with_reducible assumption)) | (with_reducible apply HandAt.u; (with_reducible assumption))))); (with_unfolding_all exact rfl))))); decide; decide; decide) | (with_reducible apply TQ.mono; with_reducible apply TQ.lit; (focus (repeat (first | (with_reducible exact upd_same) | (with_reducible assumption) | (with_reducible apply hp_u; (with_reducible assumption)) | (with_reducible apply hp_s; (with_reducible assumption)) | (with_reducible apply hp_l; (with_reducible assumption); (with_reducible assumption)) | (with_reducible apply hp_k; (with_reducible assumption); (focus (repeat (first | (with_reducible assumption) | (with_reducible apply HandAt.s; (with_reducible assumption)) | (with_reducible apply HandAt.u; (with_reducible assumption))))); (with_unfolding_all exact rfl))))); decide; decide; decide; omega) | (with_reducible apply TQ.mono; (focus (repeat (first | (with_reducible assumption) | (with_reducible apply TQ.s; (with_reducible assumption)) | (with_reducible apply TQ.kq; (with_reducible assumption); (focus (repeat (first | (with_reducible assumption) | (with_reducible apply HandAt.s; (with_reducible assumption)) | (with_reducible apply HandAt.u; (with_reducible assumption)))))) | (with_reducible apply TQ.u; (with_reducible assumption))))); omega))); walk_at "all"))
local macro_rules | `(tactic| walk_at "y1") => `(tactic| first | refine q_belowT (by (repeat (first | (with_reducible assumption) | (with_reducible apply QAt.s; (with_reducible assumption)) | (with_reducible apply QAt.kq; (with_reducible assumption); (focus (repeat (first | (with_reducible assumption) | (with_reducible apply HandAt.s; (with_reducible assumption)) | (with_reducible apply HandAt.u; (with_reducible assumption)))))) | (with_reducible apply QAt.u; (with_reducible assumption)))); done) (by (repeat (first | (with_reducible assumption) | (with_reducible apply QAt.s; (with_reducible assumption)) | (with_reducible apply QAt.kq; (with_reducible assumption); (focus (repeat (first | (with_reducible assumption) | (with_reducible apply HandAt.s; (with_reducible assumption)) | (with_reducible apply HandAt.u; (with_reducible assumption)))))) | (with_reducible apply QAt.u; (with_reducible assumption)))); done) (by omega) (by omega) ?_ | refine q_belowA (by (repeat (first | (with_reducible assumption) | (with_reducible apply QAt.s; (with_reducible assumption)) | (with_reducible apply QAt.kq; (with_reducible assumption); (focus (repeat (first | (with_reducible assumption) | (with_reducible apply HandAt.s; (with_reducible assumption)) | (with_reducible apply HandAt.u; (with_reducible assumption)))))) | (with_reducible apply QAt.u; (with_reducible assumption)))); done) (by (repeat (first | (with_reducible assumption) | (with_reducible apply QAt.s; (with_reducible assumption)) | (with_reducible apply QAt.kq; (with_reducible assumption); (focus (repeat (first | (with_reducible assumption) | (with_reducible apply HandAt.s; (with_reducible assumption)) | (with_reducible apply HandAt.u; (with_reducible assumption)))))) | (with_reducible apply QAt.u; (with_reducible assumption)))); done) (by omega) (by omega) ?_ | refine q_subT (by (repeat (first | (with_reducible assumption) | (with_reducible apply QAt.s; (with_reducible assumption)) | (with_reducible apply QAt.kq; (with_reducible assumption); (focus (repeat (first | (with_reducible assumption) | (with_reducible apply HandAt.s; (with_reducible assumption)) | (with_reducible apply HandAt.u; (with_reducible assumption)))))) | (with_reducible apply QAt.u; (with_reducible assumption)))); done) (by (repeat (first | (with_reducible assumption) | (with_reducible apply QAt.s; (with_reducible assumption)) | (with_reducible apply QAt.kq; (with_reducible assumption); (focus (repeat (first | (with_reducible assumption) | (with_reducible apply HandAt.s; (with_reducible assumption)) | (with_reducible apply HandAt.u; (with_reducible assumption)))))) | (with_reducible apply QAt.u; (with_reducible assumption)))); done) (by omega) (by omega) (by omega) ?_ | refine q_addT (by (repeat (first | (with_reducible assumption) | (with_reducible apply QAt.s; (with_reducible assumption)) | (with_reducible apply QAt.kq; (with_reducible assumption); (focus (repeat (first | (with_reducible assumption) | (with_reducible apply HandAt.s; (with_reducible assumption)) | (with_reducible apply HandAt.u; (with_reducible assumption)))))) | (with_reducible apply QAt.u; (with_reducible assumption)))); done) (by (repeat (first | (with_reducible assumption) | (with_reducible apply QAt.s; (with_reducible assumption)) | (with_reducible apply QAt.kq; (with_reducible assumption); (focus (repeat (first | (with_reducible assumption) | (with_reducible apply HandAt.s; (with_reducible assumption)) | (with_reducible apply HandAt.u; (with_reducible assumption)))))) | (with_reducible apply QAt.u; (with_reducible assumption)))); done) (by omega) (by omega) (by omega) ?_ | refine q_mulT (by (repeat (first | (with_reducible assumption) | (with_reducible apply QAt.s; (with_reducible assumption)) | (with_reducible apply QAt.kq; (with_reducible assumption); (focus (repeat (first | (with_reducible assumption) | (with_reducible apply HandAt.s; (with_reducible assumption)) | (with_reducible apply HandAt.u; (with_reducible assumption)))))) | (with_reducible apply QAt.u; (with_reducible assumption)))); done) (by (repeat (first | (with_reducible assumption) | (with_reducible apply QAt.s; (with_reducible assumption)) | (with_reducible apply QAt.kq; (with_reducible assumption); (focus (repeat (first | (with_reducible assumption) | (with_reducible apply HandAt.s; (with_reducible assumption)) | (with_reducible apply HandAt.u; (with_reducible assumption)))))) | (with_reducible apply QAt.u; (with_reducible assumption)))); done) (by omega) (by omega) (by omega) ?_ | refine meth_q (by (repeat (first | (with_reducible assumption) | (with_reducible apply QAt.s; (with_reducible assumption)) | (with_reducible apply QAt.kq; (with_reducible assumption); (focus (repeat (first | (with_reducible assumption) | (with_reducible apply HandAt.s; (with_reducible assumption)) | (with_reducible apply HandAt.u; (with_reducible assumption)))))) | (with_reducible apply QAt.u; (with_reducible assumption)))); done) (by decide +kernel) (by decide +kernel) ?_ | refine meth_l (by (repeat (first | (with_reducible assumption) | (with_reducible apply LadAt.s; (with_reducible assumption)) | (with_reducible apply LadAt.kq; (with_reducible assumption); (focus (repeat (first | (with_reducible assumption) | (with_reducible apply HandAt.s; (with_reducible assumption)) | (with_reducible apply HandAt.u; (with_reducible assumption)))))) | (with_reducible apply LadAt.u; (with_reducible assumption)))); done) (by decide +kernel) (by decide +kernel) (by decide +kernel) (by decide +kernel) ?_ | apply @Exists.intro V | apply @Exists.intro Int | apply @Exists.intro Addr | apply @Exists.intro Bool | apply @Exists.intro (List V) | apply @Exists.intro Str | apply @Exists.intro Nat | apply @Exists.intro (List (Str × V)) | apply @Exists.intro Q2 | apply @Exists.intro (List Q2) | apply @Exists.intro (Option Q2) | (apply And.intro; (focus (first | (with_reducible apply eq_id; apply Eq.refl) | (with_reducible assumption) | ((with_reducible apply TQ_id); first | ((repeat (first | (with_reducible assumption) | (with_reducible apply TQ.s; (with_reducible assumption)) | (with_reducible apply TQ.kq; (with_reducible assumption); (focus (repeat (first | (with_reducible assumption) | (with_reducible apply HandAt.s; (with_reducible assumption)) | (with_reducible apply HandAt.u; (with_reducible assumption)))))) | (with_reducible apply TQ.u; (with_reducible assumption)))); done) | (with_reducible apply TQ.lit; (focus (repeat (first | (with_reducible exact upd_same) | (with_reducible assumption) | (with_reducible apply hp_u; (with_reducible assumption)) | (with_reducible apply hp_s; (with_reducible assumption)) | (with_reducible apply hp_l; (with_reducible assumption); (with_reducible assumption)) | (with_reducible apply hp_k; (with_reducible assumption); (focus (repeat (first | (with_reducible assumption) | (with_reducible apply HandAt.s; (with_reducible assumption)) | (with_reducible apply HandAt.u; (with_reducible assumption))))); (with_unfolding_all exact rfl))))); decide; decide; decide) | (with_reducible apply TQ.mono; with_reducible apply TQ.lit; (focus (repeat (first | (with_reducible exact upd_same) | (with_reducible assumption) | (with_reducible apply hp_u; (with_reducible assumption)) | (with_reducible apply hp_s; (with_reducible assumption)) | (with_reducible apply hp_l; (with_reducible assumption); (with_reducible assumption)) | (with_reducible apply hp_k; (with_reducible assumption); (focus (repeat (first | (with_reducible assumption) | (with_reducible apply HandAt.s; (with_reducible assumption)) | (with_reducible apply HandAt.u; (with_reducible assumption))))); (with_unfolding_all exact rfl))))); decide; decide; decide; omega) | (with_reducible apply TQ.mono; (focus (repeat (first | (with_reducible assumption) | (with_reducible apply TQ.s; (with_reducible assumption)) | (with_reducible apply TQ.kq; (with_reducible assumption); (focus (repeat (first | (with_reducible assumption) | (with_reducible apply HandAt.s; (with_reducible assumption)) | (with_reducible apply HandAt.u; (with_reducible assumption)))))) | (with_reducible apply TQ.u; (with_reducible assumption))))); omega)) | ((with_reducible apply Tqs_id); first | ((repeat (first | (with_reducible assumption) | (with_reducible apply Tqs.s; (with_reducible assumption)) | (with_reducible apply Tqs.kq; (with_reducible assumption); (focus (repeat (first | (with_reducible assumption) | (with_reducible apply HandAt.s; (with_reducible assumption)) | (with_reducible apply HandAt.u; (with_reducible assumption)))))) | (with_reducible apply Tqs.u; (with_reducible assumption)))); done) | (with_reducible apply Tqs.mono; (focus (repeat (first | (with_reducible assumption) | (with_reducible apply Tqs.s; (with_reducible assumption)) | (with_reducible apply Tqs.kq; (with_reducible assumption); (focus (repeat (first | (with_reducible assumption) | (with_reducible apply HandAt.s; (with_reducible assumption)) | (with_reducible apply HandAt.u; (with_reducible assumption)))))) | (with_reducible apply Tqs.u; (with_reducible assumption))))); omega)) | ((with_reducible apply QAt_id); first | ((repeat (first | (with_reducible assumption) | (with_reducible apply QAt.s; (with_reducible assumption)) | (with_reducible apply QAt.kq; (with_reducible assumption); (focus (repeat (first | (with_reducible assumption) | (with_reducible apply HandAt.s; (with_reducible assumption)) | (with_reducible apply HandAt.u; (with_reducible assumption)))))) | (with_reducible apply QAt.u; (with_reducible assumption)))); done) | (with_reducible apply QAt.mono; (focus (repeat (first | (with_reducible assumption) | (with_reducible apply QAt.s; (with_reducible assumption)) | (with_reducible apply QAt.kq; (with_reducible assumption); (focus (repeat (first | (with_reducible assumption) | (with_reducible apply HandAt.s; (with_reducible assumption)) | (with_reducible apply HandAt.u; (with_reducible assumption)))))) | (with_reducible apply QAt.u; (with_reducible assumption))))); omega) | ((repeat (first | assumption | (apply QAt.s; assumption) | (apply QAt.kq; assumption; (focus (repeat (first | (with_reducible assumption) | (with_reducible apply HandAt.s; (with_reducible assumption)) | (with_reducible apply HandAt.u; (with_reducible assumption)))))) | (with_reducible apply QAt.u; assumption))); done)) | ((with_reducible apply Mks_id); first | ((repeat (first | (with_reducible assumption) | (with_reducible apply Mks.s; (with_reducible assumption)) | (with_reducible apply Mks.kq; (with_reducible assumption); (focus (repeat (first | (with_reducible assumption) | (with_reducible apply HandAt.s; (with_reducible assumption)) | (with_reducible apply HandAt.u; (with_reducible assumption)))))) | (with_reducible apply Mks.u; (with_reducible assumption)))); done)) | ((with_reducible apply QO_id); first | ((repeat (first | (with_reducible assumption) | (with_reducible apply QO.s; (with_reducible assumption)) | (with_reducible apply QO.kq; (with_reducible assumption); (focus (repeat (first | (with_reducible assumption) | (with_reducible apply HandAt.s; (with_reducible assumption)) | (with_reducible apply HandAt.u; (with_reducible assumption)))))) | (with_reducible apply QO.u; (with_reducible assumption)))); done) | (with_reducible apply QO.monoR; (focus (repeat (first | (with_reducible assumption) | (with_reducible apply QO.s; (with_reducible assumption)) | (with_reducible apply QO.kq; (with_reducible assumption); (focus (repeat (first | (with_reducible assumption) | (with_reducible apply HandAt.s; (with_reducible assumption)) | (with_reducible apply HandAt.u; (with_reducible assumption)))))) | (with_reducible apply QO.u; (with_reducible assumption))))); omega)) | ((with_reducible apply TOq_id); first | ((repeat (first | (with_reducible assumption) | (with_reducible apply TOq.s; (with_reducible assumption)) | (with_reducible apply TOq.kq; (with_reducible assumption); (focus (repeat (first | (with_reducible assumption) | (with_reducible apply HandAt.s; (with_reducible assumption)) | (with_reducible apply HandAt.u; (with_reducible assumption)))))) | (with_reducible apply TOq.u; (with_reducible assumption)))); done) | (with_reducible apply TOq.monoR; (focus (repeat (first | (with_reducible assumption) | (with_reducible apply TOq.s; (with_reducible assumption)) | (with_reducible apply TOq.kq; (with_reducible assumption); (focus (repeat (first | (with_reducible assumption) | (with_reducible apply HandAt.s; (with_reducible assumption)) | (with_reducible apply HandAt.u; (with_reducible assumption)))))) | (with_reducible apply TOq.u; (with_reducible assumption))))); omega)) | ((with_reducible apply LadAt_id); first | ((repeat (first | (with_reducible assumption) | (with_reducible apply LadAt.s; (with_reducible assumption)) | (with_reducible apply LadAt.kq; (with_reducible assumption); (focus (repeat (first | (with_reducible assumption) | (with_reducible apply HandAt.s; (with_reducible assumption)) | (with_reducible apply HandAt.u; (with_reducible assumption)))))) | (with_reducible apply LadAt.u; (with_reducible assumption)))); done) | (with_reducible apply LadAt.mono; (focus (repeat (first | (with_reducible assumption) | (with_reducible apply LadAt.s; (with_reducible assumption)) | (with_reducible apply LadAt.kq; (with_reducible assumption); (focus (repeat (first | (with_reducible assumption) | (with_reducible apply HandAt.s; (with_reducible assumption)) | (with_reducible apply HandAt.u; (with_reducible assumption)))))) | (with_reducible apply LadAt.u; (with_reducible assumption))))); omega) | ((repeat (first | assumption | (apply LadAt.s; assumption) | (apply LadAt.kq; assumption; (focus (repeat (first | (with_reducible assumption) | (with_reducible apply HandAt.s; (with_reducible assumption)) | (with_reducible apply HandAt.u; (with_reducible assumption)))))) | (with_reducible apply LadAt.u; assumption))); done)) | ((with_reducible apply GrdAt_id); first | ((repeat (first | (with_reducible assumption) | (with_reducible apply GrdAt.s; (with_reducible assumption)) | (with_reducible apply GrdAt.kq; (with_reducible assumption); (focus (repeat (first | (with_reducible assumption) | (with_reducible apply HandAt.s; (with_reducible assumption)) | (with_reducible apply HandAt.u; (with_reducible assumption)))))) | (with_reducible apply GrdAt.u; (with_reducible assumption)))); done) | ((repeat (first | assumption | (apply GrdAt.s; assumption) | (apply GrdAt.kq; assumption; (focus (repeat (first | (with_reducible assumption) | (with_reducible apply HandAt.s; (with_reducible assumption)) | (with_reducible apply HandAt.u; (with_reducible assumption)))))) | (with_reducible apply GrdAt.u; assumption))); done)) | ((with_reducible apply SidesAt_id); first | ((repeat (first | (with_reducible assumption) | (with_reducible apply SidesAt.s; (with_reducible assumption)) | (with_reducible apply SidesAt.kq; (with_reducible assumption); (focus (repeat (first | (with_reducible assumption) | (with_reducible apply HandAt.s; (with_reducible assumption)) | (with_reducible apply HandAt.u; (with_reducible assumption)))))) | (with_reducible apply SidesAt.u; (with_reducible assumption)))); done)) | ((with_reducible apply ChartAt_id); first | ((repeat (first | (with_reducible assumption) | (with_reducible apply ChartAt.s; (with_reducible assumption)) | (with_reducible apply ChartAt.kq; (with_reducible assumption); (focus (repeat (first | (with_reducible assumption) | (with_reducible apply HandAt.s; (with_reducible assumption)) | (with_reducible apply HandAt.u; (with_reducible assumption)))))) | (with_reducible apply ChartAt.u; (with_reducible assumption)))); done)) | ((with_reducible apply HandAt_id); first | ((focus (repeat (first | (with_reducible assumption) | (with_reducible apply HandAt.s; (with_reducible assumption)) | (with_reducible apply HandAt.u; (with_reducible assumption))))); done) | (with_reducible apply HandAt.mono; (focus (focus (repeat (first | (with_reducible assumption) | (with_reducible apply HandAt.s; (with_reducible assumption)) | (with_reducible apply HandAt.u; (with_reducible assumption)))))); omega)) | ((with_reducible apply SqT_id); first | ((first | (with_reducible apply SqT.of; (repeat (first | (with_reducible exact upd_same) | (with_reducible assumption) | (with_reducible apply hp_u; (with_reducible assumption)) | (with_reducible apply hp_s; (with_reducible assumption)) | (with_reducible apply hp_l; (with_reducible assumption); (with_reducible assumption)) | (with_reducible apply hp_k; (with_reducible assumption); (focus (repeat (first | (with_reducible assumption) | (with_reducible apply HandAt.s; (with_reducible assumption)) | (with_reducible apply HandAt.u; (with_reducible assumption))))); (with_unfolding_all exact rfl)))); done) | (repeat (first | (with_reducible assumption) | (with_reducible apply sqt_s; (with_reducible assumption)) | (with_reducible apply sqt_k; (with_reducible assumption); (focus (repeat (first | (with_reducible assumption) | (with_reducible apply HandAt.s; (with_reducible assumption)) | (with_reducible apply HandAt.u; (with_reducible assumption)))))) | (with_reducible apply sqt_u; (with_reducible assumption))))); done)) | ((with_reducible apply SqL_id); first | ((first | (with_reducible apply SqL.of; (repeat (first | (with_reducible exact upd_same) | (with_reducible assumption) | (with_reducible apply hp_u; (with_reducible assumption)) | (with_reducible apply hp_s; (with_reducible assumption)) | (with_reducible apply hp_l; (with_reducible assumption); (with_reducible assumption)) | (with_reducible apply hp_k; (with_reducible assumption); (focus (repeat (first | (with_reducible assumption) | (with_reducible apply HandAt.s; (with_reducible assumption)) | (with_reducible apply HandAt.u; (with_reducible assumption))))); (with_unfolding_all exact rfl)))); done) | (repeat (first | (with_reducible assumption) | (with_reducible apply sql_s; (with_reducible assumption)) | (with_reducible apply sql_k; (with_reducible assumption); (with_reducible assumption)) | (with_reducible apply sql_u; (with_reducible assumption))))); done)) | ((with_reducible apply ho_id); first | ((repeat (first | (with_reducible exact upd_same) | (with_reducible assumption) | (with_reducible apply hp_u; (with_reducible assumption)) | (with_reducible apply hp_s; (with_reducible assumption)) | (with_reducible apply hp_l; (with_reducible assumption); (with_reducible assumption)) | (with_reducible apply hp_k; (with_reducible assumption); (focus (repeat (first | (with_reducible assumption) | (with_reducible apply HandAt.s; (with_reducible assumption)) | (with_reducible apply HandAt.u; (with_reducible assumption))))); (with_unfolding_all exact rfl)))); done)) | ((with_reducible apply Kp_id); walk_at "k") | ((with_reducible apply Same_id); walk_at "s") | ((with_reducible apply sq2_id); first | (apply Or.inl; (first | (with_reducible apply SqL.of; (repeat (first | (with_reducible exact upd_same) | (with_reducible assumption) | (with_reducible apply hp_u; (with_reducible assumption)) | (with_reducible apply hp_s; (with_reducible assumption)) | (with_reducible apply hp_l; (with_reducible assumption); (with_reducible assumption)) | (with_reducible apply hp_k; (with_reducible assumption); (focus (repeat (first | (with_reducible assumption) | (with_reducible apply HandAt.s; (with_reducible assumption)) | (with_reducible apply HandAt.u; (with_reducible assumption))))); (with_unfolding_all exact rfl)))); done) | (repeat (first | (with_reducible assumption) | (with_reducible apply sql_s; (with_reducible assumption)) | (with_reducible apply sql_k; (with_reducible assumption); (with_reducible assumption)) | (with_reducible apply sql_u; (with_reducible assumption))))); done) | (apply Or.inr; (first | (with_reducible apply SqT.of; (repeat (first | (with_reducible exact upd_same) | (with_reducible assumption) | (with_reducible apply hp_u; (with_reducible assumption)) | (with_reducible apply hp_s; (with_reducible assumption)) | (with_reducible apply hp_l; (with_reducible assumption); (with_reducible assumption)) | (with_reducible apply hp_k; (with_reducible assumption); (focus (repeat (first | (with_reducible assumption) | (with_reducible apply HandAt.s; (with_reducible assumption)) | (with_reducible apply HandAt.u; (with_reducible assumption))))); (with_unfolding_all exact rfl)))); done) | (repeat (first | (with_reducible assumption) | (with_reducible apply sqt_s; (with_reducible assumption)) | (with_reducible apply sqt_k; (with_reducible assumption); (focus (repeat (first | (with_reducible assumption) | (with_reducible apply HandAt.s; (with_reducible assumption)) | (with_reducible apply HandAt.u; (with_reducible assumption)))))) | (with_reducible apply sqt_u; (with_reducible assumption))))); done)) | ((with_reducible apply AllTQ_id); walk_at "all") | ((with_reducible apply exT_id); exact ⟨_, by first | assumption | (apply SqT.of; (repeat (first | (with_reducible exact upd_same) | (with_reducible assumption) | (with_reducible apply hp_u; (with_reducible assumption)) | (with_reducible apply hp_s; (with_reducible assumption)) | (with_reducible apply hp_l; (with_reducible assumption); (with_reducible assumption)) | (with_reducible apply hp_k; (with_reducible assumption); (focus (repeat (first | (with_reducible assumption) | (with_reducible apply HandAt.s; (with_reducible assumption)) | (with_reducible apply HandAt.u; (with_reducible assumption))))); (with_unfolding_all exact rfl)))); done)⟩) | ((with_reducible apply exL_id); exact ⟨_, by first | assumption | (apply SqL.of; (repeat (first | (with_reducible exact upd_same) | (with_reducible assumption) | (with_reducible apply hp_u; (with_reducible assumption)) | (with_reducible apply hp_s; (with_reducible assumption)) | (with_reducible apply hp_l; (with_reducible assumption); (with_reducible assumption)) | (with_reducible apply hp_k; (with_reducible assumption); (focus (repeat (first | (with_reducible assumption) | (with_reducible apply HandAt.s; (with_reducible assumption)) | (with_reducible apply HandAt.u; (with_reducible assumption))))); (with_unfolding_all exact rfl)))); done)⟩) | with_reducible exact gf_lengths _ _ _ | with_reducible exact gf_breadths _ _ _ | with_reducible exact gf_grade _ _ _ | (first | (with_reducible apply eq_id; apply Eq.refl) | ((with_reducible apply ile_id); omega) | ((with_reducible apply ilt_id); omega) | ((with_reducible apply nle_id); omega) | ((with_reducible apply nlt_id); omega) | with_reducible assumption | with_reducible exact lf_marks _ _ _ _ | with_reducible exact lf_rule _ _ _ _ | with_reducible exact lf_least _ _ _ _ | with_reducible exact lf_most _ _ _ _ | with_reducible exact mf_top _ _ | with_reducible exact mf_bottom _ _ | with_reducible exact sf_low _ _ _ _ | with_reducible exact sf_high _ _ _ _ | with_reducible exact sf_low_in _ _ _ _ | with_reducible exact sf_high_in _ _ _ _ | exact SqL.of (by assumption) | exact SqT.of (by assumption) | exact Or.inl (SqL.of (by assumption)) | exact Or.inr (SqT.of (by assumption)) | exact Or.inr (by assumption) | exact Or.inl (by assumption) | omega | exact atI_nat (by assumption) | exact atI_of (n := 0) rfl (by assumption) | exact logS (by omega) | exact Or.inl (Or.inl ⟨by omega, by omega⟩) | exact Or.inl (Or.inr ⟨by omega, by omega⟩) | exact szb rfl | exact szs (by omega) | exact szl (by omega) | exact Or.inl ⟨Eq.refl _, _, SqL.of (by assumption)⟩ | exact ⟨_, SqT.of (by assumption)⟩ | exact ⟨_, SqL.of (by assumption)⟩ | exact ⟨by omega, by omega, by omega, by omega⟩) | (apply Eq.refl; done)))) | (with_reducible apply iteT) | (with_reducible apply iteF) | refine iteDT (by omega) ?_ | refine iteDF (by omega) ?_ | refine iteNS (by omega) ?_ | refine iteNT (by omega) ?_)
local macro_rules | `(tactic| walk_at "y") => `(tactic| repeat (walk_at "y1"))
local macro_rules | `(tactic| walk_at "pick") => `(tactic| (show sp_of _ [_, _] _ _ E0); refine of_tq (by (focus (repeat (first | (with_reducible assumption) | (with_reducible apply HandAt.s; (with_reducible assumption)) | (with_reducible apply HandAt.u; (with_reducible assumption)))))) (by omega) (by (first | (with_reducible apply SqL.of; (repeat (first | (with_reducible exact upd_same) | (with_reducible assumption) | (with_reducible apply hp_u; (with_reducible assumption)) | (with_reducible apply hp_s; (with_reducible assumption)) | (with_reducible apply hp_l; (with_reducible assumption); (with_reducible assumption)) | (with_reducible apply hp_k; (with_reducible assumption); (focus (repeat (first | (with_reducible assumption) | (with_reducible apply HandAt.s; (with_reducible assumption)) | (with_reducible apply HandAt.u; (with_reducible assumption))))); (with_unfolding_all exact rfl)))); done) | (repeat (first | (with_reducible assumption) | (with_reducible apply sql_s; (with_reducible assumption)) | (with_reducible apply sql_k; (with_reducible assumption); (with_reducible assumption)) | (with_reducible apply sql_u; (with_reducible assumption))))); done) (by first | with_reducible assumption | (with_reducible apply hand_ne; (with_reducible assumption); (focus (repeat (first | (with_reducible assumption) | (with_reducible apply HandAt.s; (with_reducible assumption)) | (with_reducible apply HandAt.u; (with_reducible assumption))))))) (Nat.le_of_ble_eq_true rfl) (Nat.le_of_ble_eq_true rfl) (by walk_at "all") ?_)



structure G48 (K : PySem.W.Frag) (CM CL CG : Addr) (H : Hp) (h ps pc pg c1 c2 L1 L2 : Addr) (zs ys : List Q2) (g : Q2) (r1 : Str) (lo1 hi1 : Option Q2) (r2 : Str) (lo2 hi2 : Option Q2) : Prop where
  sd : SidesAt H h ps 180 zs ys g
  hc : H pc = some (.lst [.ref c1, .ref c2])
  nc : pc ≠ h
  ch1 : ChartAt H c1 220 r1 lo1 hi1
  ch2 : ChartAt H c2 220 r2 lo2 hi2
  a1 : LadAt K CM CL H L1 220 zs r1 lo1 hi1
  a2 : LadAt K CM CL H L2 220 ys r2 lo2 hi2
  ag : GrdAt K CM CL CG H pg 20 L1 L2 g
theorem G48.kp {K : PySem.W.Frag} {CM CL CG : Addr} {H H' : Hp} {h ps pc pg c1 c2 L1 L2 : Addr} {zs ys : List Q2} {g : Q2} {r1 : Str} {lo1 hi1 : Option Q2} {r2 : Str} {lo2 hi2 : Option Q2} {n : Nat} (G : G48 K CM CL CG H h ps pc pg c1 c2 L1 L2 zs ys g r1 lo1 hi1 r2 lo2 hi2) (hh : HandAt H h n) (k : Kp h H H') : G48 K CM CL CG H' h ps pc pg c1 c2 L1 L2 zs ys g r1 lo1 hi1 r2 lo2 hi2 :=
  ⟨G.sd.kp hh k, k _ _ G.hc G.nc, G.nc, G.ch1.kp hh k, G.ch2.kp hh k, G.a1.kp hh k, G.a2.kp hh k, G.ag.kp hh k⟩

theorem b_is_whole_1 {K : PySem.W.Frag} {mg : Str → Option Value} {φ : Fds} (T : Txt K mg φ) : ∃ ds, Vals ([] : List V) ds ∧ Binds K φ.is_whole p_is_whole ds :=
  ⟨[], .nil, T.f_is_whole.bindsN fun _ _ _ _ _ _ us hl => match us, hl with | [_], _ => rfl⟩
theorem b_common_part_2 {K : PySem.W.Frag} {mg : Str → Option Value} {φ : Fds} (T : Txt K mg φ) : ∃ ds, Vals ([] : List V) ds ∧ Binds K φ.common_part p_common_part ds :=
  ⟨[], .nil, T.f_common_part.bindsN fun _ _ _ _ _ _ us hl => match us, hl with | [_, _], _ => rfl⟩
theorem b_Measure_is_below_2 {K : PySem.W.Frag} {mg : Str → Option Value} {φ : Fds} (T : Txt K mg φ) : ∃ ds, Vals ([V.bl false] : List V) ds ∧ Binds K φ.Measure_is_below p_Measure_is_below ds :=
  T.f_Measure_is_below.binds1 2 0 (by simp) rfl fun _ _ _ _ _ _ _ us its h1 h2 => match us, its, h1, h2 with | [_, _], [_], _, _ => ⟨_, rfl, rfl⟩
theorem b_Measure_is_below_3 {K : PySem.W.Frag} {mg : Str → Option Value} {φ : Fds} (T : Txt K mg φ) : ∃ ds, Vals ([] : List V) ds ∧ Binds K φ.Measure_is_below p_Measure_is_below ds :=
  T.f_Measure_is_below.binds1 3 1 (by simp) rfl fun _ _ _ _ _ _ _ us its h1 h2 => match us, its, h1, h2 with | [_, _, _], [_], _, _ => ⟨_, rfl, rfl⟩
theorem b_are_marks_1 {K : PySem.W.Frag} {mg : Str → Option Value} {φ : Fds} (T : Txt K mg φ) : ∃ ds, Vals ([] : List V) ds ∧ Binds K φ.are_marks p_are_marks ds :=
  ⟨[], .nil, T.f_are_marks.bindsN fun _ _ _ _ _ _ us hl => match us, hl with | [_], _ => rfl⟩
theorem b_is_rule_1 {K : PySem.W.Frag} {mg : Str → Option Value} {φ : Fds} (T : Txt K mg φ) : ∃ ds, Vals ([] : List V) ds ∧ Binds K φ.is_rule p_is_rule ds :=
  ⟨[], .nil, T.f_is_rule.bindsN fun _ _ _ _ _ _ us hl => match us, hl with | [_], _ => rfl⟩
theorem b_is_measure_or_none_1 {K : PySem.W.Frag} {mg : Str → Option Value} {φ : Fds} (T : Txt K mg φ) : ∃ ds, Vals ([] : List V) ds ∧ Binds K φ.is_measure_or_none p_is_measure_or_none ds :=
  ⟨[], .nil, T.f_is_measure_or_none.bindsN fun _ _ _ _ _ _ us hl => match us, hl with | [_], _ => rfl⟩
theorem b_is_span_2 {K : PySem.W.Frag} {mg : Str → Option Value} {φ : Fds} (T : Txt K mg φ) : ∃ ds, Vals ([] : List V) ds ∧ Binds K φ.is_span p_is_span ds :=
  ⟨[], .nil, T.f_is_span.bindsN fun _ _ _ _ _ _ us hl => match us, hl with | [_, _], _ => rfl⟩
theorem b_slip_of_1 {K : PySem.W.Frag} {mg : Str → Option Value} {φ : Fds} (T : Txt K mg φ) : ∃ ds, Vals ([] : List V) ds ∧ Binds K φ.slip_of p_slip_of ds :=
  ⟨[], .nil, T.f_slip_of.bindsN fun _ _ _ _ _ _ us hl => match us, hl with | [_], _ => rfl⟩
theorem b_Measure_init_3 {K : PySem.W.Frag} {mg : Str → Option Value} {φ : Fds} (T : Txt K mg φ) : ∃ ds, Vals ([] : List V) ds ∧ Binds K φ.Measure_init p_Measure_init ds :=
  T.f_Measure_init.binds1 3 1 (by simp) rfl fun _ _ _ _ _ _ _ us its h1 h2 => match us, its, h1, h2 with | [_, _, _], [_], _, _ => ⟨_, rfl, rfl⟩
theorem b_Measure_parted_1 {K : PySem.W.Frag} {mg : Str → Option Value} {φ : Fds} (T : Txt K mg φ) : ∃ ds, Vals ([V.int 2] : List V) ds ∧ Binds K φ.Measure_parted p_Measure_parted ds :=
  T.f_Measure_parted.binds1 1 0 (by simp) rfl fun _ _ _ _ _ _ _ us its h1 h2 => match us, its, h1, h2 with | [_], [_], _, _ => ⟨_, rfl, rfl⟩
theorem b_Measure_plus_2 {K : PySem.W.Frag} {mg : Str → Option Value} {φ : Fds} (T : Txt K mg φ) : ∃ ds, Vals ([] : List V) ds ∧ Binds K φ.Measure_plus p_Measure_plus ds :=
  ⟨[], .nil, T.f_Measure_plus.bindsN fun _ _ _ _ _ _ us hl => match us, hl with | [_, _], _ => rfl⟩
theorem b_midsts_of_1 {K : PySem.W.Frag} {mg : Str → Option Value} {φ : Fds} (T : Txt K mg φ) : ∃ ds, Vals ([] : List V) ds ∧ Binds K φ.midsts_of p_midsts_of ds :=
  ⟨[], .nil, T.f_midsts_of.bindsN fun _ _ _ _ _ _ us hl => match us, hl with | [_], _ => rfl⟩
theorem b_size_by_rule_3 {K : PySem.W.Frag} {mg : Str → Option Value} {φ : Fds} (T : Txt K mg φ) : ∃ ds, Vals ([] : List V) ds ∧ Binds K φ.size_by_rule p_size_by_rule ds :=
  ⟨[], .nil, T.f_size_by_rule.bindsN fun _ _ _ _ _ _ us hl => match us, hl with | [_, _, _], _ => rfl⟩
theorem b_l_take_2 {K : PySem.W.Frag} {mg : Str → Option Value} {φ : Fds} (T : Txt K mg φ) : ∃ ds, Vals ([] : List V) ds ∧ Binds K φ.l_take p_l_take ds :=
  ⟨[], .nil, T.f_l_take.bindsN fun _ _ _ _ _ _ us hl => match us, hl with | [_, _], _ => rfl⟩
theorem b_l_plain_2 {K : PySem.W.Frag} {mg : Str → Option Value} {φ : Fds} (T : Txt K mg φ) : ∃ ds, Vals ([] : List V) ds ∧ Binds K φ.l_plain p_l_plain ds :=
  ⟨[], .nil, T.f_l_plain.bindsN fun _ _ _ _ _ _ us hl => match us, hl with | [_, _], _ => rfl⟩
theorem b_l_pick_2 {K : PySem.W.Frag} {mg : Str → Option Value} {φ : Fds} (T : Txt K mg φ) : ∃ ds, Vals ([] : List V) ds ∧ Binds K φ.l_pick p_l_pick ds :=
  ⟨[], .nil, T.f_l_pick.bindsN fun _ _ _ _ _ _ us hl => match us, hl with | [_, _], _ => rfl⟩
theorem b_l_part_1 {K : PySem.W.Frag} {mg : Str → Option Value} {φ : Fds} (T : Txt K mg φ) : ∃ ds, Vals ([] : List V) ds ∧ Binds K φ.l_part p_l_part ds :=
  ⟨[], .nil, T.f_l_part.bindsN fun _ _ _ _ _ _ us hl => match us, hl with | [_], _ => rfl⟩
theorem b_l_sum_2 {K : PySem.W.Frag} {mg : Str → Option Value} {φ : Fds} (T : Txt K mg φ) : ∃ ds, Vals ([] : List V) ds ∧ Binds K φ.l_sum p_l_sum ds :=
  ⟨[], .nil, T.f_l_sum.bindsN fun _ _ _ _ _ _ us hl => match us, hl with | [_, _], _ => rfl⟩
theorem b_l_same_2 {K : PySem.W.Frag} {mg : Str → Option Value} {φ : Fds} (T : Txt K mg φ) : ∃ ds, Vals ([] : List V) ds ∧ Binds K φ.l_same p_l_same ds :=
  ⟨[], .nil, T.f_l_same.bindsN fun _ _ _ _ _ _ us hl => match us, hl with | [_, _], _ => rfl⟩
theorem b_Measure_init_2 {K : PySem.W.Frag} {mg : Str → Option Value} {φ : Fds} (T : Txt K mg φ) : ∃ ds, Vals ([V.int 1] : List V) ds ∧ Binds K φ.Measure_init p_Measure_init ds :=
  T.f_Measure_init.binds1 2 0 (by simp) rfl fun _ _ _ _ _ _ _ us its h1 h2 => match us, its, h1, h2 with | [_, _], [_], _, _ => ⟨_, rfl, rfl⟩
theorem b_measure_or_2 {K : PySem.W.Frag} {mg : Str → Option Value} {φ : Fds} (T : Txt K mg φ) : ∃ ds, Vals ([] : List V) ds ∧ Binds K φ.measure_or p_measure_or ds :=
  ⟨[], .nil, T.f_measure_or.bindsN fun _ _ _ _ _ _ us hl => match us, hl with | [_, _], _ => rfl⟩
theorem b_Measure_times_2 {K : PySem.W.Frag} {mg : Str → Option Value} {φ : Fds} (T : Txt K mg φ) : ∃ ds, Vals ([] : List V) ds ∧ Binds K φ.Measure_times p_Measure_times ds :=
  ⟨[], .nil, T.f_Measure_times.bindsN fun _ _ _ _ _ _ us hl => match us, hl with | [_, _], _ => rfl⟩
theorem b_l_less_2 {K : PySem.W.Frag} {mg : Str → Option Value} {φ : Fds} (T : Txt K mg φ) : ∃ ds, Vals ([] : List V) ds ∧ Binds K φ.l_less p_l_less ds :=
  ⟨[], .nil, T.f_l_less.bindsN fun _ _ _ _ _ _ us hl => match us, hl with | [_, _], _ => rfl⟩
theorem b_Ladder_init_5 {K : PySem.W.Frag} {mg : Str → Option Value} {φ : Fds} (T : Txt K mg φ) : ∃ ds, Vals ([] : List V) ds ∧ Binds K φ.Ladder_init p_Ladder_init ds :=
  T.f_Ladder_init.binds1 5 3 (by simp) rfl fun _ _ _ _ _ _ _ us its h1 h2 => match us, its, h1, h2 with | [_, _, _, _, _], [_, _, _], _, _ => ⟨_, rfl, rfl⟩
theorem b_l_measures_1 {K : PySem.W.Frag} {mg : Str → Option Value} {φ : Fds} (T : Txt K mg φ) : ∃ ds, Vals ([] : List V) ds ∧ Binds K φ.l_measures p_l_measures ds :=
  ⟨[], .nil, T.f_l_measures.bindsN fun _ _ _ _ _ _ us hl => match us, hl with | [_], _ => rfl⟩
theorem b_Ladder_size_2 {K : PySem.W.Frag} {mg : Str → Option Value} {φ : Fds} (T : Txt K mg φ) : ∃ ds, Vals ([] : List V) ds ∧ Binds K φ.Ladder_size p_Ladder_size ds :=
  ⟨[], .nil, T.f_Ladder_size.bindsN fun _ _ _ _ _ _ us hl => match us, hl with | [_, _], _ => rfl⟩
theorem b_Measure_minus_2 {K : PySem.W.Frag} {mg : Str → Option Value} {φ : Fds} (T : Txt K mg φ) : ∃ ds, Vals ([] : List V) ds ∧ Binds K φ.Measure_minus p_Measure_minus ds :=
  ⟨[], .nil, T.f_Measure_minus.bindsN fun _ _ _ _ _ _ us hl => match us, hl with | [_, _], _ => rfl⟩
theorem b_Grid_graded_2 {K : PySem.W.Frag} {mg : Str → Option Value} {φ : Fds} (T : Txt K mg φ) : ∃ ds, Vals ([] : List V) ds ∧ Binds K φ.Grid_graded p_Grid_graded ds :=
  ⟨[], .nil, T.f_Grid_graded.bindsN fun _ _ _ _ _ _ us hl => match us, hl with | [_, _], _ => rfl⟩
theorem b_l_size_3 {K : PySem.W.Frag} {mg : Str → Option Value} {φ : Fds} (T : Txt K mg φ) : ∃ ds, Vals ([] : List V) ds ∧ Binds K φ.l_size p_l_size ds :=
  ⟨[], .nil, T.f_l_size.bindsN fun _ _ _ _ _ _ us hl => match us, hl with | [_, _, _], _ => rfl⟩
theorem b_l_hand_2 {K : PySem.W.Frag} {mg : Str → Option Value} {φ : Fds} (T : Txt K mg φ) : ∃ ds, Vals ([] : List V) ds ∧ Binds K φ.l_hand p_l_hand ds :=
  ⟨[], .nil, T.f_l_hand.bindsN fun _ _ _ _ _ _ us hl => match us, hl with | [_, _], _ => rfl⟩
theorem b_l_grades_1 {K : PySem.W.Frag} {mg : Str → Option Value} {φ : Fds} (T : Txt K mg φ) : ∃ ds, Vals ([] : List V) ds ∧ Binds K φ.l_grades p_l_grades ds :=
  ⟨[], .nil, T.f_l_grades.bindsN fun _ _ _ _ _ _ us hl => match us, hl with | [_], _ => rfl⟩
theorem b_l_marks_of_2 {K : PySem.W.Frag} {mg : Str → Option Value} {φ : Fds} (T : Txt K mg φ) : ∃ ds, Vals ([] : List V) ds ∧ Binds K φ.l_marks_of p_l_marks_of ds :=
  ⟨[], .nil, T.f_l_marks_of.bindsN fun _ _ _ _ _ _ us hl => match us, hl with | [_, _], _ => rfl⟩
theorem b_l_chart_2 {K : PySem.W.Frag} {mg : Str → Option Value} {φ : Fds} (T : Txt K mg φ) : ∃ ds, Vals ([] : List V) ds ∧ Binds K φ.l_chart p_l_chart ds :=
  ⟨[], .nil, T.f_l_chart.bindsN fun _ _ _ _ _ _ us hl => match us, hl with | [_, _], _ => rfl⟩
theorem b_Grid_init_4 {K : PySem.W.Frag} {mg : Str → Option Value} {φ : Fds} (T : Txt K mg φ) : ∃ ds, Vals ([] : List V) ds ∧ Binds K φ.Grid_init p_Grid_init ds :=
  T.f_Grid_init.binds1 4 1 (by simp) rfl fun _ _ _ _ _ _ _ us its h1 h2 => match us, its, h1, h2 with | [_, _, _, _], [_], _, _ => ⟨_, rfl, rfl⟩
theorem b_l_ladder_2 {K : PySem.W.Frag} {mg : Str → Option Value} {φ : Fds} (T : Txt K mg φ) : ∃ ds, Vals ([] : List V) ds ∧ Binds K φ.l_ladder p_l_ladder ds :=
  ⟨[], .nil, T.f_l_ladder.bindsN fun _ _ _ _ _ _ us hl => match us, hl with | [_, _], _ => rfl⟩
theorem b_l_near_2 {K : PySem.W.Frag} {mg : Str → Option Value} {φ : Fds} (T : Txt K mg φ) : ∃ ds, Vals ([] : List V) ds ∧ Binds K φ.l_near p_l_near ds :=
  ⟨[], .nil, T.f_l_near.bindsN fun _ _ _ _ _ _ us hl => match us, hl with | [_, _], _ => rfl⟩
theorem b_l_own_3 {K : PySem.W.Frag} {mg : Str → Option Value} {φ : Fds} (T : Txt K mg φ) : ∃ ds, Vals ([] : List V) ds ∧ Binds K φ.l_own p_l_own ds :=
  ⟨[], .nil, T.f_l_own.bindsN fun _ _ _ _ _ _ us hl => match us, hl with | [_, _, _], _ => rfl⟩
theorem b_Grid_own_1_foot {K : PySem.W.Frag} {mg : Str → Option Value} {φ : Fds} (T : Txt K mg φ) : ∃ its : List Value, KBn K φ.Grid_own p_Grid_own 1 ["foot"] (fun vs zs => (fun {α : Type} (vs ds zs : List α) => (vs ++ (zs.drop 0).take 1)) vs its zs) (fun vs zs => (fun {α : Type} (vs ds zs : List α) => (vs ++ (zs.drop 0).take 1)) vs ([] : List V) zs) :=
  ⟨[], kb_none T.f_Grid_own (fun {α : Type} (vs zs : List α) => (fun (ds : List α) => (vs ++ (zs.drop 0).take 1)) []) (fun a c => (a.append ((c.drop 0).take 1))) fun _ _ _ _ _ _ us ws h1 h2 => match us, ws, h1, h2 with | [_], [_], _, _ => rfl⟩
theorem b_Grid_own_2 {K : PySem.W.Frag} {mg : Str → Option Value} {φ : Fds} (T : Txt K mg φ) : ∃ ds, Vals ([] : List V) ds ∧ Binds K φ.Grid_own p_Grid_own ds :=
  ⟨[], .nil, T.f_Grid_own.bindsN fun _ _ _ _ _ _ us hl => match us, hl with | [_, _], _ => rfl⟩
theorem ok_is_whole {P : Program} {w : World} {K : PySem.W.Frag} {mg : Str → Option Value} {base : Heap} {φ : Fds} (T : Txt K mg φ) : FnOk P w K mg base CX0 1 (He.fAd K ("is_whole", none)) φ.is_whole p_is_whole sp_whole := by
  refine T.f_is_whole.ok sc_is_whole (fun vs H Q E h => ?_) (fun cdv A outer s H vs Q E hr h => ?_)
  · obtain ⟨n, rfl, k⟩ := h; rfl
  · obtain ⟨n, rfl, k⟩ := h
    refine ⟨_, PSs.nox (pss_one (ps_ret (pe_and (pe_callB (id := "isinstance") (isi (K := K)) (by rfl) T.z_isinstance (by decide +kernel) (pa_cons (pv 0) (pa_cons (pe_bltn (v := .ty "int") rfl T.z_int (by decide +kernel) rfl) pa_nil))) (pe_one (pe_not (pe_callB (id := "isinstance") (isi (K := K)) (by rfl) T.z_isinstance (by decide +kernel) (pa_cons (pv 0) (pa_cons (pe_bltn (v := .ty "bool") rfl T.z_bool (by decide +kernel) rfl) pa_nil)))))))), ?_⟩
    refine ⟨_, rfl, _, _, _, _, _, rfl, .ty _, .base (.int _), kit_ty (r := true) (by decide +kernel), _, rfl, ?_⟩
    refine iteT ?_
    refine ⟨_, rfl, _, _, _, _, _, rfl, .ty _, .base (.int _), kit_ty (r := false) (by decide +kernel), _, rfl, ?_⟩
    exact k
theorem ok_common_part {P : Program} {w : World} {K : PySem.W.Frag} {mg : Str → Option Value} {base : Heap} {φ : Fds} (T : Txt K mg φ) : FnOk P w K mg base CX0 1 (He.fAd K ("common_part", none)) φ.common_part p_common_part sp_common := by
  refine T.f_common_part.ok sc_common_part (fun vs H Q E h => ?_) (fun cdv A outer s H vs Q E hr h => ?_)
  · obtain ⟨a, b, rfl, k⟩ := h; rfl
  · obtain ⟨a, b, rfl, k⟩ := h
    refine ⟨_, PSs.nox (pss_cons (ps_par (i := 2) (j := 3) rfl sc_common_part.nd rfl rfl (by decide) rfl rfl (pa_cons (pe_callB (id := "abs") call_abs (by rfl) T.z_abs (by decide +kernel) (pa_cons (pv 0) pa_nil)) (pa_cons (pe_callB (id := "abs") call_abs (by rfl) T.z_abs (by decide +kernel) (pa_cons (pv 1) pa_nil)) pa_nil)) (by rfl))
      (pss_cons (ps_while PassesOwn.never (pt_cmpR op_gt (pv 3) pe_int (nomark _))
      (pss_one (ps_par (i := 2) (j := 3) rfl sc_common_part.nd rfl rfl (by decide) rfl rfl (pa_cons (pv 3) (pa_cons (pe_op op_mod (pv 2) (pv 3)) pa_nil)) (by rfl))))
      (pss_one (ps_ret (pv 2))))), ?_⟩
    refine ⟨_, rfl, _, rfl, _, rfl, _, rfl, _, _, rfl, ?_⟩
    refine while_by (fun σ H' => H' = H ∧ ∃ g s : Int, σ = [some (.int a), some (.int b), some (.int g), some (.int s)] ∧ 0 ≤ g ∧ 0 ≤ s ∧ Int.gcd g s = Int.gcd a b)
      (fun σ _ => match σ with | [_, _, _, some (.int s)] => s.toNat | _ => 0) ⟨rfl, _, _, rfl, ?_, ?_, ?_⟩ ?_ (fun σ H Q Q' hQ ⟨v, e1, i, j, e2, e3, c, e4, q⟩ => ⟨v, e1, i, j, e2, e3, c, e4, hQ _ _ q⟩)
    · split <;> omega
    · split <;> omega
    · have e1 : (if a < 0 then -a else a) = (a.natAbs : Int) := by split <;> omega
      have e2 : (if b < 0 then -b else b) = (b.natAbs : Int) := by split <;> omega
      rw [e1, e2]
      rfl
    · rintro σ H' ⟨rfl, g, s, rfl, hg, hs, e⟩
      refine ⟨_, rfl, _, _, rfl, rfl, _, rfl, ?_⟩
      refine ite2 (fun c => ?_) (fun c => ?_)
      · have c0 : 0 < s := of_decide_eq_true c
        refine ⟨_, rfl, _, rfl, _, rfl, _, _, rfl, rfl, c0, _, _, rfl, ?_⟩
        refine ⟨⟨rfl, s, g % s, rfl, hs, Int.emod_nonneg _ (by omega), (gcd_step c0 hg).trans e⟩, ?_⟩
        show (g % s).toNat < s.toNat
        have h1 := Int.emod_nonneg g (show s ≠ 0 by omega)
        have h2 := Int.emod_lt_of_pos g c0
        omega
      · have c0 : ¬ 0 < s := fun z => c (decide_eq_true z)
        have s0 : s = 0 := by omega
        subst s0
        refine ⟨_, rfl, ?_⟩
        have eg : g = (Int.gcd a b : Int) := by
          rw [← e, Int.gcd_zero_right]
          omega
        rw [eg]
        exact k
theorem ok_Measure_init {P : Program} {w : World} {K : PySem.W.Frag} {mg : Str → Option Value} {base : Heap} {φ : Fds} (T : Txt K mg φ) : FnOk P w K mg base CX0 2 (He.fAd K ("Measure", some "__init__")) φ.Measure_init p_Measure_init (sp_minit (He.ga K "Measure")) := by
  obtain ⟨_, B0v, B0⟩ := b_is_whole_1 T
  obtain ⟨_, B1v, B1⟩ := b_common_part_2 T
  refine T.f_Measure_init.ok sc_Measure_init (fun vs H Q E h => ?_) (fun cdv A outer s H vs Q E hr h => ?_)
  · obtain ⟨p, dx, a, b, rfl, hp, hb, hl, k⟩ := h; rfl
  · obtain ⟨p, dx, a, b, rfl, hp, hb, hl, k⟩ := h
    refine ⟨_, PSs.nox (pss_cons (ps_if (PW.pt (pw_or (pt_not (pt_val (pe_call (ok_is_whole (K := K) T) (hr.mono (by decide)) rfl T.g_is_whole T.f_is_whole.kp B0 B0v pass0 (pa_cons (pv 1) pa_nil)))) (pw_or1 (pt_not (pt_val (pe_call (ok_is_whole (K := K) T) (hr.mono (by decide)) rfl T.g_is_whole T.f_is_whole.kp B0 B0v pass0 (pa_cons (pv 2) pa_nil)))))))
      (pss_one ps_never)
      pss_nil)
      (pss_cons (ps_if (pt_cmpR op_eq (pv 2) pe_int (nomark _))
      (pss_one ps_never)
      pss_nil)
      (pss_cons (ps_set (i := 3) sc_Measure_init.nd rfl (Or.inl rfl) (pe_call (ok_common_part (K := K) T) (hr.mono (by decide)) rfl T.g_common_part T.f_common_part.kp B1 B1v pass0 (pa_cons (pv 1) (pa_cons (pv 2) pa_nil))))
      (pss_cons (ps_cut (ps_if (pt_cmpR op_lt (pv 2) pe_int (nomark _))
      (pss_one (ps_set (i := 3) sc_Measure_init.nd rfl (Or.inl rfl) (pe_un un_neg (pv 3))))
      pss_nil))
      (pss_cons (ps_fld (pv 0) (pe_op op_fd (pv 1) (pv 3)) rfl)
      (pss_one (ps_fld (pv 0) (pe_op op_fd (pv 2) (pv 3)) rfl))))))), ?_⟩
    refine ⟨_, rfl, a, rfl, _, rfl, ?_⟩
    refine iteF ?_
    refine ⟨_, rfl, b, rfl, _, rfl, ?_⟩
    refine iteF ?_
    refine ⟨_, rfl, rfl, _, rfl, ?_⟩
    rw [dI]
    refine ite2 (fun e => absurd (of_decide_eq_true e) hb) (fun _ => ?_)
    refine ⟨_, rfl, _, rfl, a, b, rfl, ?_⟩
    refine ⟨fun σ' H' => H' = H ∧ ∃ c : Int, c = sgn b * (Int.gcd a b : Int) ∧ σ' = [some (.ref p), some (.int a), some (.int b), some (.int c)], ?_, ?_⟩
    · refine ⟨_, rfl, _, _, rfl, rfl, _, rfl, ?_⟩
      refine ite2 (fun e => ?_) (fun e => ?_)
      · have e0 : b < 0 := of_decide_eq_true e
        refine ⟨_, rfl, _, rfl, rfl, _, ?_, rfl⟩
        unfold sgn
        rw [if_neg (by omega), Int.neg_one_mul]
      · have e0 : ¬ b < 0 := fun z => e (decide_eq_true z)
        refine ⟨rfl, _, ?_, rfl⟩
        unfold sgn
        rw [if_pos (by omega), Int.one_mul]
    · rintro σ' H' ⟨rfl, c, hc, rfl⟩
      obtain ⟨c0, cl, fr⟩ := fr_mk hb hc
      have c9 : c.natAbs.log2 < 9000 := by
        refine Nat.lt_of_le_of_lt ?_ hl
        exact (Nat.le_log2 (by omega)).mpr (Nat.le_trans (Nat.log2_self_le (by omega)) cl)
      refine ⟨_, rfl, _, rfl, _, _, rfl, rfl, ⟨c0, c9⟩, _, rfl, p, _, dx, _, rfl, hp, T.cl_Measure, T.na_Measure_top, (by show 0 < 1000; decide), ?_⟩
      refine ⟨_, rfl, _, rfl, _, _, rfl, rfl, ⟨c0, c9⟩, _, rfl, p, _, dx, _, rfl, upd_same, T.cl_Measure, T.na_Measure_bottom, (by show 1 < 1000; decide), ?_⟩
      refine k _ _ _ fr ?_ fun q o e nq => ?_
      · rw [upd_same, mf_put]
      · rw [upd_ne nq, upd_ne nq]
        exact e
theorem ok_Measure_is_below {P : Program} {w : World} {K : PySem.W.Frag} {mg : Str → Option Value} {base : Heap} {φ : Fds} (T : Txt K mg φ) : FnOk P w K mg base CX0 1 (He.fAd K ("Measure", some "is_below")) φ.Measure_is_below p_Measure_is_below (sp_below (He.ga K "Measure")) := by
  refine T.f_Measure_is_below.ok sc_Measure_is_below (fun vs H Q E h => ?_) (fun cdv A outer s H vs Q E hr h => ?_)
  · obtain ⟨p, q, t, u, t', u', al, rfl, ⟨dp, hp⟩, ⟨dq, hq⟩, st, su, st', su', k⟩ := h; rfl
  · obtain ⟨p, q, t, u, t', u', al, rfl, ⟨dp, hp⟩, ⟨dq, hq⟩, st, su, st', su', k⟩ := h
    refine ⟨_, PSs.nox (pss_cons (ps_set (i := 3) sc_Measure_is_below.nd rfl (Or.inl rfl) (pe_op op_mulA (fldK (K := K) (pv 0) rfl) (fldK (K := K) (pv 1) rfl)))
      (pss_cons (ps_set (i := 4) sc_Measure_is_below.nd rfl (Or.inl rfl) (pe_op op_mulA (fldK (K := K) (pv 1) rfl) (fldK (K := K) (pv 0) rfl)))
      (pss_one (ps_ret (pe_or (pe_cmpR op_lt (pv 3) (pv 4) (nomark _)) (pe_one (pe_and (pv 2) (pe_one (pe_cmpR op_eq (pv 3) (pv 4) (nomark _)))))))))), ?_⟩
    refine ⟨_, rfl, _, _, _, _, _, rfl, hp, T.cl_Measure, T.na_Measure_top, mf_top _ _, _, rfl, _, _, _, _, _, rfl, hq, T.cl_Measure, T.na_Measure_bottom, mf_bottom _ _, _, _, rfl, rfl, st.cmul su' (by decide) (by decide) (by decide), ?_⟩
    refine ⟨_, rfl, _, _, _, _, _, rfl, hq, T.cl_Measure, T.na_Measure_top, mf_top _ _, _, rfl, _, _, _, _, _, rfl, hp, T.cl_Measure, T.na_Measure_bottom, mf_bottom _ _, _, _, rfl, rfl, st'.cmul su (by decide) (by decide) (by decide), ?_⟩
    refine ⟨_, rfl, _, rfl, _, _, rfl, rfl, _, rfl, ?_⟩
    have e : ∀ b : Bool, b = lessA t u t' u' al → Q (.bl b) H := fun b z => by rw [z]; exact k
    refine ite2 (fun c => e _ ?_) (fun c => ?_)
    · unfold lessA
      rw [c]
      rfl
    · have c0 : decide (t * u' < t' * u) = false := by simpa using c
      refine ⟨_, rfl, _, rfl, ?_⟩
      cases al with
      | false =>
        refine iteF (e _ ?_)
        unfold lessA
        rw [c0]
        rfl
      | true =>
        refine iteT ?_
        refine ⟨_, rfl, _, rfl, rfl, e _ ?_⟩
        unfold lessA
        rw [c0, dI]
        rfl
theorem ok_slip_of {P : Program} {w : World} {K : PySem.W.Frag} {mg : Str → Option Value} {base : Heap} {φ : Fds} (T : Txt K mg φ) : FnOk P w K mg base CX0 2 (He.fAd K ("slip_of", none)) φ.slip_of p_slip_of (sp_slip K (He.ga K "Measure")) := by
  obtain ⟨_, B0v, B0⟩ := b_Measure_is_below_2 T
  refine T.f_slip_of.ok sc_slip_of (fun vs H Q E h => ?_) (fun cdv A outer s H vs Q E hr h => ?_)
  · obtain ⟨T', k, ps, zs, rfl, hT, hm, hk, hl, kk⟩ := h; rfl
  · obtain ⟨T', k, ps, zs, rfl, hT, hm, hk, hl, kk⟩ := h
    refine ⟨_, PSs.nox (pss_cons (ps_for PassesOwn.never rfl (pi_range2 rfl T.z_range (pa_cons pe_int (pa_cons (pe_callB (id := "len") (lenS (K := K)) (by rfl) T.z_len PySem.boot_len (pa_cons (pv 0) pa_nil)) pa_nil))) (pg_name (i := 1) sc_slip_of.nd rfl (Or.inl rfl))
      (pss_one (ps_if (pt_not (pt_val (pe_meth (pe_ix (ixt (K := K)) (pv 0) (pe_op op_sub (pv 1) pe_int) (fun _ _ => rfl)) T.cl_Measure T.me_Measure_is_below (ok_Measure_is_below (K := K) T) (hr.mono (by decide)) B0 B0v pass0 (pa_cons (pe_ix (ixt (K := K)) (pv 0) (pv 1) (fun _ _ => rfl)) pa_nil))))
      (pss_one (ps_ret (pv 1)))
      pss_nil)))
      (pss_one (ps_ret pe_non))), ?_⟩
    have el : ((ps.length : Nat) : Int) = (zs.length : Int) := by rw [hm.len]
    walk_at "w"
    refine for_range (fun i σ H' => H' = H ∧ (∃ v, σ = [some (.ref T'), v]) ∧ ∀ j a b, j < i → zs[j]? = some a → zs[j + 1]? = some b → ltq a b = true) ⟨rfl, ⟨_, rfl⟩, fun j a b z => by omega⟩ ?_ ?_
    · rintro i σ H1 hi ⟨rfl, ⟨v, rfl⟩, hp⟩
      obtain ⟨a, ha⟩ := ge2 (zs := zs) (n := i) (by omega)
      obtain ⟨b, hb⟩ := ge2 (zs := zs) (n := i + 1) (by omega)
      obtain ⟨p, ep, qp⟩ := hm.at ha
      obtain ⟨q, eq, qq⟩ := hm.at hb
      walk_at "w"
      refine ⟨atI_of (n := i) (by omega) ep, ?_⟩
      walk_at "w"
      refine ⟨atI_of (n := i + 1) (by omega) eq, ?_⟩
      walk_at "w"
      cases e : ltq a b with
      | false =>
        refine iteT ⟨_, rfl, ?_⟩
        have z : (1 : Int) + i = ((i + 1 : Nat) : Int) := by omega
        rw [z]
        refine kk (some (i + 1)) ⟨by omega, by omega, fun a' b' h1 h2 => ?_, fun j a' b' hj h1 h2 => hp j a' b' (by omega) h1 h2⟩
        rw [Nat.add_sub_cancel, ha] at h1
        rw [hb] at h2
        cases h1; cases h2
        exact e
      | true =>
        refine iteF ⟨rfl, ⟨_, rfl⟩, fun j a' b' hj h1 h2 => ?_⟩
        by_cases hji : j < i
        · exact hp j a' b' hji h1 h2
        · have : j = i := by omega
          subst this
          rw [ha] at h1
          rw [hb] at h2
          cases h1; cases h2
          exact e
    · rintro σ H1 ⟨rfl, ⟨v, rfl⟩, hp⟩
      refine kk none fun j a b h1 h2 => hp j a b ?_ h1 h2
      have := (List.getElem?_eq_some_iff.mp h2).1
      omega
theorem ok_is_measure_or_none {P : Program} {w : World} {K : PySem.W.Frag} {mg : Str → Option Value} {base : Heap} {φ : Fds} (T : Txt K mg φ) : FnOk P w K mg base CX0 1 (He.fAd K ("is_measure_or_none", none)) φ.is_measure_or_none p_is_measure_or_none (sp_isendQ (He.ga K "Measure")) := by
  refine T.f_is_measure_or_none.ok sc_is_measure_or_none (fun vs H Q E h => ?_) (fun cdv A outer s H vs Q E hr h => ?_)
  · obtain ⟨v, k, e, rfl, he, kk⟩ := h; rfl
  · obtain ⟨v, k, e, rfl, he, kk⟩ := h
    refine ⟨_, PSs.nox (pss_one (ps_ret (pe_or (pe_cmpR op_isN (pv 0) pe_non (nomark _)) (pe_one (pe_callB (id := "isinstance") (isi (K := K)) (by rfl) T.z_isinstance (by decide +kernel) (pa_cons (pv 0) (pa_cons (pe_glob (v := .ref (He.ga K "Measure")) rfl T.g_Measure rfl) pa_nil))))))), ?_⟩
    cases e with
    | none =>
      cases he
      walk_at "w"
      exact kk
    | some z =>
      obtain ⟨p, rfl, qz⟩ := he
      obtain ⟨⟨t, u, ⟨dx, hp⟩, _⟩, _⟩ := qz
      refine ⟨_, rfl, rfl, _, rfl, ?_⟩
      walk_at "w"
      refine ⟨_, _, _, rfl, .own _, tyM hp T.cl_Measure T.ii_Measure, T.k_Measure_Measure, kk⟩
theorem ok_are_marks {P : Program} {w : World} {K : PySem.W.Frag} {mg : Str → Option Value} {base : Heap} {φ : Fds} (T : Txt K mg φ) : FnOk P w K mg base CX0 1 (He.fAd K ("are_marks", none)) φ.are_marks p_are_marks (sp_arem K (He.ga K "Measure")) := by
  refine T.f_are_marks.ok sc_are_marks (fun vs H Q E h => ?_) (fun cdv A outer s H vs Q E hr h => ?_)
  · obtain ⟨T', k, ps, zs, rfl, hT, hm, h0, h1, kk⟩ := h; rfl
  · obtain ⟨T', k, ps, zs, rfl, hT, hm, h0, h1, kk⟩ := h
    refine ⟨_, PSs.nox (pss_cons (ps_if (PW.pt (pw_or (pt_not (pt_val (pe_callB (id := "isinstance") (isi (K := K)) (by rfl) T.z_isinstance (by decide +kernel) (pa_cons (pv 0) (pa_cons (pe_bltn (v := .ty "tuple") rfl T.z_tuple (by decide +kernel) rfl) pa_nil))))) (pw_or1 (pt_not (pt_chain op_le op_le pe_int (pe_callB (id := "len") (lenS (K := K)) (by rfl) T.z_len PySem.boot_len (pa_cons (pv 0) pa_nil)) (C8.pe_gc (v := .int 24) rfl (T.v_MOST_MARKS.elim fun t e => ⟨_, e, ⟨t, rfl⟩⟩)))))))
      (pss_one (ps_ret pe_bl))
      pss_nil)
      (pss_one (ps_ret (pe_callB (id := "all") (allK (K := K)) (by rfl) T.z_all (by decide +kernel) (pa_cons (pe_lc (own := [("mark", 1)]) (g := gName 1) rfl sc_are_marks.nd (pi_tup (pv 0)) (blkOk_by (own := [("mark", 1)]) (N := N_are_marks) (sc := (defScope s_are_marks)) (by decide +kernel)) (fun _ _ _ _ _ => (pg_name (i := 1) sc_are_marks.nd rfl (Or.inl rfl))) (fun _ _ _ _ _ => pts_nil) (fun _ _ _ _ _ => (pe_callB (id := "isinstance") (isi (K := K)) (by rfl) T.z_isinstance (by decide +kernel) (pa_cons (pv 1) (pa_cons (pe_glob (v := .ref (He.ga K "Measure")) rfl T.g_Measure rfl) pa_nil))))) pa_nil))))), ?_⟩
    have el : ps.length = zs.length := hm.len
    refine ⟨_, rfl, _, _, _, _, _, rfl, .ty _, tyTup hT, kit_ty (r := true) (by decide +kernel), _, rfl, iteF ?_⟩
    walk_at "w"
    refine ⟨⟨_, hT⟩, fun D nD => ?_⟩
    refine lcz (n := ps.length) walk_tup (fun _ _ g s => s.sqt g) (List.replicate ps.length (some (V.bl true))) (by simp) (by rw [sizeLine_eq]; omega) hT nD (fun i x H1 H2 z N M hi hz s1 y hN hM => ?_) (fun H1 s1 hD => ?_)
    · obtain ⟨rfl, hx⟩ := y
      obtain ⟨p, z1, rfl, _, qz⟩ := (hm.same s1).of hx
      obtain ⟨⟨t, u, ⟨dx, hp⟩, _⟩, _⟩ := qz
      rw [List.getElem?_replicate, if_pos hi] at hz
      cases hz
      refine ⟨rfl, yesT ?_⟩
      exact ⟨_, rfl, _, _, _, _, _, rfl, .own _, tyM hp T.cl_Measure T.ii_Measure, T.k_Measure_Measure, hN _ _ rfl (Same.refl _)⟩
    have e : (List.replicate ps.length (some (V.bl true))).filterMap _root_.id = (List.replicate ps.length true).map V.bl := by
      generalize ps.length = n
      induction n with
      | zero => rfl
      | succ n ih => rw [List.replicate_succ, List.replicate_succ]; simpa using ih
    rw [e] at hD
    refine ⟨D, _, rfl, SqL.of hD, ?_⟩
    have e2 : (List.replicate ps.length true).all _root_.id = true := by
      generalize ps.length = n
      induction n with
      | zero => rfl
      | succ n ih => rw [List.replicate_succ]; simpa using ih
    rw [e2]
    exact kk _ s1
theorem ok_is_rule {P : Program} {w : World} {K : PySem.W.Frag} {mg : Str → Option Value} {base : Heap} {φ : Fds} (T : Txt K mg φ) : FnOk P w K mg base CX0 1 (He.fAd K ("is_rule", none)) φ.is_rule p_is_rule sp_isrule := by
  refine T.f_is_rule.ok sc_is_rule (fun vs H Q E h => ?_) (fun cdv A outer s H vs Q E hr h => ?_)
  · obtain ⟨r, rfl, hr', kk⟩ := h; rfl
  · obtain ⟨r, rfl, hr', kk⟩ := h
    refine ⟨_, PSs.nox (pss_one (ps_ret (pe_and (pe_callB (id := "isinstance") (isi (K := K)) (by rfl) T.z_isinstance (by decide +kernel) (pa_cons (pv 0) (pa_cons (pe_bltn (v := .ty "str") rfl T.z_str (by decide +kernel) rfl) pa_nil))) (pe_one (pe_cmpR (inK (K := K)) (pv 0) (pe_glob (v := .ref (He.ga K "RULES")) rfl T.g_RULES rfl) (by rfl)))))), ?_⟩
    refine ⟨_, rfl, _, _, _, _, _, rfl, .ty _, .base (.str _), kit_ty (r := true) (by decide +kernel), _, rfl, iteT ?_⟩
    refine ⟨_, rfl, _, _, rfl, .inr (T.tp_RULES H), rfl, rfl, ?_⟩
    have e : inV (.str r) (([Str.ofString "up", Str.ofString "down", Str.ofString "near"] : List Str).map V.str) = true := by
      rcases hr' with rfl | rfl | rfl <;> decide +kernel
    simp only [Bool.false_eq_true, if_false]
    rw [e]
    exact kk
theorem ok_is_span {P : Program} {w : World} {K : PySem.W.Frag} {mg : Str → Option Value} {base : Heap} {φ : Fds} (T : Txt K mg φ) : FnOk P w K mg base CX0 2 (He.fAd K ("is_span", none)) φ.is_span p_is_span (sp_span (He.ga K "Measure")) := by
  obtain ⟨_, B0v, B0⟩ := b_Measure_is_below_3 T
  refine T.f_is_span.ok sc_is_span (fun vs H Q E h => ?_) (fun cdv A outer s H vs Q E hr h => ?_)
  · obtain ⟨l, h, k, lo, hi, rfl, ql, qh, hk, kk⟩ := h; rfl
  · obtain ⟨l, h, k, lo, hi, rfl, ql, qh, hk, kk⟩ := h
    refine ⟨_, PSs.nox (pss_one (ps_ret (pe_or (pe_cmpR op_isN (pv 0) pe_non (nomark _)) (pe_or (pe_cmpR op_isN (pv 1) pe_non (nomark _)) (pe_one (pe_meth (pv 0) T.cl_Measure T.me_Measure_is_below (ok_Measure_is_below (K := K) T) (hr.mono (by decide)) B0 B0v pass0 (pa_cons (pv 1) (pa_cons pe_bl pa_nil)))))))), ?_⟩
    cases lo with
    | none =>
      cases ql
      walk_at "w"
      exact kk
    | some a =>
      obtain ⟨pl, rfl, qa⟩ := ql
      cases hi with
      | none =>
        cases qh
        walk_at "w"
        exact kk
      | some b =>
        obtain ⟨ph, rfl, qb⟩ := qh
        rw [span_leq] at kk
        walk_at "w"
        exact kk
theorem ok_Ladder_init {P : Program} {w : World} {K : PySem.W.Frag} {mg : Str → Option Value} {base : Heap} {φ : Fds} (T : Txt K mg φ) : FnOk P w K mg base CX0 3 (He.fAd K ("Ladder", some "__init__")) φ.Ladder_init p_Ladder_init (sp_linit K (He.ga K "Measure") (He.ga K "Ladder")) := by
  obtain ⟨_, B0v, B0⟩ := b_are_marks_1 T
  obtain ⟨_, B1v, B1⟩ := b_is_rule_1 T
  obtain ⟨_, B2v, B2⟩ := b_is_measure_or_none_1 T
  obtain ⟨_, B3v, B3⟩ := b_is_span_2 T
  obtain ⟨_, B4v, B4⟩ := b_slip_of_1 T
  refine T.f_Ladder_init.ok sc_Ladder_init (fun vs H Q E h => ?_) (fun cdv A outer s H vs Q E hr h => ?_)
  · obtain ⟨p, dx, T', k, ps, zs, r, l, h, lo, hi, rfl, hp, hT, hm, hk, h0, h1, hri, hru, ql, qh, hsp, kk⟩ := h; rfl
  · obtain ⟨p, dx, T', k, ps, zs, r, l, h, lo, hi, rfl, hp, hT, hm, hk, h0, h1, hri, hru, ql, qh, hsp, kk⟩ := h
    refine ⟨_, PSs.nox (pss_cons (ps_if (pt_not (pt_val (pe_call (ok_are_marks (K := K) T) (hr.mono (by decide)) rfl T.g_are_marks T.f_are_marks.kp B0 B0v pass0 (pa_cons (pv 1) pa_nil))))
      (pss_one ps_never)
      pss_nil)
      (pss_cons (ps_if (pt_not (pt_val (pe_call (ok_is_rule (K := K) T) (hr.mono (by decide)) rfl T.g_is_rule T.f_is_rule.kp B1 B1v pass0 (pa_cons (pv 2) pa_nil))))
      (pss_one ps_never)
      pss_nil)
      (pss_cons (ps_if (PW.pt (pw_or (pt_not (pt_val (pe_call (ok_is_measure_or_none (K := K) T) (hr.mono (by decide)) rfl T.g_is_measure_or_none T.f_is_measure_or_none.kp B2 B2v pass0 (pa_cons (pv 3) pa_nil)))) (pw_or1 (pt_not (pt_val (pe_call (ok_is_measure_or_none (K := K) T) (hr.mono (by decide)) rfl T.g_is_measure_or_none T.f_is_measure_or_none.kp B2 B2v pass0 (pa_cons (pv 4) pa_nil)))))))
      (pss_one ps_never)
      pss_nil)
      (pss_cons (ps_if (pt_not (pt_val (pe_call (ok_is_span (K := K) T) (hr.mono (by decide)) rfl T.g_is_span T.f_is_span.kp B3 B3v pass0 (pa_cons (pv 3) (pa_cons (pv 4) pa_nil)))))
      (pss_one ps_never)
      pss_nil)
      (pss_cons (ps_set (i := 5) sc_Ladder_init.nd rfl (Or.inl rfl) (pe_call (ok_slip_of (K := K) T) (hr.mono (by decide)) rfl T.g_slip_of T.f_slip_of.kp B4 B4v pass0 (pa_cons (pv 1) pa_nil)))
      (pss_cons (ps_if (pt_cmpR op_notN (pv 5) pe_non (nomark _))
      (pss_one ps_never)
      pss_nil)
      (pss_cons (ps_fld (pv 0) (pv 1) rfl)
      (pss_cons (ps_fld (pv 0) (pv 2) rfl)
      (pss_cons (ps_fld (pv 0) (pv 3) rfl)
      (pss_one (ps_fld (pv 0) (pv 4) rfl))))))))))), ?_⟩
    have cl_Ladder := T.cl_Ladder
    have na_Ladder_marks := T.na_Ladder_marks
    have na_Ladder_rule := T.na_Ladder_rule
    have na_Ladder_least := T.na_Ladder_least
    have na_Ladder_most := T.na_Ladder_most
    
    walk_at "w"
    refine ⟨zs, rfl, hT, hm, h0, h1, fun H1 s1 => ?_⟩
    walk_at "w"
    refine ⟨lo, rfl, ql.same s1, ?_⟩
    walk_at "w"
    refine ⟨hi, rfl, qh.same s1, ?_⟩
    have hT1 := s1.sqt hT
    have hm1 := hm.same s1
    replace ql := ql.same s1
    replace qh := qh.same s1
    have hp1 := s1 _ _ hp
    walk_at "w"
    refine ⟨lo, hi, rfl, ql, qh, by omega, ?_⟩
    rw [hsp]
    walk_at "w"
    refine ⟨zs, rfl, hT1, hm1, by omega, by omega, fun o ho => ?_⟩
    have eo : o = none := by
      cases o with
      | none => rfl
      | some n =>
        obtain ⟨n1, n2, n3, _⟩ := ho
        obtain ⟨a, ha⟩ := ge2 (zs := zs) (n := n - 1) (by omega)
        obtain ⟨b, hb⟩ := ge2 (zs := zs) (n := n) n2
        have z1 := n3 a b ha hb
        have z2 := hri (n - 1) a b ha (by rw [Nat.sub_add_cancel n1]; exact hb)
        rw [z1] at z2
        cases z2
    subst eo
    walk_at "w"
    refine ⟨by show 0 < 1000; decide, ?_⟩
    refine ⟨_, rfl, _, rfl, p, _, dx, _, rfl, upd_same, cl_Ladder, na_Ladder_rule, by show 1 < 1000; decide, ?_⟩
    refine ⟨_, rfl, _, rfl, p, _, dx, _, rfl, upd_same, cl_Ladder, na_Ladder_least, by show 2 < 1000; decide, ?_⟩
    refine ⟨_, rfl, _, rfl, p, _, dx, _, rfl, upd_same, cl_Ladder, na_Ladder_most, by show 3 < 1000; decide, ?_⟩
    refine kk _ ?_ fun c o ec nc => ?_
    · rw [upd_same, lf_put]
    · rw [upd_ne nc, upd_ne nc, upd_ne nc, upd_ne nc]
      exact s1 _ _ ec
theorem ok_Measure_plus {P : Program} {w : World} {K : PySem.W.Frag} {mg : Str → Option Value} {base : Heap} {φ : Fds} (T : Txt K mg φ) : FnOk P w K mg base CX0 4 (He.fAd K ("Measure", some "plus")) φ.Measure_plus p_Measure_plus (sp_bin2 (He.ga K "Measure") (fun t u t' u' => t * u' + t' * u) (fun t u t' u' => u * u')) := by
  obtain ⟨_, B0v, B0⟩ := b_Measure_init_3 T
  refine T.f_Measure_plus.ok sc_Measure_plus (fun vs H Q E h => ?_) (fun cdv A outer s H vs Q E hr h => ?_)
  · obtain ⟨p, q, t, u, t', u', rfl, ⟨dp, hp⟩, ⟨dq, hq⟩, hu, hu', st, su, st', su', sg, k⟩ := h; rfl
  · obtain ⟨p, q, t, u, t', u', rfl, ⟨dp, hp⟩, ⟨dq, hq⟩, hu, hu', st, su, st', su', sg, k⟩ := h
    refine ⟨_, PSs.nox (pss_one (ps_ret (pe_make T.mk_Measure (ok_Measure_init (K := K) T) (hr.mono (by decide)) rfl T.g_Measure B0 B0v pass0 (pa_cons (pe_op op_add (pe_op op_mulA (fldK (K := K) (pv 0) rfl) (fldK (K := K) (pv 1) rfl)) (pe_op op_mulA (fldK (K := K) (pv 1) rfl) (fldK (K := K) (pv 0) rfl))) (pa_cons (pe_op op_mulA (fldK (K := K) (pv 0) rfl) (fldK (K := K) (pv 1) rfl)) pa_nil))))), ?_⟩
    refine ⟨_, rfl, _, _, _, _, _, rfl, hp, T.cl_Measure, T.na_Measure_top, mf_top _ _, _, rfl, _, _, _, _, _, rfl, hq, T.cl_Measure, T.na_Measure_bottom, mf_bottom _ _, _, _, rfl, rfl, st.cmul su' (by decide) (by decide) (by decide), _, rfl, _, _, _, _, _, rfl, hq, T.cl_Measure, T.na_Measure_top, mf_top _ _, _, rfl, _, _, _, _, _, rfl, hp, T.cl_Measure, T.na_Measure_bottom, mf_bottom _ _, _, _, rfl, rfl, st'.cmul su (by decide) (by decide) (by decide), _, _, rfl, rfl, _, rfl, _, _, _, _, _, rfl, hp, T.cl_Measure, T.na_Measure_bottom, mf_bottom _ _, _, rfl, _, _, _, _, _, rfl, hq, T.cl_Measure, T.na_Measure_bottom, mf_bottom _ _, _, _, rfl, rfl, su.cmul su' (by decide) (by decide) (by decide), ?_⟩
    intro x dx nx nd ne
    refine ⟨x, dx, _, _, rfl, upd_same, Int.mul_ne_zero (by omega) (by omega), sg.log (by decide) (by decide), fun t2 u2 H' fr hx kp => ⟨rfl, ?_⟩⟩
    exact k x t2 u2 H' nx (made_same nx nd kp) ⟨_, hx⟩ fr
theorem ok_Measure_parted {P : Program} {w : World} {K : PySem.W.Frag} {mg : Str → Option Value} {base : Heap} {φ : Fds} (T : Txt K mg φ) : FnOk P w K mg base CX0 4 (He.fAd K ("Measure", some "parted")) φ.Measure_parted p_Measure_parted (sp_part2 (He.ga K "Measure")) := by
  obtain ⟨_, B0v, B0⟩ := b_Measure_init_3 T
  refine T.f_Measure_parted.ok sc_Measure_parted (fun vs H Q E h => ?_) (fun cdv A outer s H vs Q E hr h => ?_)
  · obtain ⟨p, t, u, m, rfl, ⟨dp, hp⟩, hu, hm, st, su, sm, sg, k⟩ := h; rfl
  · obtain ⟨p, t, u, m, rfl, ⟨dp, hp⟩, hu, hm, st, su, sm, sg, k⟩ := h
    refine ⟨_, PSs.nox (pss_one (ps_ret (pe_make T.mk_Measure (ok_Measure_init (K := K) T) (hr.mono (by decide)) rfl T.g_Measure B0 B0v pass0 (pa_cons (fldK (K := K) (pv 0) rfl) (pa_cons (pe_op op_mulA (fldK (K := K) (pv 0) rfl) (pv 1)) pa_nil))))), ?_⟩
    refine ⟨_, rfl, _, _, _, _, _, rfl, hp, T.cl_Measure, T.na_Measure_top, mf_top _ _, _, rfl, _, _, _, _, _, rfl, hp, T.cl_Measure, T.na_Measure_bottom, mf_bottom _ _, _, rfl, _, _, rfl, rfl, su.cmul sm (by decide) (by decide) (by decide), ?_⟩
    intro x dx nx nd ne
    refine ⟨x, dx, _, _, rfl, upd_same, Int.mul_ne_zero (by omega) hm, sg.log (by decide) (by decide), fun t2 u2 H' fr hx kp => ⟨rfl, ?_⟩⟩
    exact k x t2 u2 H' nx (made_same nx nd kp) ⟨_, hx⟩ fr
theorem ok_midsts_of {P : Program} {w : World} {K : PySem.W.Frag} {mg : Str → Option Value} {base : Heap} {φ : Fds} (T : Txt K mg φ) : FnOk P w K mg base CX0 5 (He.fAd K ("midsts_of", none)) φ.midsts_of p_midsts_of (sp_mids K (He.ga K "Measure")) := by
  obtain ⟨_, B0v, B0⟩ := b_Measure_parted_1 T
  obtain ⟨_, B1v, B1⟩ := b_Measure_plus_2 T
  refine T.f_midsts_of.ok sc_midsts_of (fun vs H Q E h => ?_) (fun cdv A outer s H vs Q E hr h => ?_)
  · obtain ⟨T', k, ps, zs, rfl, hT, hm, h0, h1, l0, l1, kk⟩ := h; rfl
  · obtain ⟨T', k, ps, zs, rfl, hT, hm, h0, h1, l0, l1, kk⟩ := h
    refine ⟨_, PSs.nox (pss_one (ps_ret (pe_lc (own := [("at", 1)]) (g := gName 1) rfl sc_midsts_of.nd (pi_range2 rfl T.z_range (pa_cons pe_int (pa_cons (pe_callB (id := "len") (lenS (K := K)) (by rfl) T.z_len PySem.boot_len (pa_cons (pv 0) pa_nil)) pa_nil))) (blkOk_by (own := [("at", 1)]) (N := N_midsts_of) (sc := (defScope s_midsts_of)) (by decide +kernel)) (fun _ _ _ _ _ => (pg_name (i := 1) sc_midsts_of.nd rfl (Or.inl rfl))) (fun _ _ _ _ _ => pts_nil) (fun _ _ _ _ _ => (pe_meth0 (pe_meth (pe_ix (ixt (K := K)) (pv 0) (pe_op op_sub (pv 1) pe_int) (fun _ _ => rfl)) T.cl_Measure T.me_Measure_plus (ok_Measure_plus (K := K) T) (hr.mono (by decide)) B1 B1v pass0 (pa_cons (pe_ix (ixt (K := K)) (pv 0) (pv 1) (fun _ _ => rfl)) pa_nil)) T.cl_Measure T.me_Measure_parted (ok_Measure_parted (K := K) T) (hr.mono (by decide)) B0 B0v pass0))))), ?_⟩
    have el : ps.length = zs.length := hm.len
    walk_at "w"
    intro D nD
    refine lcr walk_range (fun _ _ _ _ => trivial) (fun i H v => ∃ p z, v = .ref p ∧ (midq zs)[i]? = some z ∧ QAt (He.ga K "Measure") H p (k + k + 1 + 10 + 1) z) (fun i H H' y ⟨p, z, e1, e2, q⟩ n => ⟨p, z, e1, e2, q.nl n⟩) (by rw [sizeLine_eq]; omega) trivial nD (fun i x H1 H2 N M hi s1 y hN => ?_) (fun H1 ys s1 hD ly hy => ?_)
    · obtain ⟨rfl, rfl⟩ := y
      obtain ⟨a, ha⟩ := ge2 (zs := zs) (n := i) (by omega)
      obtain ⟨b, hb⟩ := ge2 (zs := zs) (n := i + 1) (by omega)
      obtain ⟨p, ep, qp⟩ := (hm.same s1).at ha
      obtain ⟨q, eq, qq⟩ := (hm.same s1).at hb
      have hT1 := s1.sqt hT
      refine ⟨rfl, yesT ?_⟩
      walk_at "w"
      refine ⟨atI_of (n := i) (by omega) ep, ?_⟩
      walk_at "w"
      refine ⟨atI_of (n := i + 1) (by omega) eq, q_addT qp qq (by omega) h0 h0 fun r H3 s3 R => ?_⟩
      refine meth_q R (by decide +kernel) (by decide +kernel) (q_prt2T R (by omega) (by omega) fun r2 H4 s4 R2 => ?_)
      exact hN _ _ (s3.trans s4) ⟨r2, qhalf a b, rfl, midq_get zs i a b ha hb, R2⟩
    refine kk D ys H1 s1 hD ⟨?_, fun i v z h1 h2 => ?_⟩
    · rw [midq_len, ly]; omega
    · obtain ⟨p, z', e1, e2, q⟩ := hy i v h1
      rw [h2] at e2
      cases e2
      exact ⟨p, e1, q⟩
theorem ok_size_by_rule {P : Program} {w : World} {K : PySem.W.Frag} {mg : Str → Option Value} {base : Heap} {φ : Fds} (T : Txt K mg φ) : FnOk P w K mg base CX0 6 (He.fAd K ("size_by_rule", none)) φ.size_by_rule p_size_by_rule (sp_sizeR K (He.ga K "Measure")) := by
  obtain ⟨_, B0v, B0⟩ := b_Measure_is_below_2 T
  obtain ⟨_, B1v, B1⟩ := b_Measure_is_below_3 T
  obtain ⟨_, B2v, B2⟩ := b_midsts_of_1 T
  refine T.f_size_by_rule.ok sc_size_by_rule (fun vs H Q E h => ?_) (fun cdv A outer s H vs Q E hr h => ?_)
  · obtain ⟨T', q, k, ps, zs, r, x, rfl, hT, hm, qx, h0, h1, l0, l1, kk⟩ := h; rfl
  · obtain ⟨T', q, k, ps, zs, r, x, rfl, hT, hm, qx, h0, h1, l0, l1, kk⟩ := h
    refine ⟨_, PSs.nox (pss_cons (ps_if (pt_cmpR op_eq (pv 1) pe_str (nomark _))
      (pss_one (ps_ret (pe_callB (id := "len") (lenS (K := K)) (by rfl) T.z_len PySem.boot_len (pa_cons (pe_lc (own := [("mark", 3)]) (g := gName 3) rfl sc_size_by_rule.nd (pi_tup (pv 0)) (blkOk_by (own := [("mark", 3)]) (N := N_size_by_rule) (sc := (defScope s_size_by_rule)) (by decide +kernel)) (fun _ _ _ _ _ => (pg_name (i := 3) sc_size_by_rule.nd rfl (Or.inl rfl))) (fun _ _ _ _ _ => (pts_one (pt_val (pe_meth (pv 3) T.cl_Measure T.me_Measure_is_below (ok_Measure_is_below (K := K) T) (hr.mono (by decide)) B0 B0v pass0 (pa_cons (pv 2) pa_nil))))) (fun _ _ _ _ _ => (pv 3))) pa_nil))))
      pss_nil)
      (pss_cons (ps_if (pt_cmpR op_eq (pv 1) pe_str (nomark _))
      (pss_one (ps_ret (pe_op op_sub (pe_callB (id := "len") (lenS (K := K)) (by rfl) T.z_len PySem.boot_len (pa_cons (pe_lc (own := [("mark", 3)]) (g := gName 3) rfl sc_size_by_rule.nd (pi_tup (pv 0)) (blkOk_by (own := [("mark", 3)]) (N := N_size_by_rule) (sc := (defScope s_size_by_rule)) (by decide +kernel)) (fun _ _ _ _ _ => (pg_name (i := 3) sc_size_by_rule.nd rfl (Or.inl rfl))) (fun _ _ _ _ _ => (pts_one (pt_val (pe_meth (pv 3) T.cl_Measure T.me_Measure_is_below (ok_Measure_is_below (K := K) T) (hr.mono (by decide)) B1 B1v pass0 (pa_cons (pv 2) (pa_cons pe_bl pa_nil)))))) (fun _ _ _ _ _ => (pv 3))) pa_nil)) pe_int)))
      pss_nil)
      (pss_one (ps_ret (pe_callB (id := "len") (lenS (K := K)) (by rfl) T.z_len PySem.boot_len (pa_cons (pe_lc (own := [("midst", 4)]) (g := gName 4) rfl sc_size_by_rule.nd (pi_list (pe_call (ok_midsts_of (K := K) T) (hr.mono (by decide)) rfl T.g_midsts_of T.f_midsts_of.kp B2 B2v pass0 (pa_cons (pv 0) pa_nil))) (blkOk_by (own := [("midst", 4)]) (N := N_size_by_rule) (sc := (defScope s_size_by_rule)) (by decide +kernel)) (fun _ _ _ _ _ => (pg_name (i := 4) sc_size_by_rule.nd rfl (Or.inl rfl))) (fun _ _ _ _ _ => (pts_one (pt_val (pe_meth (pv 4) T.cl_Measure T.me_Measure_is_below (ok_Measure_is_below (K := K) T) (hr.mono (by decide)) B1 B1v pass0 (pa_cons (pv 2) (pa_cons pe_bl pa_nil)))))) (fun _ _ _ _ _ => (pv 4))) pa_nil)))))), ?_⟩
    have el : ps.length = zs.length := hm.len
    have fin : ∀ z H', z = sizeR zs r x → Same H H' → Q (.int z) H' := fun z H' e s => by rw [e]; exact kk H' s
    refine ⟨_, rfl, rfl, _, rfl, ?_⟩
    refine ite2 (fun e => ?_) (fun e => ?_)
    · have er : r = "up" := V.str.inj (of_decide_eq_true e)
      walk_at "w"
      refine ⟨⟨_, hT⟩, fun D nD => ?_⟩
      refine lcz (n := ps.length) walk_tup (fun _ _ g s => s.sqt g) (List.zipWith (fun (p : V) (z : Q2) => if ltq z x then some p else none) ps zs) (by rw [List.length_zipWith]; omega) (by rw [sizeLine_eq]; omega) hT nD (fun i v H1 H2 z N M hi hz s1 y hN hM => ?_) (fun H1 s1 hD => ?_)
      · obtain ⟨rfl, hx⟩ := y
        obtain ⟨p, z1, rfl, hz1, qz⟩ := (hm.same s1).of hx
        have ez := zipF_get (f := fun z => ltq z x) hx hz1 hz
        have qx1 := qx.same s1
        refine ⟨rfl, ?_⟩
        walk_at "w"
        show if ltq z1 x = true then _ else _
        cases e : ltq z1 x with
        | true => exact iteT ⟨_, rfl, hN _ _ (by simp [ez, e]) (Same.refl _)⟩
        | false => exact iteF (hM _ (by simp [ez, e]) (Same.refl _))
      have el2 := zipF_len (f := fun z => ltq z x) hm.len
    
      walk_at "w"
      refine fin _ _ ?_ s1
      unfold sizeR
      rw [if_pos er, el2]
    have er : ¬ r = "up" := fun z => e (decide_eq_true (congrArg V.str z))
    refine ⟨_, rfl, rfl, _, rfl, ?_⟩
    refine ite2 (fun e => ?_) (fun e => ?_)
    · have er2 : r = "down" := V.str.inj (of_decide_eq_true e)
      walk_at "w"
      refine ⟨⟨_, hT⟩, fun D nD => ?_⟩
      refine lcz (n := ps.length) walk_tup (fun _ _ g s => s.sqt g) (List.zipWith (fun (p : V) (z : Q2) => if leq z x then some p else none) ps zs) (by rw [List.length_zipWith]; omega) (by rw [sizeLine_eq]; omega) hT nD (fun i v H1 H2 z N M hi hz s1 y hN hM => ?_) (fun H1 s1 hD => ?_)
      · obtain ⟨rfl, hx⟩ := y
        obtain ⟨p, z1, rfl, hz1, qz⟩ := (hm.same s1).of hx
        have ez := zipF_get (f := fun z => leq z x) hx hz1 hz
        have qx1 := qx.same s1
        refine ⟨rfl, ?_⟩
        walk_at "w"
        show if leq z1 x = true then _ else _
        cases e : leq z1 x with
        | true => exact iteT ⟨_, rfl, hN _ _ (by simp [ez, e]) (Same.refl _)⟩
        | false => exact iteF (hM _ (by simp [ez, e]) (Same.refl _))
      have el2 := zipF_len (f := fun z => leq z x) hm.len
    
      walk_at "w"
      refine fin _ _ ?_ s1
      unfold sizeR
      rw [if_neg er, if_pos er2, el2]
    have er2 : ¬ r = "down" := fun z => e (decide_eq_true (congrArg V.str z))
    refine ⟨_, rfl, T', k, ps, zs, rfl, hT, hm, h0, h1, l0, l1, fun D2 ys H0 s0 hD0 hm0 => ?_⟩
    have len0 : ys.length ≤ 24 := by rw [hm0.len, midq_len]; omega
    have qx0 := qx.same s0
    refine ⟨D2, rfl, ⟨_, SqL.of hD0⟩, fun D nD => ?_⟩
    refine lcz (n := ys.length) walk_list (fun _ _ g s => s.seq g) (List.zipWith (fun (p : V) (z : Q2) => if leq z x then some p else none) ys (midq zs)) (by rw [List.length_zipWith, hm0.len, Nat.min_self]) (by rw [sizeLine_eq]; omega) (SqL.of hD0) nD (fun i v H1 H2 z N M hi hz s1 y hN hM => ?_) (fun H1 s1 hD => ?_)
    · obtain ⟨rfl, hx⟩ := y
      obtain ⟨p, z1, rfl, hz1, qz⟩ := (hm0.same s1).of hx
      have ez := zipF_get (f := fun z => leq z x) hx hz1 hz
      have qx1 := qx0.same s1
      refine ⟨rfl, ?_⟩
      walk_at "w"
      show if leq z1 x = true then _ else _
      cases e : leq z1 x with
      | true => exact iteT ⟨_, rfl, hN _ _ (by simp [ez, e]) (Same.refl _)⟩
      | false => exact iteF (hM _ (by simp [ez, e]) (Same.refl _))
    have el2 := zipF_len (f := fun z => leq z x) hm0.len
    walk_at "w"
    refine fin _ _ ?_ (s0.trans s1)
    unfold sizeR
    rw [if_neg er, if_neg er2, el2]
theorem ok_Ladder_size {P : Program} {w : World} {K : PySem.W.Frag} {mg : Str → Option Value} {base : Heap} {φ : Fds} (T : Txt K mg φ) : FnOk P w K mg base CX0 7 (He.fAd K ("Ladder", some "size")) φ.Ladder_size p_Ladder_size (sp_size K (He.ga K "Measure") (He.ga K "Ladder")) := by
  obtain ⟨_, B0v, B0⟩ := b_Measure_is_below_2 T
  obtain ⟨_, B1v, B1⟩ := b_size_by_rule_3 T
  refine T.f_Ladder_size.ok sc_Ladder_size (fun vs H Q E h => ?_) (fun cdv A outer s H vs Q E hr h => ?_)
  · obtain ⟨p, q, k, zs, r, lo, hi, x, rfl, hL, qx, h0, h1, kk⟩ := h; rfl
  · obtain ⟨p, q, k, zs, r, lo, hi, x, rfl, hL, qx, h0, h1, kk⟩ := h
    refine ⟨_, PSs.nox (pss_cons (ps_cut (ps_if (PW.pt (pw_and (pt_cmpR op_notN (fldK (K := K) (pv 0) rfl) pe_non (nomark _)) (pw_and1 (pt_val (pe_meth (pv 1) T.cl_Measure T.me_Measure_is_below (ok_Measure_is_below (K := K) T) (hr.mono (by decide)) B0 B0v pass0 (pa_cons (fldK (K := K) (pv 0) rfl) pa_nil))))))
      (pss_one (ps_ret pe_non))
      pss_nil))
      (pss_cons (ps_cut (ps_if (PW.pt (pw_and (pt_cmpR op_notN (fldK (K := K) (pv 0) rfl) pe_non (nomark _)) (pw_and1 (pt_val (pe_meth (fldK (K := K) (pv 0) rfl) T.cl_Measure T.me_Measure_is_below (ok_Measure_is_below (K := K) T) (hr.mono (by decide)) B0 B0v pass0 (pa_cons (pv 1) pa_nil))))))
      (pss_one (ps_ret pe_non))
      pss_nil))
      (pss_cons (ps_set (i := 2) sc_Ladder_size.nd rfl (Or.inl rfl) (pe_call (ok_size_by_rule (K := K) T) (hr.mono (by decide)) rfl T.g_size_by_rule T.f_size_by_rule.kp B1 B1v pass0 (pa_cons (fldK (K := K) (pv 0) rfl) (pa_cons (fldK (K := K) (pv 0) rfl) (pa_cons (pv 1) pa_nil)))))
      (pss_cons (ps_if (pt_chain op_le op_lt pe_int (pv 2) (pe_callB (id := "len") (lenS (K := K)) (by rfl) T.z_len PySem.boot_len (pa_cons (fldK (K := K) (pv 0) rfl) pa_nil)))
      (pss_one (ps_ret (pv 2)))
      pss_nil)
      (pss_one (ps_ret pe_non)))))), ?_⟩
    have cl_Ladder := T.cl_Ladder
    have na_Ladder_marks := T.na_Ladder_marks
    have na_Ladder_rule := T.na_Ladder_rule
    have na_Ladder_least := T.na_Ladder_least
    have na_Ladder_most := T.na_Ladder_most
    
    obtain ⟨⟨dx, T', ps, l, h, hp, hT, hm, ql, qh⟩, l0, l1, hri, hru, hsp⟩ := hL
    have fin : ∀ o H', o = sizeQ zs r lo hi x → Same H H' → Q (optI o) H' := fun z H' e s => by rw [e]; exact kk H' s
    refine ⟨fun σ' H' => σ' = [some (.ref p), some (.ref q), none] ∧ H' = H ∧ loOk lo x = true, ?_, ?_⟩
    · cases lo with
      | none =>
        cases ql
        walk_at "w"
        walk_at "e"
      | some a =>
        obtain ⟨pl, rfl, qa⟩ := ql
        walk_at "w"
        refine ite2 (fun e => ?_) (fun e => ?_)
        · exact fin none _ (sizeQ_out (inO_lo e)) (Same.refl _)
        · exact ⟨rfl, rfl, by show (!ltq x a) = true; simpa using e⟩
    rintro σ' H' ⟨rfl, rfl, hlo⟩
    refine ⟨fun σ' H'' => σ' = [some (.ref p), some (.ref q), none] ∧ H'' = H' ∧ hiOk hi x = true, ?_, ?_⟩
    · cases hi with
      | none =>
        cases qh
        walk_at "w"
        walk_at "e"
      | some a =>
        obtain ⟨pl, rfl, qa⟩ := qh
        walk_at "w"
        refine ite2 (fun e => ?_) (fun e => ?_)
        · exact fin none _ (sizeQ_out (inO_hi e)) (Same.refl _)
        · exact ⟨rfl, rfl, by show (!ltq a x) = true; simpa using e⟩
    rintro σ' H'' ⟨rfl, rfl, hhi⟩
    have hin : inO lo hi x = true := by unfold inO; rw [hlo, hhi]; rfl
    walk_at "w"
    refine ⟨zs, _, x, rfl, hT, hm, qx, h0, h1, l0, l1, fun H1 s1 => ?_⟩
    have hp1 := s1 _ _ hp
    have hT1 := s1.sqt hT
    have el : ps.length = zs.length := hm.len
    have e0 : sizeQ zs r lo hi x = if 0 ≤ sizeR zs r x ∧ sizeR zs r x < zs.length then some (sizeR zs r x).toNat else none := by
      unfold sizeQ
      rw [if_pos hin]
    walk_at "w"
    by_cases c1 : 0 ≤ sizeR zs r x
    · walk_at "w"
      by_cases c2 : sizeR zs r x < zs.length
      · walk_at "w"
        have e1 : sizeQ zs r lo hi x = some (sizeR zs r x).toNat := by rw [e0, if_pos ⟨c1, c2⟩]
        have z : Q (.int ((sizeR zs r x).toNat : Int)) H1 := fin _ H1 e1.symm s1
        rw [Int.toNat_of_nonneg c1] at z
        exact z
      · walk_at "w"
        refine fin none _ ?_ s1
        rw [e0, if_neg (fun z => c2 z.2)]
    · walk_at "w"
      refine fin none _ ?_ s1
      rw [e0, if_neg (fun z => c1 z.1)]
theorem ok_l_hand {P : Program} {w : World} {K : PySem.W.Frag} {mg : Str → Option Value} {base : Heap} {φ : Fds} (T : Txt K mg φ) : FnOk P w K mg base CX0 1 (He.fAd K ("_law_hand", none)) φ.l_hand p_l_hand (sp_hand K) := by
  refine T.f_l_hand.ok sc_l_hand (fun vs H Q E h => ?_) (fun cdv A outer s H vs Q E hr h => ?_)
  · obtain ⟨a, ns, kk, rfl, hS, hk, k⟩ := h; rfl
  · obtain ⟨a, ns, kk, rfl, hS, hk, k⟩ := h
    refine ⟨_, PSs.nox (pss_cons (ps_set (i := 2) sc_l_hand.nd rfl (Or.inl rfl) pe_int)
      (pss_cons (ps_cut (ps_if (pt_cmpR op_lt (pv 1) (pe_callB (id := "len") (lenS (K := K)) (by rfl) T.z_len PySem.boot_len (pa_cons (pv 0) pa_nil)) (nomark _))
      (pss_one (ps_set (i := 2) sc_l_hand.nd rfl (Or.inl rfl) (pe_ix (ixl (K := K)) (pv 0) (pv 1) (fun _ _ => rfl))))
      pss_nil))
      (pss_cons (ps_set (i := 3) sc_l_hand.nd rfl (Or.inl rfl) (pe_op op_mulA (pe_callB (id := "abs") call_abs (by rfl) T.z_abs (by decide +kernel) (pa_cons (pv 2) pa_nil)) (pe_callTy (T := "int") call_int1 (by rfl) T.z_int (by decide +kernel) (pa_cons (pe_cmpR op_ge (pe_callB (id := "abs") call_abs (by rfl) T.z_abs (by decide +kernel) (pa_cons (pv 2) pa_nil)) (pe_op op_pow pe_int pe_int) (nomark _)) pa_nil))))
      (pss_one (ps_ret (pe_lst (pa_cons (pv 3) (pa_cons (pe_op op_mod (pe_op op_add (pe_op op_add (pe_op op_mod (pv 2) pe_int) (pe_op op_mulA pe_int (pv 1))) pe_int) pe_int) (pa_cons pe_int pa_nil))))))))), ?_⟩
    refine ⟨fun σ' H' => H' = H ∧ ∃ z : Int, σ' = [some (.ref a), some (.int kk), some (.int z), none], ?_, ?_⟩
    · refine ⟨_, rfl, _, rfl, a, _, rfl, .inl hS, _, _, rfl, rfl, _, rfl, ?_⟩
      refine ite2 (fun e => ?_) (fun e => ?_)
      · have e0 : (kk : Int) < ((ns.map V.int).length : Int) := of_decide_eq_true e
        rw [List.length_map] at e0
        have e1 : kk < ns.length := by omega
        refine ⟨_, rfl, _, rfl, a, _, _, V.int ns[kk], rfl, rfl, hS, atI_nat ?_, rfl, _, rfl⟩
        rw [List.getElem?_map, List.getElem?_eq_getElem e1]
        rfl
      · exact ⟨rfl, 0, rfl⟩
    · rintro σ' H' ⟨rfl, z, rfl⟩
      refine ⟨_, rfl, _, rfl, _, rfl, _, rfl, _, _, rfl, rfl, ⟨by decide, by decide, by decide⟩, _, _, rfl, rfl, .inr ⟨_, rfl, _, _, rfl, rfl, .inl (.inr ?_), ?_⟩⟩
      · cases decide ((10 : Int) ^ Int.toNat 18 ≤ (if z < 0 then -z else z)) <;> exact ⟨by decide, by decide⟩
      refine ⟨_, rfl, _, rfl, _, _, rfl, rfl, (by show (0 : Int) < 2305843009213693951; decide), _, rfl, _, _, rfl, rfl, .inl (.inl ⟨by decide, by decide⟩), _, _, rfl, rfl, _, _, rfl, rfl, _, _, rfl, rfl, (by show (0 : Int) < 2305843009213693951; decide), by show 3 ≤ sizeLine; decide, fun p hp => ?_⟩
      refine k p _ hp (same1 hp) ⟨_, _, _, upd_same, ?_, Int.emod_nonneg _ (by decide), Int.lt_trans (Int.emod_lt_of_pos _ (by decide)) (by decide), by decide, by decide⟩
      have ez : 0 ≤ (if z < 0 then -z else z) := by split <;> omega
      generalize (if z < 0 then -z else z) = y at *
      by_cases e : (10 : Int) ^ Int.toNat 18 ≤ y
      · rw [decide_eq_true e]
        show 0 ≤ y * 1
        omega
      · rw [decide_eq_false e]
        show 0 ≤ y * 0
        omega
theorem ok_l_take {P : Program} {w : World} {K : PySem.W.Frag} {mg : Str → Option Value} {base : Heap} {φ : Fds} (T : Txt K mg φ) : FnOk P w K mg base CX0 1 (He.fAd K ("_law_take", none)) φ.l_take p_l_take sp_take := by
  refine T.f_l_take.ok sc_l_take (fun vs H Q E h => ?_) (fun cdv A outer s H vs Q E hr h => ?_)
  · obtain ⟨hd, n, m, rfl, hh, hn, hm, hl, k⟩ := h; rfl
  · obtain ⟨hd, n, m, rfl, hh, hn, hm, hl, k⟩ := h
    refine ⟨_, PSs.nox (pss_cons (ps_if (pt_cmpR op_gt (pe_ix (ixl (K := K)) (pv 0) pe_int (fun _ _ => rfl)) pe_int (nomark _))
      (pss_cons (ps_set (i := 2) sc_l_take.nd rfl (Or.inl rfl) (pe_op op_mod (pe_ix (ixl (K := K)) (pv 0) pe_int (fun _ _ => rfl)) (pv 1)))
      (pss_cons (ps_asg (pe_op op_fd (pe_ix (ixl (K := K)) (pv 0) pe_int (fun _ _ => rfl)) (pv 1)) (pg_sub (pv 0) pe_int set_list))
      (pss_one (ps_ret (pv 2)))))
      pss_nil)
      (pss_cons (ps_asg (pe_op op_add (pe_ix (ixl (K := K)) (pv 0) pe_int (fun _ _ => rfl)) pe_int) (pg_sub (pv 0) pe_int set_list))
      (pss_cons (ps_set (i := 3) sc_l_take.nd rfl (Or.inl rfl) (pe_op op_mod (pe_op op_pow (pe_op op_add (pe_op op_add (pe_ix (ixl (K := K)) (pv 0) pe_int (fun _ _ => rfl)) (pe_op op_mulA (pe_op op_mulA pe_int (pe_ix (ixl (K := K)) (pv 0) pe_int (fun _ _ => rfl))) (pe_ix (ixl (K := K)) (pv 0) pe_int (fun _ _ => rfl)))) pe_int) pe_int) pe_int))
      (pss_cons (ps_set (i := 3) sc_l_take.nd rfl (Or.inl rfl) (pe_op op_mod (pe_op op_mulA (pv 3) (pe_op op_add (pe_op op_mod (pv 3) pe_int) (pe_op op_mulA pe_int (pe_ix (ixl (K := K)) (pv 0) pe_int (fun _ _ => rfl))))) pe_int))
      (pss_one (ps_ret (pe_op op_mod (pe_op op_fd (pv 3) pe_int) (pv 1)))))))), ?_⟩
    obtain ⟨a, b, c, h0, ha, hb, hb2, hc, hc2⟩ := hh
    refine ⟨_, rfl, _, _, _, _, rfl, rfl, SqL.of h0, rfl, _, _, rfl, rfl, _, rfl, ?_⟩
    refine ite2 (fun e => ?_) (fun e => ?_)
    · have e0 : 0 < a := of_decide_eq_true e
      refine ⟨_, rfl, _, _, _, _, rfl, rfl, SqL.of h0, rfl, _, rfl, _, _, rfl, rfl, hm, ?_⟩
      refine ⟨_, rfl, _, _, _, _, rfl, rfl, SqL.of h0, rfl, _, rfl, _, _, rfl, rfl, ⟨by omega, hl⟩, _, rfl, _, _, _, _, rfl, rfl, h0, rfl, ?_⟩
      refine ⟨_, rfl, k _ _ (Int.emod_nonneg _ (by omega)) (Int.emod_lt_of_pos _ hm) ⟨a.fdiv m, b, c, upd_same, ?_, hb, hb2, hc, by omega⟩ (Kp.refl _ _).set⟩
      rw [Int.fdiv_eq_ediv_of_nonneg a (by omega)]
      exact Int.ediv_nonneg ha (by omega)
    · have c9 : c ≤ 1000000 := by omega
      refine ⟨_, rfl, _, _, _, _, rfl, rfl, SqL.of h0, rfl, _, _, rfl, rfl, _, rfl, _, _, _, _, rfl, rfl, h0, rfl, ?_⟩
      have h1 : (upd H hd (.lst ([V.int a, V.int b, V.int c].set 2 (V.int (c + 1))))) hd = some (.lst [V.int a, V.int b, V.int (c + 1)]) := upd_same
      have hcc : 0 ≤ 7919 * (c + 1) * (c + 1) := Int.mul_nonneg (Int.mul_nonneg (by omega) (by omega)) (by omega)
      have hcd : 7919 * (c + 1) * (c + 1) ≤ 7919 * 1000001 * 1000001 := Int.mul_le_mul (Int.mul_le_mul_of_nonneg_left (by omega) (by omega)) (by omega) (by omega) (by omega)
      refine ⟨_, rfl, _, _, _, _, rfl, rfl, SqL.of h1, rfl, _, rfl, _, _, _, _, rfl, rfl, SqL.of h1, rfl, _, _, rfl, rfl, .inl (.inl ⟨by decide, by decide⟩), _, rfl, _, _, _, _, rfl, rfl, SqL.of h1, rfl, _, _, rfl, rfl, .inl (.inr ⟨by omega, by omega⟩), _, _, rfl, rfl, _, _, rfl, rfl, _, _, rfl, rfl, ⟨by decide, by decide, by omega⟩, _, _, rfl, rfl, (by show (0 : Int) < 2305843009213693921; decide), ?_⟩
      refine ⟨_, rfl, _, rfl, _, _, rfl, rfl, (by show (0 : Int) < 1000003; decide), _, rfl, _, _, _, _, rfl, rfl, SqL.of h1, rfl, _, _, rfl, rfl, .inl (.inl ⟨by decide, by decide⟩), _, _, rfl, rfl, _, _, rfl, rfl, .inl (.inr ?_), _, _, rfl, rfl, (by show (0 : Int) < 2305843009213693907; decide), ?_⟩
      · generalize (b + 7919 * (c + 1) * (c + 1) + 11) ^ Int.toNat 3 % 2305843009213693921 = z
        constructor <;> omega
      · generalize (b + 7919 * (c + 1) * (c + 1) + 11) ^ Int.toNat 3 % 2305843009213693921 = z
        generalize z * (z % 1000003 + 99991 * (c + 1)) % 2305843009213693907 = y
        refine ⟨_, rfl, _, _, rfl, rfl, ⟨by decide, by decide +kernel⟩, _, rfl, _, _, rfl, rfl, hm, ?_⟩
        exact k _ _ (Int.emod_nonneg _ (by omega)) (Int.emod_lt_of_pos _ hm) ⟨a, b, c + 1, upd_same, ha, hb, hb2, by omega, by omega⟩ (Kp.refl _ _).set
theorem ok_l_pick {P : Program} {w : World} {K : PySem.W.Frag} {mg : Str → Option Value} {base : Heap} {φ : Fds} (T : Txt K mg φ) : FnOk P w K mg base CX0 2 (He.fAd K ("_law_pick", none)) φ.l_pick p_l_pick (sp_of K) := by
  obtain ⟨_, B0v, B0⟩ := b_l_take_2 T
  refine T.f_l_pick.ok sc_l_pick (fun vs H Q E h => ?_) (fun cdv A outer s H vs Q E hr h => ?_)
  · obtain ⟨h, l, n, xs, rfl, hh, hn, hl, ne, l0, l1, k⟩ := h; rfl
  · obtain ⟨h, l, n, xs, rfl, hh, hn, hl, ne, l0, l1, k⟩ := h
    refine ⟨_, PSs.nox (pss_one (ps_ret (pe_ix (ixl (K := K)) (pv 1) (pe_call (ok_l_take (K := K) T) (hr.mono (by decide)) rfl T.g_l_take T.f_l_take.kp B0 B0v pass0 (pa_cons (pv 0) (pa_cons (pe_callB (id := "len") (lenS (K := K)) (by rfl) T.z_len PySem.boot_len (pa_cons (pv 1) pa_nil)) pa_nil))) (fun _ _ => rfl)))), ?_⟩
    refine ⟨_, rfl, _, rfl, _, rfl, l, xs, rfl, .inl hl, h, n, (xs.length : Int), rfl, hh, by omega, by omega, ?_, fun d H1 d0 d1 hh1 k1 => ?_⟩
    · have : (xs.length : Int).natAbs = xs.length := by omega
      rw [this]
      have : xs.length < 2 ^ 10 := by omega
      exact Nat.lt_of_lt_of_le (PySem.Flt.log2_lt_of (by decide) this) (by decide)
    obtain ⟨j, rfl⟩ := Int.eq_ofNat_of_zero_le d0
    have hj : j < xs.length := by omega
    exact ⟨l, xs, _, xs[j], rfl, rfl, k1.seq ne hl, atI_nat (List.getElem?_eq_getElem hj), k j _ _ (List.getElem?_eq_getElem hj) hh1 k1⟩
theorem ok_l_plain {P : Program} {w : World} {K : PySem.W.Frag} {mg : Str → Option Value} {base : Heap} {φ : Fds} (T : Txt K mg φ) : FnOk P w K mg base CX0 1 (He.fAd K ("_law_plain", none)) φ.l_plain p_l_plain sp_plain := by
  refine T.f_l_plain.ok sc_l_plain (fun vs H Q E h => ?_) (fun cdv A outer s H vs Q E hr h => ?_)
  · obtain ⟨a, b, k, rfl, hb, sa, sb, k0, k1, kk⟩ := h; rfl
  · obtain ⟨a, b, k, rfl, hb, sa, sb, k0, k1, kk⟩ := h
    refine ⟨_, PSs.nox (pss_cons (ps_par (i := 2) (j := 3) rfl sc_l_plain.nd rfl rfl (by decide) rfl rfl (pa_cons (pe_callB (id := "abs") call_abs (by rfl) T.z_abs (by decide +kernel) (pa_cons (pv 0) pa_nil)) (pa_cons (pv 1) pa_nil)) (by rfl))
      (pss_cons (ps_while PassesOwn.never (pt_cmpR op_gt (pv 3) pe_int (nomark _))
      (pss_one (ps_par (i := 2) (j := 3) rfl sc_l_plain.nd rfl rfl (by decide) rfl rfl (pa_cons (pv 3) (pa_cons (pe_op op_mod (pv 2) (pv 3)) pa_nil)) (by rfl))))
      (pss_one (ps_ret (pe_tup (pa_cons (pe_op op_fd (pv 0) (pv 2)) (pa_cons (pe_op op_fd (pv 1) (pv 2)) pa_nil))))))), ?_⟩
    refine ⟨_, rfl, _, rfl, _, rfl, _, _, rfl, ?_⟩
    refine while_by (fun σ H' => H' = H ∧ ∃ g s : Int, σ = [some (.int a), some (.int b), some (.int g), some (.int s)] ∧ 0 ≤ g ∧ 0 ≤ s ∧ Int.gcd g s = Int.gcd a b)
      (fun σ _ => match σ with | [_, _, _, some (.int s)] => s.toNat | _ => 0) ⟨rfl, _, _, rfl, ?_, ?_, ?_⟩ ?_ (fun σ H Q Q' hQ ⟨v, e1, i, j, e2, e3, c, e4, q⟩ => ⟨v, e1, i, j, e2, e3, c, e4, hQ _ _ q⟩)
    · split <;> omega
    · omega
    · have e1 : (if a < 0 then -a else a) = (a.natAbs : Int) := by split <;> omega
      rw [e1]
      show Nat.gcd (a.natAbs : Int).natAbs b.natAbs = _
      rw [Int.natAbs_natCast]
      rfl
    rintro σ H' ⟨rfl, g, s, rfl, hg, hs, e⟩
    refine ⟨_, rfl, _, _, rfl, rfl, _, rfl, ?_⟩
    refine ite2 (fun c => ?_) (fun c => ?_)
    · have c0 : 0 < s := of_decide_eq_true c
      refine ⟨_, rfl, _, rfl, _, rfl, _, _, rfl, rfl, c0, _, _, rfl, ?_⟩
      refine ⟨⟨rfl, s, g % s, rfl, hs, Int.emod_nonneg _ (by omega), (gcd_step c0 hg).trans e⟩, ?_⟩
      show (g % s).toNat < s.toNat
      have h1 := Int.emod_nonneg g (show s ≠ 0 by omega)
      have h2 := Int.emod_lt_of_pos g c0
      omega
    · have c0 : ¬ 0 < s := fun z => c (decide_eq_true z)
      have s0 : s = 0 := by omega
      subst s0
      have eg : g = (Int.gcd a b : Int) := by
        rw [← e, Int.gcd_zero_right]
        omega
      subst eg
      have es : (Int.gcd a b : Int) = sgn b * (Int.gcd a b : Int) := by
        unfold sgn
        rw [if_pos hb, Int.one_mul]
      obtain ⟨c0, cl, fr⟩ := fr_mk (a := a) (b := b) (by omega) es
      have c9 : (Int.gcd a b : Int).natAbs.log2 < 9000 := (sb.le cl).log k0 (by omega)
      refine ⟨_, rfl, _, rfl, _, _, rfl, rfl, ⟨c0, c9⟩, _, rfl, _, rfl, _, _, rfl, rfl, ⟨c0, c9⟩, by show 2 ≤ sizeLine; decide, fun p np => ?_⟩
      exact kk _ (a.fdiv (Int.gcd a b : Int), b.fdiv (Int.gcd a b : Int)) _ (same1 np) (TQ.mk upd_same fr.pos (sa.le fr.lt) (sb.le fr.lu)) ⟨fr.pos, hb, fr.eq⟩
theorem ok_l_sum {P : Program} {w : World} {K : PySem.W.Frag} {mg : Str → Option Value} {base : Heap} {φ : Fds} (T : Txt K mg φ) : FnOk P w K mg base CX0 2 (He.fAd K ("_law_sum", none)) φ.l_sum p_l_sum sp_sum := by
  obtain ⟨_, B0v, B0⟩ := b_l_plain_2 T
  refine T.f_l_sum.ok sc_l_sum (fun vs H Q E h => ?_) (fun cdv A outer s H vs Q E hr h => ?_)
  · obtain ⟨v, w, k, j, x, y, rfl, ⟨p, rfl, hp, px, x1, x2⟩, ⟨q, rfl, hq, py, y1, y2⟩, k0, j0, l, kk⟩ := h; rfl
  · obtain ⟨v, w, k, j, x, y, rfl, ⟨p, rfl, hp, px, x1, x2⟩, ⟨q, rfl, hq, py, y1, y2⟩, k0, j0, l, kk⟩ := h
    refine ⟨_, PSs.nox (pss_one (ps_ret (pe_call (ok_l_plain (K := K) T) (hr.mono (by decide)) rfl T.g_l_plain T.f_l_plain.kp B0 B0v pass0 (pa_cons (pe_op op_add (pe_op op_mulA (pe_ix (ixt (K := K)) (pv 0) pe_int (fun _ _ => rfl)) (pe_ix (ixt (K := K)) (pv 1) pe_int (fun _ _ => rfl))) (pe_op op_mulA (pe_ix (ixt (K := K)) (pv 1) pe_int (fun _ _ => rfl)) (pe_ix (ixt (K := K)) (pv 0) pe_int (fun _ _ => rfl)))) (pa_cons (pe_op op_mulA (pe_ix (ixt (K := K)) (pv 0) pe_int (fun _ _ => rfl)) (pe_ix (ixt (K := K)) (pv 1) pe_int (fun _ _ => rfl))) pa_nil))))), ?_⟩
    walk_at "w"
    refine ⟨x1.cmul y2 k0 j0 (by omega), ?_⟩
    walk_at "w"
    refine ⟨y1.cmul x2 j0 k0 (by omega), ?_⟩
    walk_at "w"
    refine ⟨x2.cmul y2 k0 j0 (by omega), ?_⟩
    refine ⟨_, _, k + j + 1, rfl, Int.mul_pos px py, (x1.mul y2).add ?_, (x2.mul y2).mono (by omega), by omega, by omega, fun v z H' s t r => kk v z H' s t r⟩
    have := y1.mul x2
    rw [Nat.add_comm j k] at this
    exact this
theorem ok_l_less {P : Program} {w : World} {K : PySem.W.Frag} {mg : Str → Option Value} {base : Heap} {φ : Fds} (T : Txt K mg φ) : FnOk P w K mg base CX0 1 (He.fAd K ("_law_less", none)) φ.l_less p_l_less sp_less := by
  refine T.f_l_less.ok sc_l_less (fun vs H Q E h => ?_) (fun cdv A outer s H vs Q E hr h => ?_)
  · obtain ⟨v, w, k, j, x, y, rfl, ⟨p, rfl, hp, px, x1, x2⟩, ⟨q, rfl, hq, py, y1, y2⟩, k0, j0, l, kk⟩ := h; rfl
  · obtain ⟨v, w, k, j, x, y, rfl, ⟨p, rfl, hp, px, x1, x2⟩, ⟨q, rfl, hq, py, y1, y2⟩, k0, j0, l, kk⟩ := h
    refine ⟨_, PSs.nox (pss_one (ps_ret (pe_cmpR op_lt (pe_op op_mulA (pe_ix (ixt (K := K)) (pv 0) pe_int (fun _ _ => rfl)) (pe_ix (ixt (K := K)) (pv 1) pe_int (fun _ _ => rfl))) (pe_op op_mulA (pe_ix (ixt (K := K)) (pv 1) pe_int (fun _ _ => rfl)) (pe_ix (ixt (K := K)) (pv 0) pe_int (fun _ _ => rfl))) (nomark _)))), ?_⟩
    walk_at "w"
    refine ⟨x1.cmul y2 k0 j0 (by omega), ?_⟩
    walk_at "w"
    refine ⟨y1.cmul x2 j0 k0 (by omega), ?_⟩
    walk_at "w"
    exact kk
theorem ok_l_measures {P : Program} {w : World} {K : PySem.W.Frag} {mg : Str → Option Value} {base : Heap} {φ : Fds} (T : Txt K mg φ) : FnOk P w K mg base CX0 4 (He.fAd K ("_law_measures", none)) φ.l_measures p_l_measures (sp_meass K (He.ga K "Measure")) := by
  obtain ⟨_, B0v, B0⟩ := b_Measure_init_3 T
  refine T.f_l_measures.ok sc_l_measures (fun vs H Q E h => ?_) (fun cdv A outer s H vs Q E hr h => ?_)
  · obtain ⟨p, k, us, zs, rfl, hq, hm, k0, k1, l1, kk⟩ := h; rfl
  · obtain ⟨p, k, us, zs, rfl, hq, hm, k0, k1, l1, kk⟩ := h
    refine ⟨_, PSs.nox (pss_one (ps_ret (pe_callTy (T := "tuple") (tupleL (K := K)) (by rfl) T.z_tuple (by decide +kernel) (pa_cons (pe_lc (own := [("_law_top", 1), ("_law_bottom", 2)]) (g := gTup K 2 (gCons (gName 1) (gCons (gName 2) (gNil)))) rfl sc_l_measures.nd (pi_seq (pv 0)) (blkOk_by (own := [("_law_top", 1), ("_law_bottom", 2)]) (N := N_l_measures) (sc := (defScope s_l_measures)) (by decide +kernel)) (fun _ _ _ _ _ => (pg_tup rfl (pgs_cons (pg_name (i := 1) sc_l_measures.nd rfl (Or.inl rfl)) (pgs_cons (pg_name (i := 2) sc_l_measures.nd rfl (Or.inl rfl)) pgs_nil)))) (fun _ _ _ _ _ => pts_nil) (fun _ _ _ _ _ => (pe_make T.mk_Measure (ok_Measure_init (K := K) T) (hr.mono (by decide)) rfl T.g_Measure B0 B0v pass0 (pa_cons (pv 1) (pa_cons (pv 2) pa_nil))))) pa_nil)))), ?_⟩
    have el : us.length = zs.length := hm.len
    have body : ∀ (i : Nat) (x : V) (H1 : Hp) (N : VK) (M : Hp → Prop), us[i]? = some x → Same H H1 → (∀ y H4, Same H1 H4 → (∃ q z, y = V.ref q ∧ zs[i]? = some z ∧ QAt (He.ga K "Measure") H4 q k z) → N y H4) → ∃ (q : Addr) (z : Q2), x = .ref q ∧ H1 q = some (.tup [.int z.1, .int z.2]) ∧ zs[i]? = some z ∧ 0 < z.2 ∧ Sz k z.1 ∧ Sz k z.2 := fun i x H1 N M hx s1 hN => by
      obtain ⟨z, hz, t⟩ := (hm.same s1).of hx
      obtain ⟨q, e, h2, h3, h4, h5⟩ := t
      exact ⟨q, z, e, h2, hz, h3, h4, h5⟩
    have fin : ∀ (D : Addr) (H1 : Hp) (ys : List V), Same H H1 → H1 D = some (.lst ys) → ys.length = us.length → (∀ (i : Nat) (y : V), ys[i]? = some y → ∃ q z, y = V.ref q ∧ zs[i]? = some z ∧ QAt (He.ga K "Measure") H1 q k z) → ∀ T2, H1 T2 = none → Q (.ref T2) (upd H1 T2 (.tup ys)) := fun D H1 ys s1 hD ly hy T2 nT2 => by
      refine kk T2 ys _ (s1.up nT2) upd_same ⟨by omega, fun i v z h1 h2 => ?_⟩
      obtain ⟨q, z', e1, e2, e3⟩ := hy i v h1
      rw [h2] at e2
      cases e2
      exact ⟨q, e1, e3.same (same1 nT2)⟩
    rcases hq with hq | hq
    · refine ⟨_, rfl, p, rfl, .inl ⟨⟨_, hq⟩, fun D nD => ?_⟩⟩
      refine lcr (n := us.length) walk_list (fun _ _ g s => s.seq g) (fun i H v => ∃ q z, v = .ref q ∧ zs[i]? = some z ∧ QAt (He.ga K "Measure") H q k z) (fun i H H' y ⟨q, m, e1, e2, e3⟩ n => ⟨q, m, e1, e2, e3.nl n⟩) (szs (by omega)) hq nD (fun i x H1 H2 N M hi s1 y hN => ?_) (fun H1 ys s1 hD ly hy => ?_)
      · obtain ⟨rfl, hx⟩ := y
        obtain ⟨q, z, rfl, h2, hz, h3, h4, h5⟩ := body i x _ N M hx s1 hN
        refine ⟨q, _, rfl, SqT.of h2, rfl, _, _, rfl, _, _, rfl, rfl, rfl, yesT ?_⟩
        walk_at "w"
        exact q_made (k := k) h3 h4 h5 k0 (by omega) fun q2 H3 s3 R => hN _ _ s3 ⟨q2, z, rfl, hz, R⟩
      · walk_at "w"
        exact fin D H1 ys s1 hD ly hy
    · refine ⟨_, rfl, p, rfl, .inr ⟨⟨_, hq⟩, fun D nD => ?_⟩⟩
      refine lcr (n := us.length) walk_tup (fun _ _ g s => s.sqt g) (fun i H v => ∃ q z, v = .ref q ∧ zs[i]? = some z ∧ QAt (He.ga K "Measure") H q k z) (fun i H H' y ⟨q, m, e1, e2, e3⟩ n => ⟨q, m, e1, e2, e3.nl n⟩) (szs (by omega)) hq nD (fun i x H1 H2 N M hi s1 y hN => ?_) (fun H1 ys s1 hD ly hy => ?_)
      · obtain ⟨rfl, hx⟩ := y
        obtain ⟨q, z, rfl, h2, hz, h3, h4, h5⟩ := body i x _ N M hx s1 hN
        refine ⟨q, _, rfl, SqT.of h2, rfl, _, _, rfl, _, _, rfl, rfl, rfl, yesT ?_⟩
        walk_at "w"
        exact q_made (k := k) h3 h4 h5 k0 (by omega) fun q2 H3 s3 R => hN _ _ s3 ⟨q2, z, rfl, hz, R⟩
      · walk_at "w"
        exact fin D H1 ys s1 hD ly hy
theorem ok_l_part {P : Program} {w : World} {K : PySem.W.Frag} {mg : Str → Option Value} {base : Heap} {φ : Fds} (T : Txt K mg φ) : FnOk P w K mg base CX0 3 (He.fAd K ("_law_part", none)) φ.l_part p_l_part sp_lpart := by
  obtain ⟨_, B0v, B0⟩ := b_l_plain_2 T
  obtain ⟨_, B1v, B1⟩ := b_l_pick_2 T
  obtain ⟨_, B2v, B2⟩ := b_l_take_2 T
  refine T.f_l_part.ok sc_l_part (fun vs H Q E h => ?_) (fun cdv A outer s H vs Q E hr h => ?_)
  · obtain ⟨h, n, rfl, hh, hn, kk⟩ := h; rfl
  · obtain ⟨h, n, rfl, hh, hn, kk⟩ := h
    refine ⟨_, PSs.nox (pss_one (ps_ret (pe_call (ok_l_plain (K := K) T) (hr.mono (by decide)) rfl T.g_l_plain T.f_l_plain.kp B0 B0v pass0 (pa_cons (pe_op op_add pe_int (pe_call (ok_l_take (K := K) T) (hr.mono (by decide)) rfl T.g_l_take T.f_l_take.kp B2 B2v pass0 (pa_cons (pv 0) (pa_cons pe_int pa_nil)))) (pa_cons (pe_call (ok_l_pick (K := K) T) (hr.mono (by decide)) rfl T.g_l_pick T.f_l_pick.kp B1 B1v pass0 (pa_cons (pv 0) (pa_cons (pe_lst (pa_cons pe_int (pa_cons pe_int (pa_cons pe_int (pa_cons pe_int (pa_cons pe_int (pa_cons pe_int (pa_cons pe_int pa_nil)))))))) pa_nil))) pa_nil))))), ?_⟩
    walk_at "w"
    intro d H1 d0 d1 hh1 k1
    walk_at "w"
    intro p1 np1
    refine ⟨h, p1, _, _, rfl, hh1.up np1, by omega, SqL.of upd_same, hh1.ne np1, by decide, by decide, fun i1 vb H2 hr1 hh2 k2 => ?_⟩
    have hb : ∃ b : Int, vb = .int b ∧ 0 < b ∧ b ≤ 1000003 := by
      have hm := List.mem_of_getElem? hr1
      simp at hm
      rcases hm with rfl | rfl | rfl | rfl | rfl | rfl <;> exact ⟨_, rfl, by decide, by decide⟩
    obtain ⟨b, rfl, b0, b1⟩ := hb
    refine ⟨1 + d, b, 20, rfl, b0, ?_, ?_, by decide, by decide, fun v z H3 s3 t r => ?_⟩
    · show (1 + d).natAbs < 2 ^ 20
      omega
    · show b.natAbs < 2 ^ 20
      omega
    exact kk v z H3 (hh2.same s3) (((k1.up np1).trans k2).trans (Kp.same s3)) t (r.pos1 (by show 0 < 1 + d; omega))
theorem ok_l_marks_of {P : Program} {w : World} {K : PySem.W.Frag} {mg : Str → Option Value} {base : Heap} {φ : Fds} (T : Txt K mg φ) : FnOk P w K mg base CX0 4 (He.fAd K ("_law_marks_of", none)) φ.l_marks_of p_l_marks_of sp_marks := by
  obtain ⟨_, B0v, B0⟩ := b_l_part_1 T
  obtain ⟨_, B1v, B1⟩ := b_l_take_2 T
  obtain ⟨_, B2v, B2⟩ := b_l_plain_2 T
  obtain ⟨_, B3v, B3⟩ := b_l_pick_2 T
  obtain ⟨_, B4v, B4⟩ := b_l_sum_2 T
  refine T.f_l_marks_of.ok sc_l_marks_of (fun vs H Q E h => ?_) (fun cdv A outer s H vs Q E hr h => ?_)
  · obtain ⟨h, n, m, rfl, hh, hn, m0, m1, kk⟩ := h; rfl
  · obtain ⟨h, n, m, rfl, hh, hn, m0, m1, kk⟩ := h
    refine ⟨_, PSs.nox (pss_cons (ps_par3 (i := 2) (j := 3) (l := 4) rfl sc_l_marks_of.nd rfl rfl rfl (by decide) (by decide) (by decide) rfl rfl rfl (pa_cons (pe_call (ok_l_take (K := K) T) (hr.mono (by decide)) rfl T.g_l_take T.f_l_take.kp B1 B1v pass0 (pa_cons (pv 0) (pa_cons pe_int pa_nil))) (pa_cons (pe_op op_add pe_int (pe_call (ok_l_take (K := K) T) (hr.mono (by decide)) rfl T.g_l_take T.f_l_take.kp B1 B1v pass0 (pa_cons (pv 0) (pa_cons (pv 1) pa_nil)))) (pa_cons (pe_call (ok_l_part (K := K) T) (hr.mono (by decide)) rfl T.g_l_part T.f_l_part.kp B0 B0v pass0 (pa_cons (pv 0) pa_nil)) pa_nil))) (by rfl))
      (pss_cons (ps_set (i := 5) sc_l_marks_of.nd rfl (Or.inl rfl) (pe_lst (pa_cons (pe_call (ok_l_plain (K := K) T) (hr.mono (by decide)) rfl T.g_l_plain T.f_l_plain.kp B2 B2v pass0 (pa_cons (pe_call (ok_l_take (K := K) T) (hr.mono (by decide)) rfl T.g_l_take T.f_l_take.kp B1 B1v pass0 (pa_cons (pv 0) (pa_cons pe_int pa_nil))) (pa_cons (pe_call (ok_l_pick (K := K) T) (hr.mono (by decide)) rfl T.g_l_pick T.f_l_pick.kp B3 B3v pass0 (pa_cons (pv 0) (pa_cons (pe_lst (pa_cons pe_int (pa_cons pe_int (pa_cons pe_int (pa_cons pe_int pa_nil))))) pa_nil))) pa_nil))) pa_nil)))
      (pss_cons (ps_for PassesOwn.never rfl (pi_range1 rfl T.z_range (pa_cons (pe_op op_sub (pv 3) pe_int) pa_nil)) (pg_name (i := 6) sc_l_marks_of.nd rfl (Or.inl rfl))
      (pss_one (ps_expr (pe_bm PySem.F.plainAttrs_list PySem.F.slot_list_append PySem.F.type_list_append mt_append (pv 5) (pa_cons (pe_call (ok_l_sum (K := K) T) (hr.mono (by decide)) rfl T.g_l_sum T.f_l_sum.kp B4 B4v pass0 (pa_cons (pe_ix (ixl (K := K)) (pv 5) (pe_un un_neg pe_int) (fun _ _ => rfl)) (pa_cons (pe_ifExp (pt_cmpR op_eq (pv 2) pe_int (nomark _)) (pv 4) (pe_call (ok_l_part (K := K) T) (hr.mono (by decide)) rfl T.g_l_part T.f_l_part.kp B0 B0v pass0 (pa_cons (pv 0) pa_nil))) pa_nil))) pa_nil)))))
      (pss_one (ps_ret (pv 5)))))), ?_⟩
    walk_at "w"
    intro al H1 al0 al1 hh1 k1
    walk_at "w"
    intro mn H2 mn0 mn1 hh2 k2
    obtain ⟨mn, rfl⟩ := Int.eq_ofNat_of_zero_le mn0
    walk_at "w"
    intro vs zs H3 hh3 k3 ts zs0
    walk_at "w"
    intro d H4 d0 d1 hh4 k4
    walk_at "w"
    intro p1 np1
    refine ⟨h, p1, _, _, rfl, hh4.up np1, by omega, SqL.of upd_same, hh4.ne np1, by decide, by decide, fun i1 vb H5 hr1 hh5 k5 => ?_⟩
    have hb : ∃ b : Int, vb = .int b ∧ 0 < b ∧ b ≤ 12 := by
      have hm := List.mem_of_getElem? hr1
      simp at hm
      rcases hm with rfl | rfl | rfl | rfl <;> exact ⟨_, rfl, by decide, by decide⟩
    obtain ⟨b, rfl, b0, b1⟩ := hb
    refine ⟨_, b, 12, rfl, b0, ?_, ?_, by decide, by decide, fun v z H6 s6 t r => ?_⟩
    · show d.natAbs < 2 ^ 12
      omega
    · show b.natAbs < 2 ^ 12
      omega
    have kA := ((((k1.trans k2).trans k3).trans (k4.up np1)).trans k5).trans (Kp.same s6 : Kp h _ _)
    replace ts := ((((ts.kp hh3 k4).same (same1 np1)).kp (hh4.up np1) k5).same s6)
    have hhA := hh5.same s6
    clear hh1 hh2 hh3 hh4 hh5 k1 k2 k3 k4 k5 hr1 np1 s6
    walk_at "w"
    intro l nl
    have nlh := hhA.ne nl
    have nlH : H l = none := kA.fresh nl nlh
    replace kA := kA.up (u := .lst [v]) nl
    replace ts := ts.same (same1 (u := .lst [v]) nl)
    replace t := t.same (same1 (u := .lst [v]) nl)
    replace hhA := hhA.up (u := .lst [v]) nl
    have hlA : upd H6 l (.lst [v]) l = some (.lst [v]) := upd_same
    generalize upd H6 l (.lst [v]) = HA at *
    walk_at "w"
    refine for_range (fun i σ H' => ∃ (us : List V) (qs : List Q2) (vk : Option V), σ = [some (.ref h), some (.int m), some (.int al), some (.int (1 + (mn : Int))), some vs, some (.ref l), vk] ∧ H' l = some (.lst us) ∧ us.length = i + 1 ∧ HandAt H' h (n + 6 + 2 * i) ∧ Kp h H H' ∧ TQ H' vs 20 zs ∧ Tqs H' (12 + 21 * i) us qs ∧ RiseQ qs) ?_ ?_ ?_
    · exact ⟨[v], [z], _, rfl, hlA, rfl, hhA, kA, ts, Tqs.one t, fun i a b h1 h2 => by simp at h2⟩
    · rintro i σ H7 hi ⟨us, qs, vk, rfl, hl, lus, hh7, k7, ts7, tq, ri⟩
      have hi2 : i < 24 := by omega
      have lq := tq.len
      obtain ⟨x, hx⟩ := ge2 (zs := qs) (n := i) (by omega)
      obtain ⟨vx, hvx, tx⟩ := tq.at hx
      have last : ∀ (vy : V) (y : Q2) (H8 : Hp), Nl H7 H8 → H8 l = some (.lst us) → HandAt H8 h (n + 6 + 2 * i + 2) → Kp h H H8 → TQ H8 vy 20 y → 0 < y.1 → TQ H8 vx (12 + 21 * i) x → Tqs H8 (12 + 21 * i) us qs → TQ H8 vs 20 zs → ∀ (v9 : V) (z9 : Q2) (H9 : Hp), Same H8 H9 → TQ H9 v9 (12 + 21 * i + 20 + 1) z9 → Re z9 (qadd x y) →
          (∃ (us' : List V) (qs' : List Q2) (vk' : Option V), [some (.ref h), some (.int m), some (.int al), some (.int (1 + (mn : Int))), some vs, some (.ref l), some (.int (0 + (i : Int)))] = [some (.ref h), some (.int m), some (.int al), some (.int (1 + (mn : Int))), some vs, some (.ref l), vk'] ∧ upd H9 l (.lst (us ++ [v9])) l = some (.lst us') ∧ us'.length = i + 1 + 1 ∧ HandAt (upd H9 l (.lst (us ++ [v9]))) h (n + 6 + 2 * (i + 1)) ∧ Kp h H (upd H9 l (.lst (us ++ [v9]))) ∧ TQ (upd H9 l (.lst (us ++ [v9]))) vs 20 zs ∧ Tqs (upd H9 l (.lst (us ++ [v9]))) (12 + 21 * (i + 1)) us' qs' ∧ RiseQ qs') := by
        intro vy y H8 _ hl8 hh8 k8 ty y0 tx8 tq8 ts8 v9 z9 H9 s9 t9 r9
        have pl : Nl H9 (upd H9 l (.lst (us ++ [v9]))) := Nl.put (s9 _ _ hl8)
        refine ⟨us ++ [v9], qs ++ [z9], _, rfl, upd_same, by rw [List.length_append, lus]; rfl, ((hh8.same s9).put nlh).mono (by omega), (k8.trans (Kp.same s9)).putN nlH, (ts8.same s9).nl pl, (((tq8.same s9).mono (by omega)).snoc (t9.mono (by omega))).nl pl, rise_snocQ ri fun n a ha hn => ?_⟩
        have en : n = i := by omega
        subst en
        rw [hx] at ha
        cases ha
        exact ltq_moreR tx8.pos ty.pos y0 r9
      walk_at "w"
      refine ⟨atI_end (n := i) (by omega) hvx, ?_⟩
      refine ⟨_, rfl, rfl, _, rfl, ?_⟩
      rw [dI]
      refine ite2 (fun e => ?_) (fun e => ?_)
      · refine ⟨_, rfl, vx, vs, _, _, x, zs, rfl, tx, ts7, by omega, by decide, by omega, fun v9 z9 H9 s9 t9 r9 => ?_⟩
        refine ⟨l, us, _, rfl, rfl, s9 _ _ hl, szs (by omega), ?_⟩
        exact last vs zs H7 (fun _ _ z _ => z) hl (hh7.mono (by omega)) k7 ts7 zs0 tx tq ts7 v9 z9 H9 s9 t9 r9
      · refine ⟨_, rfl, h, _, rfl, hh7, by omega, fun vy y H8 hh8 k8 ty y0 => ?_⟩
        refine ⟨vx, vy, _, _, x, y, rfl, tx.kp hh7 k8, ty, by omega, by decide, by omega, fun v9 z9 H9 s9 t9 r9 => ?_⟩
        refine ⟨l, us, _, rfl, rfl, s9 _ _ (k8 _ _ hl nlh), szs (by omega), ?_⟩
        exact last vy y H8 (fun c o e no => k8 _ _ e (hh7.apart e no)) (k8 _ _ hl nlh) hh8 (k7.trans k8) ty y0 (tx.kp hh7 k8) (tq.kp hh7 k8) (ts7.kp hh7 k8) v9 z9 H9 s9 t9 r9
    rintro σ H7 ⟨us, qs, vk, rfl, hl, lus, hh7, k7, ts7, tq, ri⟩
    have lq := tq.len
    refine ⟨_, rfl, kk l us qs H7 (hh7.mono (by omega)) k7 nlh hl (tq.mono (by omega)) (by omega) (by omega) ri⟩
theorem ok_l_grades {P : Program} {w : World} {K : PySem.W.Frag} {mg : Str → Option Value} {base : Heap} {φ : Fds} (T : Txt K mg φ) : FnOk P w K mg base CX0 4 (He.fAd K ("_law_grades", none)) φ.l_grades p_l_grades sp_gr := by
  obtain ⟨_, B0v, B0⟩ := b_l_pick_2 T
  obtain ⟨_, B1v, B1⟩ := b_l_part_1 T
  refine T.f_l_grades.ok sc_l_grades (fun vs H Q E h => ?_) (fun cdv A outer s H vs Q E hr h => ?_)
  · obtain ⟨h, n, rfl, hh, hn, kk⟩ := h; rfl
  · obtain ⟨h, n, rfl, hh, hn, kk⟩ := h
    refine ⟨_, PSs.nox (pss_one (ps_ret (pe_call (ok_l_pick (K := K) T) (hr.mono (by decide)) rfl T.g_l_pick T.f_l_pick.kp B0 B0v pass0 (pa_cons (pv 0) (pa_cons (pe_lst (pa_cons (pe_tup (pa_cons pe_int (pa_cons pe_int pa_nil))) (pa_cons (pe_call (ok_l_part (K := K) T) (hr.mono (by decide)) rfl T.g_l_part T.f_l_part.kp B1 B1v pass0 (pa_cons (pv 0) pa_nil)) (pa_cons (pe_tup (pa_cons pe_int (pa_cons pe_int pa_nil))) (pa_cons (pe_tup (pa_cons (pe_un un_neg pe_int) (pa_cons pe_int pa_nil))) (pa_cons (pe_tup (pa_cons (pe_op op_sub pe_int pe_int) (pa_cons pe_int pa_nil))) (pa_cons (pe_tup (pa_cons pe_int (pa_cons pe_int pa_nil))) pa_nil))))))) pa_nil))))), ?_⟩
    have hh0 := hh
    walk_at "wa"
    intro p0 np0
    have sN : Same H (upd H p0 (.tup [.int 0, .int 1])) := same1 np0
    have t0 : TQ (upd H p0 (.tup [.int 0, .int 1])) (.ref p0) 20 (0, 1) := TQ.mk upd_same (by decide) (by decide) (by decide)
    generalize upd H p0 (.tup [.int 0, .int 1]) = G0 at *
    replace hh0 := hh0.same sN
    have s_all := sN
    clear sN np0
    walk_at "wa"
    intro vp zp HP hhp kp' tp _
    replace t0 := t0.kp hh0 kp'
    have kA : Kp h H HP := (Kp.same s_all).trans kp'
    clear kp' hh0 s_all
    have s_all : Same HP HP := Same.refl _
    have hh0 := hhp
    walk_at "wa"
    intro p2 np2
    have sN : Same HP (upd HP p2 (.tup [.int 1, .int 3])) := same1 np2
    have t2 : TQ (upd HP p2 (.tup [.int 1, .int 3])) (.ref p2) 20 (1, 3) := TQ.mk upd_same (by decide) (by decide) (by decide)
    generalize upd HP p2 (.tup [.int 1, .int 3]) = G2 at *
    replace t0 := t0.same sN
    replace tp := tp.same sN
    replace hh0 := hh0.same sN
    replace s_all := s_all.trans sN
    clear sN np2
    walk_at "wa"
    intro p3 np3
    have sN : Same G2 (upd G2 p3 (.tup [.int (-1), .int 2])) := same1 np3
    have t3 : TQ (upd G2 p3 (.tup [.int (-1), .int 2])) (.ref p3) 20 ((-1), 2) := TQ.mk upd_same (by decide) (by decide) (by decide)
    generalize upd G2 p3 (.tup [.int (-1), .int 2]) = G3 at *
    replace t0 := t0.same sN
    replace tp := tp.same sN
    replace t2 := t2.same sN
    replace hh0 := hh0.same sN
    replace s_all := s_all.trans sN
    clear sN np3
    walk_at "wa"
    intro p4 np4
    have sN : Same G3 (upd G3 p4 (.tup [.int (0 - 1), .int 7])) := same1 np4
    have t4 : TQ (upd G3 p4 (.tup [.int (0 - 1), .int 7])) (.ref p4) 20 ((0 - 1), 7) := TQ.mk upd_same (by decide) (by decide) (by decide)
    generalize upd G3 p4 (.tup [.int (0 - 1), .int 7]) = G4 at *
    replace t0 := t0.same sN
    replace tp := tp.same sN
    replace t2 := t2.same sN
    replace t3 := t3.same sN
    replace hh0 := hh0.same sN
    replace s_all := s_all.trans sN
    clear sN np4
    walk_at "wa"
    intro p5 np5
    have sN : Same G4 (upd G4 p5 (.tup [.int 2, .int 1])) := same1 np5
    have t5 : TQ (upd G4 p5 (.tup [.int 2, .int 1])) (.ref p5) 20 (2, 1) := TQ.mk upd_same (by decide) (by decide) (by decide)
    generalize upd G4 p5 (.tup [.int 2, .int 1]) = G5 at *
    replace t0 := t0.same sN
    replace tp := tp.same sN
    replace t2 := t2.same sN
    replace t3 := t3.same sN
    replace t4 := t4.same sN
    replace hh0 := hh0.same sN
    replace s_all := s_all.trans sN
    clear sN np5
    walk_at "wa"
    intro pl npl
    have sN : Same G5 (upd G5 pl (.lst [.ref p0, vp, .ref p2, .ref p3, .ref p4, .ref p5])) := same1 npl
    have all : ∀ x ∈ [V.ref p0, vp, V.ref p2, V.ref p3, V.ref p4, V.ref p5], ∃ z, TQ (upd G5 pl (.lst [.ref p0, vp, .ref p2, .ref p3, .ref p4, .ref p5])) x 20 z := fun x hx => by
      simp only [List.mem_cons, List.not_mem_nil, or_false] at hx
      rcases hx with rfl | rfl | rfl | rfl | rfl | rfl
      · exact ⟨_, t0.same sN⟩
      · exact ⟨_, tp.same sN⟩
      · exact ⟨_, t2.same sN⟩
      · exact ⟨_, t3.same sN⟩
      · exact ⟨_, t4.same sN⟩
      · exact ⟨_, t5.same sN⟩
    refine ⟨h, pl, _, _, rfl, hh0.same sN, by omega, SqL.of upd_same, hh0.ne npl, Nat.le_of_ble_eq_true rfl, Nat.le_of_ble_eq_true rfl, fun i vx HX hx hhX kX => ?_⟩
    obtain ⟨zx, tx⟩ := all vx (List.mem_of_getElem? hx)
    replace tx := tx.kp (hh0.same sN) kX
    exact kk vx zx HX hhX ((kA.trans (Kp.same (s_all.trans sN))).trans kX) tx
theorem okn_l_same {P : Program} {w : World} {K : PySem.W.Frag} {mg : Str → Option Value} {base : Heap} {φ : Fds} (T : Txt K mg φ) : FnOk P w K mg base CX0 0 (He.fAd K ("_law_same", none)) φ.l_same p_l_same (fun _ _ _ _ => False) := fn_never
theorem ok0_l_same {P : Program} {w : World} {K : PySem.W.Frag} {mg : Str → Option Value} {base : Heap} {φ : Fds} (T : Txt K mg φ) : FnOk P w K mg base CX0 1 (He.fAd K ("_law_same", none)) φ.l_same p_l_same (sp_sameN K 0) := by
  obtain ⟨_, B0v, B0⟩ := b_l_same_2 T
  refine T.f_l_same.ok sc_l_same (fun vs H Q E h => ?_) (fun cdv A outer s H vs Q E hr h => ?_)
  · obtain ⟨x, y, rfl, ⟨rfl, ha⟩, kk⟩ := h; rfl
  · obtain ⟨x, y, rfl, ⟨rfl, ha⟩, kk⟩ := h
    refine ⟨_, PSs.nox (pss_cons (ps_if (pt_val (pe_callB (id := "isinstance") (isi (K := K)) (by rfl) T.z_isinstance (by decide +kernel) (pa_cons (pv 1) (pa_cons (pe_bltn (v := .ty "tuple") rfl T.z_tuple (by decide +kernel) rfl) pa_nil))))
      (pss_cons (ps_if (PW.pt (pw_or (pt_not (pt_val (pe_callB (id := "isinstance") (isi (K := K)) (by rfl) T.z_isinstance (by decide +kernel) (pa_cons (pv 0) (pa_cons (pe_bltn (v := .ty "tuple") rfl T.z_tuple (by decide +kernel) rfl) pa_nil))))) (pw_or1 (pt_cmpR op_ne (pe_callB (id := "len") (lenS (K := K)) (by rfl) T.z_len PySem.boot_len (pa_cons (pv 0) pa_nil)) (pe_callB (id := "len") (lenS (K := K)) (by rfl) T.z_len PySem.boot_len (pa_cons (pv 1) pa_nil)) (nomark _)))))
      (pss_one (ps_ret pe_bl))
      pss_nil)
      (pss_one (ps_ret (pe_callB (id := "all") (allK (K := K)) (by rfl) T.z_all (by decide +kernel) (pa_cons (pe_lc (own := [("_law_one", 2), ("_law_other", 3)]) (g := gTup K 2 (gCons (gName 2) (gCons (gName 3) (gNil)))) rfl sc_l_same.nd (RZ.pi_zipA (by rfl) T.z_zip (pa_cons (pv 0) (pa_cons (pv 1) pa_nil))) (blkOk_by (own := [("_law_one", 2), ("_law_other", 3)]) (N := N_l_same) (sc := (defScope s_l_same)) (by decide +kernel)) (fun _ _ _ _ _ => (pg_tup rfl (pgs_cons (pg_name (i := 2) sc_l_same.nd rfl (Or.inl rfl)) (pgs_cons (pg_name (i := 3) sc_l_same.nd rfl (Or.inl rfl)) pgs_nil)))) (fun _ _ _ _ _ => pts_nil) (fun _ _ _ _ _ => (pe_call (okn_l_same (K := K) T) (hr.mono (by decide)) rfl T.g_l_same T.f_l_same.kp B0 B0v pass0 (pa_cons (pv 2) (pa_cons (pv 3) pa_nil))))) pa_nil)))))
      pss_nil)
      (pss_cons (ps_if (pt_cmpR op_isN (pv 1) pe_non (nomark _))
      (pss_one (ps_ret (pe_cmpR op_isN (pv 0) pe_non (nomark _))))
      pss_nil)
      (pss_cons (ps_if (pt_val (pe_callB (id := "isinstance") (isi (K := K)) (by rfl) T.z_isinstance (by decide +kernel) (pa_cons (pv 1) (pa_cons (pe_bltn (v := .ty "bool") rfl T.z_bool (by decide +kernel) rfl) pa_nil))))
      (pss_one (ps_ret (pe_and (pe_callB (id := "isinstance") (isi (K := K)) (by rfl) T.z_isinstance (by decide +kernel) (pa_cons (pv 0) (pa_cons (pe_bltn (v := .ty "bool") rfl T.z_bool (by decide +kernel) rfl) pa_nil))) (pe_one (pe_cmpR op_eq (pv 0) (pv 1) (nomark _))))))
      pss_nil)
      (pss_cons (ps_if (pt_val (pe_callB (id := "isinstance") (isi (K := K)) (by rfl) T.z_isinstance (by decide +kernel) (pa_cons (pv 1) (pa_cons (pe_bltn (v := .ty "str") rfl T.z_str (by decide +kernel) rfl) pa_nil))))
      (pss_one (ps_ret (pe_and (pe_callB (id := "isinstance") (isi (K := K)) (by rfl) T.z_isinstance (by decide +kernel) (pa_cons (pv 0) (pa_cons (pe_bltn (v := .ty "str") rfl T.z_str (by decide +kernel) rfl) pa_nil))) (pe_one (pe_cmpR op_eq (pv 0) (pv 1) (nomark _))))))
      pss_nil)
      (pss_one (ps_ret (pe_and (pe_callB (id := "isinstance") (isi (K := K)) (by rfl) T.z_isinstance (by decide +kernel) (pa_cons (pv 0) (pa_cons (pe_bltn (v := .ty "int") rfl T.z_int (by decide +kernel) rfl) pa_nil))) (pe_and (pe_not (pe_callB (id := "isinstance") (isi (K := K)) (by rfl) T.z_isinstance (by decide +kernel) (pa_cons (pv 0) (pa_cons (pe_bltn (v := .ty "bool") rfl T.z_bool (by decide +kernel) rfl) pa_nil)))) (pe_one (pe_cmpR op_eq (pv 0) (pv 1) (nomark _))))))))))), ?_⟩
    rcases ha with ⟨z, rfl⟩ | ⟨s, rfl⟩ | rfl | ⟨b, rfl⟩
    · refine ⟨_, rfl, _, _, _, _, _, rfl, .ty _, .base (.int _), kit_ty (r := false) (by decide +kernel), _, rfl, iteF ?_⟩
      refine ⟨_, rfl, rfl, _, rfl, iteF ?_⟩
      refine ⟨_, rfl, _, _, _, _, _, rfl, .ty _, .base (.int _), kit_ty (r := false) (by decide +kernel), _, rfl, iteF ?_⟩
      refine ⟨_, rfl, _, _, _, _, _, rfl, .ty _, .base (.int _), kit_ty (r := false) (by decide +kernel), _, rfl, iteF ?_⟩
      refine ⟨_, rfl, _, _, _, _, _, rfl, .ty _, .base (.int _), kit_ty (r := true) (by decide +kernel), _, rfl, iteT ?_⟩
      refine ⟨_, rfl, _, _, _, _, _, rfl, .ty _, .base (.int _), kit_ty (r := false) (by decide +kernel), ?_⟩
      walk_at "w"
      rw [decide_eq_true rfl]
      exact kk _ (Same.refl _)
    · refine ⟨_, rfl, _, _, _, _, _, rfl, .ty _, .base (.str _), kit_ty (r := false) (by decide +kernel), _, rfl, iteF ?_⟩
      refine ⟨_, rfl, rfl, _, rfl, iteF ?_⟩
      refine ⟨_, rfl, _, _, _, _, _, rfl, .ty _, .base (.str _), kit_ty (r := false) (by decide +kernel), _, rfl, iteF ?_⟩
      refine ⟨_, rfl, _, _, _, _, _, rfl, .ty _, .base (.str _), kit_ty (r := true) (by decide +kernel), _, rfl, iteT ?_⟩
      refine ⟨_, rfl, _, _, _, _, _, rfl, .ty _, .base (.str _), kit_ty (r := true) (by decide +kernel), _, rfl, iteT ?_⟩
      walk_at "w"
      rw [decide_eq_true rfl]
      exact kk _ (Same.refl _)
    · refine ⟨_, rfl, _, _, _, _, _, rfl, .ty _, .base .non, kit_ty (r := false) (by decide +kernel), _, rfl, iteF ?_⟩
      refine ⟨_, rfl, rfl, _, rfl, ?_⟩
      rw [decide_eq_true rfl]
      refine iteT ?_
      walk_at "w"
      rw [decide_eq_true rfl]
      exact kk _ (Same.refl _)
    · refine ⟨_, rfl, _, _, _, _, _, rfl, .ty _, .base (.bl _), kit_ty (r := false) (by decide +kernel), _, rfl, iteF ?_⟩
      refine ⟨_, rfl, rfl, _, rfl, iteF ?_⟩
      refine ⟨_, rfl, _, _, _, _, _, rfl, .ty _, .base (.bl _), kit_ty (r := true) (by decide +kernel), _, rfl, iteT ?_⟩
      refine ⟨_, rfl, _, _, _, _, _, rfl, .ty _, .base (.bl _), kit_ty (r := true) (by decide +kernel), _, rfl, iteT ?_⟩
      walk_at "w"
      rw [decide_eq_true rfl]
      exact kk _ (Same.refl _)
theorem ok_l_same {P : Program} {w : World} {K : PySem.W.Frag} {mg : Str → Option Value} {base : Heap} {φ : Fds} (T : Txt K mg φ) : FnOk P w K mg base CX0 2 (He.fAd K ("_law_same", none)) φ.l_same p_l_same (sp_sameN K 1) := by
  obtain ⟨_, B0v, B0⟩ := b_l_same_2 T
  refine T.f_l_same.ok sc_l_same (fun vs H Q E h => ?_) (fun cdv A outer s H vs Q E hr h => ?_)
  · obtain ⟨x, y, rfl, hxy, kk⟩ := h; rfl
  · obtain ⟨x, y, rfl, hxy, kk⟩ := h
    refine ⟨_, PSs.nox (pss_cons (ps_if (pt_val (pe_callB (id := "isinstance") (isi (K := K)) (by rfl) T.z_isinstance (by decide +kernel) (pa_cons (pv 1) (pa_cons (pe_bltn (v := .ty "tuple") rfl T.z_tuple (by decide +kernel) rfl) pa_nil))))
      (pss_cons (ps_if (PW.pt (pw_or (pt_not (pt_val (pe_callB (id := "isinstance") (isi (K := K)) (by rfl) T.z_isinstance (by decide +kernel) (pa_cons (pv 0) (pa_cons (pe_bltn (v := .ty "tuple") rfl T.z_tuple (by decide +kernel) rfl) pa_nil))))) (pw_or1 (pt_cmpR op_ne (pe_callB (id := "len") (lenS (K := K)) (by rfl) T.z_len PySem.boot_len (pa_cons (pv 0) pa_nil)) (pe_callB (id := "len") (lenS (K := K)) (by rfl) T.z_len PySem.boot_len (pa_cons (pv 1) pa_nil)) (nomark _)))))
      (pss_one (ps_ret pe_bl))
      pss_nil)
      (pss_one (ps_ret (pe_callB (id := "all") (allK (K := K)) (by rfl) T.z_all (by decide +kernel) (pa_cons (pe_lc (own := [("_law_one", 2), ("_law_other", 3)]) (g := gTup K 2 (gCons (gName 2) (gCons (gName 3) (gNil)))) rfl sc_l_same.nd (RZ.pi_zipA (by rfl) T.z_zip (pa_cons (pv 0) (pa_cons (pv 1) pa_nil))) (blkOk_by (own := [("_law_one", 2), ("_law_other", 3)]) (N := N_l_same) (sc := (defScope s_l_same)) (by decide +kernel)) (fun _ _ _ _ _ => (pg_tup rfl (pgs_cons (pg_name (i := 2) sc_l_same.nd rfl (Or.inl rfl)) (pgs_cons (pg_name (i := 3) sc_l_same.nd rfl (Or.inl rfl)) pgs_nil)))) (fun _ _ _ _ _ => pts_nil) (fun _ _ _ _ _ => (pe_call (ok0_l_same (K := K) T) (hr.mono (by decide)) rfl T.g_l_same T.f_l_same.kp B0 B0v pass0 (pa_cons (pv 2) (pa_cons (pv 3) pa_nil))))) pa_nil)))))
      pss_nil)
      (pss_cons (ps_if (pt_cmpR op_isN (pv 1) pe_non (nomark _))
      (pss_one (ps_ret (pe_cmpR op_isN (pv 0) pe_non (nomark _))))
      pss_nil)
      (pss_cons (ps_if (pt_val (pe_callB (id := "isinstance") (isi (K := K)) (by rfl) T.z_isinstance (by decide +kernel) (pa_cons (pv 1) (pa_cons (pe_bltn (v := .ty "bool") rfl T.z_bool (by decide +kernel) rfl) pa_nil))))
      (pss_one (ps_ret (pe_and (pe_callB (id := "isinstance") (isi (K := K)) (by rfl) T.z_isinstance (by decide +kernel) (pa_cons (pv 0) (pa_cons (pe_bltn (v := .ty "bool") rfl T.z_bool (by decide +kernel) rfl) pa_nil))) (pe_one (pe_cmpR op_eq (pv 0) (pv 1) (nomark _))))))
      pss_nil)
      (pss_cons (ps_if (pt_val (pe_callB (id := "isinstance") (isi (K := K)) (by rfl) T.z_isinstance (by decide +kernel) (pa_cons (pv 1) (pa_cons (pe_bltn (v := .ty "str") rfl T.z_str (by decide +kernel) rfl) pa_nil))))
      (pss_one (ps_ret (pe_and (pe_callB (id := "isinstance") (isi (K := K)) (by rfl) T.z_isinstance (by decide +kernel) (pa_cons (pv 0) (pa_cons (pe_bltn (v := .ty "str") rfl T.z_str (by decide +kernel) rfl) pa_nil))) (pe_one (pe_cmpR op_eq (pv 0) (pv 1) (nomark _))))))
      pss_nil)
      (pss_one (ps_ret (pe_and (pe_callB (id := "isinstance") (isi (K := K)) (by rfl) T.z_isinstance (by decide +kernel) (pa_cons (pv 0) (pa_cons (pe_bltn (v := .ty "int") rfl T.z_int (by decide +kernel) rfl) pa_nil))) (pe_and (pe_not (pe_callB (id := "isinstance") (isi (K := K)) (by rfl) T.z_isinstance (by decide +kernel) (pa_cons (pv 0) (pa_cons (pe_bltn (v := .ty "bool") rfl T.z_bool (by decide +kernel) rfl) pa_nil)))) (pe_one (pe_cmpR op_eq (pv 0) (pv 1) (nomark _))))))))))), ?_⟩
    rcases hxy with ⟨rfl, ha⟩ | ⟨p, q, xs, ys, rfl, rfl, hp, hq, hl, l9, hall⟩
    · rcases ha with ⟨z, rfl⟩ | ⟨s, rfl⟩ | rfl | ⟨b, rfl⟩
      · refine ⟨_, rfl, _, _, _, _, _, rfl, .ty _, .base (.int _), kit_ty (r := false) (by decide +kernel), _, rfl, iteF ?_⟩
        refine ⟨_, rfl, rfl, _, rfl, iteF ?_⟩
        refine ⟨_, rfl, _, _, _, _, _, rfl, .ty _, .base (.int _), kit_ty (r := false) (by decide +kernel), _, rfl, iteF ?_⟩
        refine ⟨_, rfl, _, _, _, _, _, rfl, .ty _, .base (.int _), kit_ty (r := false) (by decide +kernel), _, rfl, iteF ?_⟩
        refine ⟨_, rfl, _, _, _, _, _, rfl, .ty _, .base (.int _), kit_ty (r := true) (by decide +kernel), _, rfl, iteT ?_⟩
        refine ⟨_, rfl, _, _, _, _, _, rfl, .ty _, .base (.int _), kit_ty (r := false) (by decide +kernel), ?_⟩
        walk_at "w"
        rw [decide_eq_true rfl]
        exact kk _ (Same.refl _)
      · refine ⟨_, rfl, _, _, _, _, _, rfl, .ty _, .base (.str _), kit_ty (r := false) (by decide +kernel), _, rfl, iteF ?_⟩
        refine ⟨_, rfl, rfl, _, rfl, iteF ?_⟩
        refine ⟨_, rfl, _, _, _, _, _, rfl, .ty _, .base (.str _), kit_ty (r := false) (by decide +kernel), _, rfl, iteF ?_⟩
        refine ⟨_, rfl, _, _, _, _, _, rfl, .ty _, .base (.str _), kit_ty (r := true) (by decide +kernel), _, rfl, iteT ?_⟩
        refine ⟨_, rfl, _, _, _, _, _, rfl, .ty _, .base (.str _), kit_ty (r := true) (by decide +kernel), _, rfl, iteT ?_⟩
        walk_at "w"
        rw [decide_eq_true rfl]
        exact kk _ (Same.refl _)
      · refine ⟨_, rfl, _, _, _, _, _, rfl, .ty _, .base .non, kit_ty (r := false) (by decide +kernel), _, rfl, iteF ?_⟩
        refine ⟨_, rfl, rfl, _, rfl, ?_⟩
        rw [decide_eq_true rfl]
        refine iteT ?_
        walk_at "w"
        rw [decide_eq_true rfl]
        exact kk _ (Same.refl _)
      · refine ⟨_, rfl, _, _, _, _, _, rfl, .ty _, .base (.bl _), kit_ty (r := false) (by decide +kernel), _, rfl, iteF ?_⟩
        refine ⟨_, rfl, rfl, _, rfl, iteF ?_⟩
        refine ⟨_, rfl, _, _, _, _, _, rfl, .ty _, .base (.bl _), kit_ty (r := true) (by decide +kernel), _, rfl, iteT ?_⟩
        refine ⟨_, rfl, _, _, _, _, _, rfl, .ty _, .base (.bl _), kit_ty (r := true) (by decide +kernel), _, rfl, iteT ?_⟩
        walk_at "w"
        rw [decide_eq_true rfl]
        exact kk _ (Same.refl _)
    · refine ⟨_, rfl, _, _, _, _, _, rfl, .ty _, tyTup hq, kit_ty (r := true) (by decide +kernel), _, rfl, iteT ?_⟩
      refine ⟨_, rfl, _, _, _, _, _, rfl, .ty _, tyTup hp, kit_ty (r := true) (by decide +kernel), _, rfl, iteF ?_⟩
      refine ⟨_, rfl, p, _, rfl, .inr hp, _, rfl, q, _, rfl, .inr hq, rfl, _, rfl, ?_⟩
      rw [hl, decide_eq_true rfl]
      refine iteF ?_
      refine ⟨_, rfl, _, rfl, p, q, _, _, rfl, .inr ⟨hp, hq, fun D nD => ?_⟩⟩
      refine lcz (n := xs.length) (walk_zipT (xs := xs) (ys := ys) (by omega)) (fun _ _ g s => ⟨s.sqt g.1, s.sqt g.2⟩) (List.replicate xs.length (some (V.bl true))) List.length_replicate (szs (by omega)) ⟨hp, hq⟩ nD (fun i x H3 H4 o N M hi ho s3 y hN hM => ?_) (fun H3 s3 hD => ?_)
      · obtain ⟨t, a, b, rfl, nt, rfl, ha, hb⟩ := y
        rw [List.getElem?_replicate, if_pos hi] at ho
        cases ho
        refine ⟨t, _, rfl, SqT.of upd_same, rfl, _, _, rfl, _, _, rfl, rfl, rfl, yesT ?_⟩
        exact ⟨_, rfl, _, rfl, a, b, rfl, ((hall i a b ha hb).same s3).same (same1 nt), fun H5 s5 => hN _ _ rfl ((same1 nt : Same H3 _).trans s5)⟩
      rw [rep_fm] at hD
      refine ⟨D, _, rfl, SqL.of hD, ?_⟩
      rw [rep_all]
      exact kk _ s3
theorem ok_Measure_minus {P : Program} {w : World} {K : PySem.W.Frag} {mg : Str → Option Value} {base : Heap} {φ : Fds} (T : Txt K mg φ) : FnOk P w K mg base CX0 4 (He.fAd K ("Measure", some "minus")) φ.Measure_minus p_Measure_minus (sp_bin2 (He.ga K "Measure") (fun t u t' u' => t * u' - t' * u) (fun t u t' u' => u * u')) := by
  obtain ⟨_, B0v, B0⟩ := b_Measure_init_3 T
  refine T.f_Measure_minus.ok sc_Measure_minus (fun vs H Q E h => ?_) (fun cdv A outer s H vs Q E hr h => ?_)
  · obtain ⟨p, q, t, u, t', u', rfl, ⟨dp, hp⟩, ⟨dq, hq⟩, hu, hu', st, su, st', su', sg, k⟩ := h; rfl
  · obtain ⟨p, q, t, u, t', u', rfl, ⟨dp, hp⟩, ⟨dq, hq⟩, hu, hu', st, su, st', su', sg, k⟩ := h
    refine ⟨_, PSs.nox (pss_one (ps_ret (pe_make T.mk_Measure (ok_Measure_init (K := K) T) (hr.mono (by decide)) rfl T.g_Measure B0 B0v pass0 (pa_cons (pe_op op_sub (pe_op op_mulA (fldK (K := K) (pv 0) rfl) (fldK (K := K) (pv 1) rfl)) (pe_op op_mulA (fldK (K := K) (pv 1) rfl) (fldK (K := K) (pv 0) rfl))) (pa_cons (pe_op op_mulA (fldK (K := K) (pv 0) rfl) (fldK (K := K) (pv 1) rfl)) pa_nil))))), ?_⟩
    refine ⟨_, rfl, _, _, _, _, _, rfl, hp, T.cl_Measure, T.na_Measure_top, mf_top _ _, _, rfl, _, _, _, _, _, rfl, hq, T.cl_Measure, T.na_Measure_bottom, mf_bottom _ _, _, _, rfl, rfl, st.cmul su' (by decide) (by decide) (by decide), _, rfl, _, _, _, _, _, rfl, hq, T.cl_Measure, T.na_Measure_top, mf_top _ _, _, rfl, _, _, _, _, _, rfl, hp, T.cl_Measure, T.na_Measure_bottom, mf_bottom _ _, _, _, rfl, rfl, st'.cmul su (by decide) (by decide) (by decide), _, _, rfl, rfl, _, rfl, _, _, _, _, _, rfl, hp, T.cl_Measure, T.na_Measure_bottom, mf_bottom _ _, _, rfl, _, _, _, _, _, rfl, hq, T.cl_Measure, T.na_Measure_bottom, mf_bottom _ _, _, _, rfl, rfl, su.cmul su' (by decide) (by decide) (by decide), ?_⟩
    intro x dx nx nd ne
    refine ⟨x, dx, _, _, rfl, upd_same, Int.mul_ne_zero (by omega) (by omega), sg.log (by decide) (by decide), fun t2 u2 H' fr hx kp => ⟨rfl, ?_⟩⟩
    exact k x t2 u2 H' nx (made_same nx nd kp) ⟨_, hx⟩ fr
theorem ok_Measure_times {P : Program} {w : World} {K : PySem.W.Frag} {mg : Str → Option Value} {base : Heap} {φ : Fds} (T : Txt K mg φ) : FnOk P w K mg base CX0 4 (He.fAd K ("Measure", some "times")) φ.Measure_times p_Measure_times (sp_bin2 (He.ga K "Measure") (fun t u t' u' => t * t') (fun t u t' u' => u * u')) := by
  obtain ⟨_, B0v, B0⟩ := b_Measure_init_3 T
  refine T.f_Measure_times.ok sc_Measure_times (fun vs H Q E h => ?_) (fun cdv A outer s H vs Q E hr h => ?_)
  · obtain ⟨p, q, t, u, t', u', rfl, ⟨dp, hp⟩, ⟨dq, hq⟩, hu, hu', st, su, st', su', sg, k⟩ := h; rfl
  · obtain ⟨p, q, t, u, t', u', rfl, ⟨dp, hp⟩, ⟨dq, hq⟩, hu, hu', st, su, st', su', sg, k⟩ := h
    refine ⟨_, PSs.nox (pss_one (ps_ret (pe_make T.mk_Measure (ok_Measure_init (K := K) T) (hr.mono (by decide)) rfl T.g_Measure B0 B0v pass0 (pa_cons (pe_op op_mulA (fldK (K := K) (pv 0) rfl) (fldK (K := K) (pv 1) rfl)) (pa_cons (pe_op op_mulA (fldK (K := K) (pv 0) rfl) (fldK (K := K) (pv 1) rfl)) pa_nil))))), ?_⟩
    refine ⟨_, rfl, _, _, _, _, _, rfl, hp, T.cl_Measure, T.na_Measure_top, mf_top _ _, _, rfl, _, _, _, _, _, rfl, hq, T.cl_Measure, T.na_Measure_top, mf_top _ _, _, _, rfl, rfl, st.cmul st' (by decide) (by decide) (by decide), _, rfl, _, _, _, _, _, rfl, hp, T.cl_Measure, T.na_Measure_bottom, mf_bottom _ _, _, rfl, _, _, _, _, _, rfl, hq, T.cl_Measure, T.na_Measure_bottom, mf_bottom _ _, _, _, rfl, rfl, su.cmul su' (by decide) (by decide) (by decide), ?_⟩
    intro x dx nx nd ne
    refine ⟨x, dx, _, _, rfl, upd_same, Int.mul_ne_zero (by omega) (by omega), sg.log (by decide) (by decide), fun t2 u2 H' fr hx kp => ⟨rfl, ?_⟩⟩
    exact k x t2 u2 H' nx (made_same nx nd kp) ⟨_, hx⟩ fr
theorem ok_measure_or {P : Program} {w : World} {K : PySem.W.Frag} {mg : Str → Option Value} {base : Heap} {φ : Fds} (T : Txt K mg φ) : FnOk P w K mg base CX0 4 (He.fAd K ("measure_or", none)) φ.measure_or p_measure_or (sp_mor (He.ga K "Measure")) := by
  obtain ⟨_, B0v, B0⟩ := b_Measure_init_2 T
  refine T.f_measure_or.ok sc_measure_or (fun vs H Q E h => ?_) (fun cdv A outer s H vs Q E hr h => ?_)
  · obtain ⟨v, k, e, rfl, he, k0, k1, kk⟩ := h; rfl
  · obtain ⟨v, k, e, rfl, he, k0, k1, kk⟩ := h
    refine ⟨_, PSs.nox (pss_cons (ps_if (pt_cmpR op_isN (pv 0) pe_non (nomark _))
      (pss_one (ps_ret (pe_make T.mk_Measure (ok_Measure_init (K := K) T) (hr.mono (by decide)) rfl T.g_Measure B0 B0v pass0 (pa_cons (pv 1) pa_nil))))
      pss_nil)
      (pss_one (ps_ret (pv 0)))), ?_⟩
    cases e with
    | none =>
      cases he
      walk_at "w"
      refine q_made (k := k) (by decide) ?_ ?_ k0 (by omega) fun q H1 s1 R => kk q H1 s1 R
      · show (0 : Int).natAbs < 2 ^ k
        exact Nat.two_pow_pos k
      · show (1 : Int).natAbs < 2 ^ k
        exact Nat.one_lt_two_pow (by omega)
    | some z =>
      obtain ⟨p, rfl, qz⟩ := he
      walk_at "w"
      exact kk p H (Same.refl _) qz
theorem ok_Grid_init {P : Program} {w : World} {K : PySem.W.Frag} {mg : Str → Option Value} {base : Heap} {φ : Fds} (T : Txt K mg φ) : FnOk P w K mg base CX0 5 (He.fAd K ("Grid", some "__init__")) φ.Grid_init p_Grid_init (sp_ginit K (He.ga K "Measure") (He.ga K "Ladder") (He.ga K "Grid")) := by
  obtain ⟨_, B0v, B0⟩ := b_is_measure_or_none_1 T
  obtain ⟨_, B1v, B1⟩ := b_measure_or_2 T
  refine T.f_Grid_init.ok sc_Grid_init (fun vs H Q E h => ?_) (fun cdv A outer s H vs Q E hr h => ?_)
  · obtain ⟨p, dx, L1, L2', v, k, j, zs, ys, r1, r2, lo1, hi1, lo2, hi2, e, rfl, hp, hL1, hL2, qv, j0, j1, kk⟩ := h; rfl
  · obtain ⟨p, dx, L1, L2', v, k, j, zs, ys, r1, r2, lo1, hi1, lo2, hi2, e, rfl, hp, hL1, hL2, qv, j0, j1, kk⟩ := h
    refine ⟨_, PSs.nox (pss_cons (ps_if (PW.pt (pw_or (pt_not (pt_val (pe_callB (id := "isinstance") (isi (K := K)) (by rfl) T.z_isinstance (by decide +kernel) (pa_cons (pv 1) (pa_cons (pe_glob (v := .ref (He.ga K "Ladder")) rfl T.g_Ladder rfl) pa_nil))))) (pw_or1 (pt_not (pt_val (pe_callB (id := "isinstance") (isi (K := K)) (by rfl) T.z_isinstance (by decide +kernel) (pa_cons (pv 2) (pa_cons (pe_glob (v := .ref (He.ga K "Ladder")) rfl T.g_Ladder rfl) pa_nil))))))))
      (pss_one ps_never)
      pss_nil)
      (pss_cons (ps_if (pt_not (pt_val (pe_call (ok_is_measure_or_none (K := K) T) (hr.mono (by decide)) rfl T.g_is_measure_or_none T.f_is_measure_or_none.kp B0 B0v pass0 (pa_cons (pv 3) pa_nil))))
      (pss_one ps_never)
      pss_nil)
      (pss_cons (ps_fld (pv 0) (pv 1) rfl)
      (pss_cons (ps_fld (pv 0) (pv 2) rfl)
      (pss_one (ps_fld (pv 0) (pe_call (ok_measure_or (K := K) T) (hr.mono (by decide)) rfl T.g_measure_or T.f_measure_or.kp B1 B1v pass0 (pa_cons (pv 3) (pa_cons pe_int pa_nil))) rfl)))))), ?_⟩
    have na_Grid_lengths := T.na_Grid_lengths
    have na_Grid_breadths := T.na_Grid_breadths
    have na_Grid_grade := T.na_Grid_grade
    have cl_Grid := T.cl_Grid
    
    obtain ⟨⟨d1, T1, ps1, l1, h1, hq1, _⟩, _⟩ := hL1
    obtain ⟨⟨d2, T2, ps2, l2, h2, hq2, _⟩, _⟩ := hL2
    refine ⟨_, rfl, _, _, _, _, _, rfl, .own _, tyM hq1 T.cl_Ladder T.ii_Ladder, T.k_Ladder_Ladder, _, rfl, iteF ?_⟩
    refine ⟨_, rfl, _, _, _, _, _, rfl, .own _, tyM hq2 T.cl_Ladder T.ii_Ladder, T.k_Ladder_Ladder, _, rfl, iteF ?_⟩
    walk_at "w"
    refine ⟨e, rfl, qv, ?_⟩
    walk_at "w"
    refine ⟨by show 0 < 1000; decide, ?_⟩
    refine ⟨_, rfl, _, rfl, p, _, dx, _, rfl, upd_same, cl_Grid, na_Grid_breadths, by show 1 < 1000; decide, ?_⟩
    have qv2 : QO (He.ga K "Measure") (upd (upd H p (.ins (He.ga K "Grid") dx (putF "lengths" (.ref L1) []))) p (.ins (He.ga K "Grid") dx (putF "breadths" (.ref L2') (putF "lengths" (.ref L1) [])))) j v e := by
      cases e with
      | none => exact qv
      | some z =>
        obtain ⟨q, rfl, qz⟩ := qv
        obtain ⟨⟨t, u, ⟨dq, hq⟩, f⟩, a1, a2, a3⟩ := qz
        refine ⟨q, rfl, ⟨t, u, ⟨dq, ?_⟩, f⟩, a1, a2, a3⟩
        rw [upd_ne (ne_fields hq hp), upd_ne (ne_fields hq hp)]
        exact hq
    walk_at "w"
    refine ⟨e, rfl, qv2, j0, by omega, fun q H3 s3 qq => ?_⟩
    have hp3 := s3 _ _ upd_same
    walk_at "w"
    refine ⟨by show 2 < 1000; decide, ?_⟩
    refine kk q _ ?_ ?_ fun b o eb nb => ?_
    · rw [upd_same, gf_put]
    · obtain ⟨⟨t, u, ⟨dq, hq⟩, f⟩, a1, a2, a3⟩ := qq
      refine ⟨⟨t, u, ⟨dq, ?_⟩, f⟩, a1, a2, a3⟩
      rw [upd_ne (ne_fields2 hq hp3)]
      exact hq
    · rw [upd_ne nb]
      refine s3 _ _ ?_
      rw [upd_ne nb, upd_ne nb]
      exact eb
theorem ok_Grid_graded {P : Program} {w : World} {K : PySem.W.Frag} {mg : Str → Option Value} {base : Heap} {φ : Fds} (T : Txt K mg φ) : FnOk P w K mg base CX0 5 (He.fAd K ("Grid", some "graded")) φ.Grid_graded p_Grid_graded (sp_graded K (He.ga K "Measure") (He.ga K "Ladder") (He.ga K "Grid")) := by
  obtain ⟨_, B0v, B0⟩ := b_Measure_times_2 T
  obtain ⟨_, B1v, B1⟩ := b_Measure_init_2 T
  refine T.f_Grid_graded.ok sc_Grid_graded (fun vs H Q E h => ?_) (fun cdv A outer s H vs Q E hr h => ?_)
  · obtain ⟨p, L1, L2', i, j, g, rfl, hG, hi, j0, j1, kk⟩ := h; rfl
  · obtain ⟨p, L1, L2', i, j, g, rfl, hG, hi, j0, j1, kk⟩ := h
    refine ⟨_, PSs.nox (pss_one (ps_ret (pe_meth (fldK (K := K) (pv 0) rfl) T.cl_Measure T.me_Measure_times (ok_Measure_times (K := K) T) (hr.mono (by decide)) B0 B0v pass0 (pa_cons (pe_make T.mk_Measure (ok_Measure_init (K := K) T) (hr.mono (by decide)) rfl T.g_Measure B1 B1v pass0 (pa_cons (pv 1) pa_nil)) pa_nil)))), ?_⟩
    have na_Grid_lengths := T.na_Grid_lengths
    have na_Grid_breadths := T.na_Grid_breadths
    have na_Grid_grade := T.na_Grid_grade
    have cl_Grid := T.cl_Grid
    
    obtain ⟨dx, q, hp, qg⟩ := hG.ob
    refine ⟨_, rfl, p, _, dx, _, _, rfl, hp, cl_Grid, na_Grid_grade, gf_grade _ _ _, ?_⟩
    refine meth_q qg (by decide +kernel) (by decide +kernel) ?_
    walk_at "w"
    refine q_made (k := 6) (by decide) ?_ (by decide) (by decide) (by decide) fun q2 H1 s1 a1 => ?_
    · show ((i : Nat) : Int).natAbs < 2 ^ 6
      omega
    exact q_mulT (qg.same s1) a1 (by omega) j0 (by decide) fun q3 H2 s2 a2 => kk q3 H2 (s1.trans s2) a2
theorem ok_l_chart {P : Program} {w : World} {K : PySem.W.Frag} {mg : Str → Option Value} {base : Heap} {φ : Fds} (T : Txt K mg φ) : FnOk P w K mg base CX0 3 (He.fAd K ("_law_chart", none)) φ.l_chart p_l_chart sp_chart := by
  obtain ⟨_, B0v, B0⟩ := b_l_take_2 T
  obtain ⟨_, B1v, B1⟩ := b_l_sum_2 T
  obtain ⟨_, B2v, B2⟩ := b_l_less_2 T
  refine T.f_l_chart.ok sc_l_chart (fun vs H Q E h => ?_) (fun cdv A outer s H vs Q E hr h => ?_)
  · obtain ⟨h, l, n, k, us, zs, rfl, hh, hn, nlh, hl, tq, k0, k1, l0, l1, kk⟩ := h; rfl
  · obtain ⟨h, l, n, k, us, zs, rfl, hh, hn, nlh, hl, tq, k0, k1, l0, l1, kk⟩ := h
    refine ⟨_, PSs.nox (pss_cons (ps_par3 (i := 2) (j := 3) (l := 4) rfl sc_l_chart.nd rfl rfl rfl (by decide) (by decide) (by decide) rfl rfl rfl (pa_cons (pe_call (ok_l_take (K := K) T) (hr.mono (by decide)) rfl T.g_l_take T.f_l_take.kp B0 B0v pass0 (pa_cons (pv 0) (pa_cons pe_int pa_nil))) (pa_cons (pe_call (ok_l_take (K := K) T) (hr.mono (by decide)) rfl T.g_l_take T.f_l_take.kp B0 B0v pass0 (pa_cons (pv 0) (pa_cons pe_int pa_nil))) (pa_cons (pe_call (ok_l_take (K := K) T) (hr.mono (by decide)) rfl T.g_l_take T.f_l_take.kp B0 B0v pass0 (pa_cons (pv 0) (pa_cons pe_int pa_nil))) pa_nil))) (by rfl))
      (pss_cons (ps_set (i := 5) sc_l_chart.nd rfl (Or.inl rfl) (pe_ix (ixl (K := K)) (pe_lst (pa_cons pe_non (pa_cons (pe_ix (ixl (K := K)) (pv 1) pe_int (fun _ _ => rfl)) (pa_cons (pe_call (ok_l_sum (K := K) T) (hr.mono (by decide)) rfl T.g_l_sum T.f_l_sum.kp B1 B1v pass0 (pa_cons (pe_ix (ixl (K := K)) (pv 1) pe_int (fun _ _ => rfl)) (pa_cons (pe_tup (pa_cons pe_int (pa_cons pe_int pa_nil))) pa_nil))) pa_nil)))) (pv 3) (fun _ _ => rfl)))
      (pss_cons (ps_set (i := 6) sc_l_chart.nd rfl (Or.inl rfl) (pe_ix (ixl (K := K)) (pe_lst (pa_cons pe_non (pa_cons (pe_ix (ixl (K := K)) (pv 1) (pe_un un_neg pe_int) (fun _ _ => rfl)) (pa_cons (pe_call (ok_l_sum (K := K) T) (hr.mono (by decide)) rfl T.g_l_sum T.f_l_sum.kp B1 B1v pass0 (pa_cons (pe_ix (ixl (K := K)) (pv 1) (pe_un un_neg pe_int) (fun _ _ => rfl)) (pa_cons (pe_tup (pa_cons pe_int (pa_cons pe_int pa_nil))) pa_nil))) pa_nil)))) (pv 4) (fun _ _ => rfl)))
      (pss_cons (ps_cut (ps_if (PW.pt (pw_and (pt_cmpR op_notN (pv 5) pe_non (nomark _)) (pw_and (pt_cmpR op_notN (pv 6) pe_non (nomark _)) (pw_and1 (pt_val (pe_call (ok_l_less (K := K) T) (hr.mono (by decide)) rfl T.g_l_less T.f_l_less.kp B2 B2v pass0 (pa_cons (pv 6) (pa_cons (pv 5) pa_nil))))))))
      (pss_one (ps_set (i := 5) sc_l_chart.nd rfl (Or.inl rfl) pe_non))
      pss_nil))
      (pss_one (ps_ret (pe_tup (pa_cons (pe_ix (ixl (K := K)) (pe_lst (pa_cons pe_str (pa_cons pe_str (pa_cons pe_str pa_nil)))) (pv 2) (fun _ _ => rfl)) (pa_cons (pv 5) (pa_cons (pv 6) pa_nil)))))))))), ?_⟩
    have lq := tq.len
    walk_at "y"
    intro d1 H1 a0 a1 hh1 k1'
    walk_at "y"
    intro d2 H2 b0 b1 hh2 k2
    walk_at "y"
    intro d3 H3 c0 c1 hh3 k3
    obtain ⟨z0, hz0⟩ := ge2 (zs := zs) (n := 0) l0
    obtain ⟨z1, hz1⟩ := ge2 (zs := zs) (n := zs.length - 1) (by omega)
    obtain ⟨v0, hv0, _⟩ := tq.at hz0
    obtain ⟨v1, hv1, _⟩ := tq.at hz1
    have hat1 : atI us (-1) = some v1 := atI_end (n := zs.length - 1) (by omega) hv1
    have tq3 : Tqs H3 k us zs := by walk_at "u"
    have t0 := tq3.all 0 v0 z0 hv0 hz0
    have t1 := tq3.all _ v1 z1 hv1 hz1
    have hl3 : H3 l = some (.lst us) := by walk_at "u"
    have kA : Kp h H H3 := by walk_at "k"
    clear tq hl hh hh1 hh2 k1' k2 k3 tq3
    walk_at "y"
    intro p1 np1
    walk_at "y"
    intro v5 z5 H5 s5 t5 r5
    walk_at "y"
    intro p2 np2
    have hsel : ∃ vl lo, atI [.non, v0, v5] d2 = some vl ∧ TOq H5 (k + 40) vl lo := by
      obtain rfl | rfl | rfl : d2 = 0 ∨ d2 = 1 ∨ d2 = 2 := by omega
      · exact ⟨_, none, rfl, rfl⟩
      · exact ⟨_, some z0, rfl, by show TQ _ _ _ _; walk_at "um"⟩
      · exact ⟨_, some z5, rfl, by show TQ _ _ _ _; walk_at "um"⟩
    obtain ⟨vl, lo, hat2, tlo⟩ := hsel
    walk_at "y"
    intro p3 np3
    walk_at "y"
    intro v6 z6 H6 s6 t6 r6
    walk_at "y"
    intro p4 np4
    have hsel : ∃ vh hi, atI [.non, v1, v6] d3 = some vh ∧ TOq H6 (k + 40) vh hi := by
      obtain rfl | rfl | rfl : d3 = 0 ∨ d3 = 1 ∨ d3 = 2 := by omega
      · exact ⟨_, none, rfl, rfl⟩
      · exact ⟨_, some z1, rfl, by show TQ _ _ _ _; walk_at "um"⟩
      · exact ⟨_, some z6, rfl, by show TQ _ _ _ _; walk_at "um"⟩
    obtain ⟨vh, hi, hat3, thi⟩ := hsel
    have tlo6 : TOq H6 (k + 40) vl lo := by walk_at "u"
    have kB : Kp h H H6 := by walk_at "k"
    have hh6 : HandAt H6 h (n + 1 + 1 + 1) := by walk_at "u"
    clear tlo t0 t1 t5 t6 r5 r6 s5 s6 kA hh3 hl3 np1 np2 np3
    walk_at "y"
    have s7 : Same H6 (upd H6 p4 (.lst [.non, v1, v6])) := same1 np4
    have tlo7 := tlo6.same s7
    have thi7 := thi.same s7
    have kC := kB.trans (Kp.same s7)
    have hh7 := hh6.same s7
    generalize upd H6 p4 (.lst [.non, v1, v6]) = H7 at *
    clear tlo6 thi kB hh6 s7 np4
    obtain ⟨J, eJ⟩ : ∃ J : L2.St → Hp → Prop, J = fun σ' H' => ∃ vl' lo', σ' = [some (.ref h), some (.ref l), some (.int d1), some (.int d2), some (.int d3), some vl', some vh] ∧ H' = H7 ∧ TOq H7 (k + 40) vl' lo' ∧ spanB lo' hi = true := ⟨_, rfl⟩
    refine ⟨J, ?_, ?_⟩
    · cases lo with
      | none =>
        cases tlo7
        walk_at "y"
        subst eJ; exact ⟨.non, none, rfl, rfl, rfl, by cases hi <;> rfl⟩
      | some a =>
        have ta : TQ H7 vl (k + 40) a := tlo7
        obtain ⟨qa, rfl, _⟩ := tlo7
        cases hi with
        | none =>
          cases thi7
          walk_at "y"
          subst eJ; exact ⟨_, some a, rfl, rfl, ta, rfl⟩
        | some b =>
          have tb : TQ H7 vh (k + 40) b := thi7
          obtain ⟨qb, rfl, _⟩ := thi7
          walk_at "y"
          cases e : ltq b a with
          | true =>
            refine iteT ?_
            walk_at "y"
            subst eJ; exact ⟨.non, none, rfl, rfl, rfl, rfl⟩
          | false =>
            refine iteF ?_
            subst eJ; exact ⟨_, some a, rfl, rfl, ta, by show (!ltq b a) = true; rw [e]; rfl⟩
    subst eJ
    rintro σ' H' ⟨vl', lo', rfl, rfl, tlo', hsp⟩
    walk_at "y"
    intro p5 np5
    have hsel : ∃ r : Str, atI [V.str "up", V.str "down", V.str "near"] d1 = some (V.str r) ∧ IsRule r := by
      obtain rfl | rfl | rfl : d1 = 0 ∨ d1 = 1 ∨ d1 = 2 := by omega
      · exact ⟨_, rfl, .inl rfl⟩
      · exact ⟨_, rfl, .inr (.inl rfl)⟩
      · exact ⟨_, rfl, .inr (.inr rfl)⟩
    obtain ⟨r, hat4, hr'⟩ := hsel
    walk_at "y"
    intro p6 np6
    exact kk p6 r lo' hi _ (by walk_at "um") (by walk_at "k") ⟨⟨_, _, upd_same, by walk_at "u", by walk_at "u"⟩, hr', hsp⟩
theorem ok_l_ladder {P : Program} {w : World} {K : PySem.W.Frag} {mg : Str → Option Value} {base : Heap} {φ : Fds} (T : Txt K mg φ) : FnOk P w K mg base CX0 5 (He.fAd K ("_law_ladder", none)) φ.l_ladder p_l_ladder (sp_lladder K (He.ga K "Measure") (He.ga K "Ladder")) := by
  obtain ⟨_, B0v, B0⟩ := b_Measure_init_3 T
  obtain ⟨_, B1v, B1⟩ := b_Ladder_init_5 T
  obtain ⟨_, B2v, B2⟩ := b_l_measures_1 T
  refine T.f_l_ladder.ok sc_l_ladder (fun vs H Q E h => ?_) (fun cdv A outer s H vs Q E hr h => ?_)
  · obtain ⟨l, T', k, us, zs, r, lo, hi, rfl, hl, tq, hc, k0, k1, l0, l1, ri, kk⟩ := h; rfl
  · obtain ⟨l, T', k, us, zs, r, lo, hi, rfl, hl, tq, hc, k0, k1, l0, l1, ri, kk⟩ := h
    refine ⟨_, PSs.nox (pss_cons (ps_setLc (i := 2) (own := [("_law_one", 3)]) (g := gName 3) rfl sc_l_ladder.nd rfl rfl (sw_true rfl rfl rfl (by decide +kernel)) (pi_tup (pe_slice (slU (K := K)) (pv 1) (po_some pe_int) po_none)) (blkOk_by (own := [("_law_one", 3)]) (N := N_l_ladder) (sc := (defScope s_l_ladder)) (by decide +kernel)) (fun _ _ _ _ _ => (pg_name (i := 3) sc_l_ladder.nd rfl (Or.inl rfl))) (fun _ _ _ _ _ => pts_nil) (fun _ _ _ _ _ => (pe_ifExp (pt_cmpR op_isN (pv 3) pe_non (nomark _)) pe_non (pe_make T.mk_Measure (ok_Measure_init (K := K) T) (hr.mono (by decide)) rfl T.g_Measure B0 B0v pass0 (pa_cons (pe_ix (ixt (K := K)) (pv 3) pe_int (fun _ _ => rfl)) (pa_cons (pe_ix (ixt (K := K)) (pv 3) pe_int (fun _ _ => rfl)) pa_nil))))))
      (pss_one (ps_ret (pe_make T.mk_Ladder (ok_Ladder_init (K := K) T) (hr.mono (by decide)) rfl T.g_Ladder B1 B1v pass0 (pa_cons (pe_call (ok_l_measures (K := K) T) (hr.mono (by decide)) rfl T.g_l_measures T.f_l_measures.kp B2 B2v pass0 (pa_cons (pv 0) pa_nil)) (pa_cons (pe_ix (ixt (K := K)) (pv 1) pe_int (fun _ _ => rfl)) (pa_cons (pe_ix (ixl (K := K)) (pv 2) pe_int (fun _ _ => rfl)) (pa_cons (pe_ix (ixl (K := K)) (pv 2) pe_int (fun _ _ => rfl)) pa_nil)))))))), ?_⟩
    obtain ⟨⟨vl, vh, hT, tlo, thi⟩, hru, hsp⟩ := hc
    walk_at "y"
    intro p5 H5 s5 hp5
    have ec : cutV [V.str r, vl, vh] (some 1) none = [vl, vh] := by rw [cutV_drop _ (i := 1) (n := 1) rfl]; rfl
    rw [ec] at hp5
    walk_at "y"
    intro D nD
    refine lcr (n := [vl, vh].length) walk_tup (fun _ _ g s => s.sqt g) (fun i H v => QO (He.ga K "Measure") H (k + 40) v (if i = 0 then lo else hi)) (fun i H H' y q nl => QO.nl nl q) (szs (Nat.le_of_ble_eq_true rfl)) hp5 nD (fun i x H6 H7 N M hi' s6 y hN => ?_) (fun H6 ys s6 hD ly hy => ?_)
    · obtain ⟨rfl, hx⟩ := y
      have hi2 : i < 2 := hi'
      have ht : TOq H7 (k + 40) x (if i = 0 then lo else hi) := by
        obtain rfl | rfl : i = 0 ∨ i = 1 := by omega
        · cases hx
          show TOq H7 (k + 40) vl lo
          walk_at "u"
        · cases hx
          show TOq H7 (k + 40) vh hi
          walk_at "u"
      refine ⟨rfl, yesT ?_⟩
      revert ht hN
      generalize (if i = 0 then lo else hi) = o
      intro hN ht
      cases o with
      | none =>
        cases ht
        walk_at "y"
        exact hN _ _ (Same.refl _) rfl
      | some z =>
        obtain ⟨q, rfl, hq, hz, sz1, sz2⟩ := ht
        have mk := fun (Qa : Addr → Hp → Prop) (E : XK) => @q_made (He.ga K "Measure") H7 Qa E (k + 40) z.1 z.2 hz sz1 sz2 (by omega) (by omega)
        clear hp5 tlo thi hT sz1 sz2
        refine ⟨_, rfl, rfl, _, rfl, iteF ?_⟩
        walk_at "y"
        exact mk _ _ fun q2 H8 s8 R => hN _ _ s8 ⟨q2, rfl, R⟩
    have ly2 : ys.length = 2 := ly
    obtain ⟨y0, hy0⟩ := geV (xs := ys) (n := 0) (by omega)
    obtain ⟨y1, hy1⟩ := geV (xs := ys) (n := 1) (by omega)
    have q0 : QO (He.ga K "Measure") H6 (k + 40) y0 lo := hy 0 y0 hy0
    have q1 : QO (He.ga K "Measure") H6 (k + 40) y1 hi := hy 1 y1 hy1
    walk_at "y"
    intro T2 ps H8 s8 hT2 hm
    have hat0 : atI ys 0 = some y0 := atI_of (n := 0) rfl hy0
    have hat1 : atI ys 1 = some y1 := atI_of (n := 1) rfl hy1
    walk_at "y"
    refine lad_made (k := k + 40) (by walk_at "u") (hm.mono (by omega)) (by omega) l0 l1 ri hru (by walk_at "u") (by walk_at "u") hsp fun q H9 _ s9 L9 _ => kk q H9 (by walk_at "s") L9
theorem ok_l_size {P : Program} {w : World} {K : PySem.W.Frag} {mg : Str → Option Value} {base : Heap} {φ : Fds} (T : Txt K mg φ) : FnOk P w K mg base CX0 3 (He.fAd K ("_law_size", none)) φ.l_size p_l_size sp_lsizeQ := by
  obtain ⟨_, B0v, B0⟩ := b_l_less_2 T
  obtain ⟨_, B1v, B1⟩ := b_l_sum_2 T
  refine T.f_l_size.ok sc_l_size (fun vs H Q E h => ?_) (fun cdv A outer s H vs Q E hr h => ?_)
  · obtain ⟨l, T', v, k, j, m, us, zs, r, lo, hi, x, rfl, hl, tq, hc, tx, k0, k1, j0, j1, m0, m1, l0, l1, ri, kk⟩ := h; rfl
  · obtain ⟨l, T', v, k, j, m, us, zs, r, lo, hi, x, rfl, hl, tq, hc, tx, k0, k1, j0, j1, m0, m1, l0, l1, ri, kk⟩ := h
    refine ⟨_, PSs.nox (pss_cons (ps_asg (pv 1) (pg_tup rfl (pgs_cons (pg_name (i := 3) sc_l_size.nd rfl (Or.inl rfl)) (pgs_cons (pg_name (i := 4) sc_l_size.nd rfl (Or.inl rfl)) (pgs_cons (pg_name (i := 5) sc_l_size.nd rfl (Or.inl rfl)) pgs_nil)))))
      (pss_cons (ps_cut (ps_if (PW.pt (pw_or (PW.pt (pw_and (pt_cmpR op_notN (pv 4) pe_non (nomark _)) (pw_and1 (pt_val (pe_call (ok_l_less (K := K) T) (hr.mono (by decide)) rfl T.g_l_less T.f_l_less.kp B0 B0v pass0 (pa_cons (pv 2) (pa_cons (pv 4) pa_nil))))))) (pw_or1 (PW.pt (pw_and (pt_cmpR op_notN (pv 5) pe_non (nomark _)) (pw_and1 (pt_val (pe_call (ok_l_less (K := K) T) (hr.mono (by decide)) rfl T.g_l_less T.f_l_less.kp B0 B0v pass0 (pa_cons (pv 5) (pa_cons (pv 2) pa_nil))))))))))
      (pss_one (ps_ret pe_non))
      pss_nil))
      (pss_cons (ps_if (pt_cmpR op_eq (pv 3) pe_str (nomark _))
      (pss_cons (ps_setLc (i := 6) (own := [("_law_k", 8), ("_law_mark", 10)]) (g := gTup K 2 (gCons (gName 8) (gCons (gName 10) (gNil)))) rfl sc_l_size.nd rfl rfl (sw_true rfl rfl rfl (by decide +kernel)) (pi_enum (by rfl) T.z_enumerate (pa_cons (pv 0) pa_nil)) (blkOk_by (own := [("_law_k", 8), ("_law_mark", 10)]) (N := N_l_size) (sc := (defScope s_l_size)) (by decide +kernel)) (fun _ _ _ _ _ => (pg_tup rfl (pgs_cons (pg_name (i := 8) sc_l_size.nd rfl (Or.inl rfl)) (pgs_cons (pg_name (i := 10) sc_l_size.nd rfl (Or.inl rfl)) pgs_nil)))) (fun _ _ _ _ _ => (pts_one (pt_not (pt_val (pe_call (ok_l_less (K := K) T) (hr.mono (by decide)) rfl T.g_l_less T.f_l_less.kp B0 B0v pass0 (pa_cons (pv 10) (pa_cons (pv 2) pa_nil))))))) (fun _ _ _ _ _ => (pv 8)))
      (pss_one (ps_ret (pe_ifExp (pt_cmpR (eqDK (K := K) hr.units) (pv 6) (pe_lst pa_nil) (nomark _)) pe_non (pe_ix (ixl (K := K)) (pv 6) pe_int (fun _ _ => rfl))))))
      pss_nil)
      (pss_cons (ps_if (pt_cmpR op_eq (pv 3) pe_str (nomark _))
      (pss_cons (ps_setLc (i := 6) (own := [("_law_k", 8), ("_law_mark", 10)]) (g := gTup K 2 (gCons (gName 8) (gCons (gName 10) (gNil)))) rfl sc_l_size.nd rfl rfl (sw_true rfl rfl rfl (by decide +kernel)) (pi_enum (by rfl) T.z_enumerate (pa_cons (pv 0) pa_nil)) (blkOk_by (own := [("_law_k", 8), ("_law_mark", 10)]) (N := N_l_size) (sc := (defScope s_l_size)) (by decide +kernel)) (fun _ _ _ _ _ => (pg_tup rfl (pgs_cons (pg_name (i := 8) sc_l_size.nd rfl (Or.inl rfl)) (pgs_cons (pg_name (i := 10) sc_l_size.nd rfl (Or.inl rfl)) pgs_nil)))) (fun _ _ _ _ _ => (pts_one (pt_not (pt_val (pe_call (ok_l_less (K := K) T) (hr.mono (by decide)) rfl T.g_l_less T.f_l_less.kp B0 B0v pass0 (pa_cons (pv 2) (pa_cons (pv 10) pa_nil))))))) (fun _ _ _ _ _ => (pv 8)))
      (pss_one (ps_ret (pe_ifExp (pt_cmpR (eqDK (K := K) hr.units) (pv 6) (pe_lst pa_nil) (nomark _)) pe_non (pe_ix (ixl (K := K)) (pv 6) (pe_un un_neg pe_int) (fun _ _ => rfl))))))
      pss_nil)
      (pss_cons (ps_set (i := 7) sc_l_size.nd rfl (Or.inl rfl) pe_int)
      (pss_cons (ps_for PassesOwn.never rfl (pi_range2 rfl T.z_range (pa_cons pe_int (pa_cons (pe_callB (id := "len") (lenS (K := K)) (by rfl) T.z_len PySem.boot_len (pa_cons (pv 0) pa_nil)) pa_nil))) (pg_name (i := 8) sc_l_size.nd rfl (Or.inl rfl))
      (pss_cons (ps_set (i := 9) sc_l_size.nd rfl (Or.inl rfl) (pe_call (ok_l_sum (K := K) T) (hr.mono (by decide)) rfl T.g_l_sum T.f_l_sum.kp B1 B1v pass0 (pa_cons (pe_ix (ixl (K := K)) (pv 0) (pe_op op_sub (pv 8) pe_int) (fun _ _ => rfl)) (pa_cons (pe_ix (ixl (K := K)) (pv 0) (pv 8) (fun _ _ => rfl)) pa_nil))))
      (pss_one (ps_if (pt_not (pt_val (pe_call (ok_l_less (K := K) T) (hr.mono (by decide)) rfl T.g_l_less T.f_l_less.kp B0 B0v pass0 (pa_cons (pv 2) (pa_cons (pe_tup (pa_cons (pe_ix (ixt (K := K)) (pv 9) pe_int (fun _ _ => rfl)) (pa_cons (pe_op op_mulA pe_int (pe_ix (ixt (K := K)) (pv 9) pe_int (fun _ _ => rfl))) pa_nil))) pa_nil)))))
      (pss_one (ps_set (i := 7) sc_l_size.nd rfl (Or.inl rfl) (pv 8)))
      pss_nil))))
      (pss_one (ps_ret (pv 7))))))))), ?_⟩
    obtain ⟨⟨vl, vh, hT, tlo, thi⟩, hru, hsp⟩ := hc
    have lq := tq.len
    have hp := tq.posL
    have px := tx.pos
    have fin : ∀ o H', sizeQ zs r lo hi x = o → Same H H' → Q (optI o) H' := fun o H' e s => by rw [← e]; exact kk H' s
    walk_at "y"
    obtain ⟨J, eJ⟩ : ∃ J : L2.St → Hp → Prop, J = fun σ' H' => σ' = [some (.ref l), some (.ref T'), some v, some (.str r), some vl, some vh, none, none, none, none, none] ∧ H' = H ∧ inO lo hi x = true := ⟨_, rfl⟩
    refine ⟨J, ?_, ?_⟩
    · cases lo with
      | none =>
        cases tlo
        cases hi with
        | none =>
          cases thi
          walk_at "y"
          subst eJ; exact ⟨rfl, rfl, rfl⟩
        | some b =>
          have tb : TQ H vh j b := thi
          obtain ⟨qb, rfl, _⟩ := thi
          walk_at "y"
          cases e : ltq b x with
          | true => exact iteT (fin none _ (sizeQ_out (inO_hi e)).symm (Same.refl _))
          | false => refine iteF ?_; subst eJ; exact ⟨rfl, rfl, by show (!ltq b x) = true; rw [e]; rfl⟩
      | some a =>
        have ta : TQ H vl j a := tlo
        obtain ⟨qa, rfl, _⟩ := tlo
        walk_at "y"
        cases e : ltq x a with
        | true =>
          refine iteT ?_
          exact iteT (fin none _ (sizeQ_out (inO_lo e)).symm (Same.refl _))
        | false =>
          refine iteF ?_
          cases hi with
          | none =>
            cases thi
            walk_at "y"
            subst eJ; exact ⟨rfl, rfl, by show (!ltq x a && true) = true; rw [e]; rfl⟩
          | some b =>
            have tb : TQ H vh j b := thi
            obtain ⟨qb, rfl, _⟩ := thi
            walk_at "y"
            cases e2 : ltq b x with
            | true => exact iteT (fin none _ (sizeQ_out (inO_hi e2)).symm (Same.refl _))
            | false => refine iteF ?_; subst eJ; exact ⟨rfl, rfl, by show (!ltq x a && !ltq b x) = true; rw [e, e2]; rfl⟩
    subst eJ
    rintro σ' H0 ⟨rfl, rfl, hin⟩
    clear tlo thi
    walk_at "y"
    refine ite2 (fun e => ?_) (fun e => ?_)
    · have er : r = "up" := V.str.inj (of_decide_eq_true e)
      subst er
      walk_at "y"
      intro D nD
      refine lcz (n := us.length) walk_enum (fun _ _ g s => s.seq g) (oIdx us.length (upB zs x)) (oIdx_len _ _) (szs (by omega)) (SqL.of hl) nD (fun i w H1 H2 o N M hi ho s1 y hN hM => ?_) (fun H1 s1 hD => ?_)
      · obtain ⟨t, a0, b0, rfl, nt, rfl, ha0, hb0⟩ := y
        cases ha0
        obtain ⟨a, ha, ta⟩ := tq.of hb0
        have eo := oIdx_get ho
        rw [upB_at ha] at eo
        refine ⟨t, _, rfl, SqT.of upd_same, rfl, _, _, rfl, _, _, rfl, rfl, rfl, ?_⟩
        have s2 : Same H1 (upd H1 t (.tup [.int (i : Int), b0])) := same1 nt
        walk_at "y"
        cases e : ltq a x with
        | true => exact iteF (hM _ (by rw [eo]; simp [e]) s2)
        | false => exact iteT ⟨_, rfl, hN _ _ (by rw [eo]; simp [e]) s2⟩
      rw [oIdx_fm, lq] at hD
      walk_at "y"
      intro p6 np6
      have hD6 := up1 (u := .lst []) np6 hD
      rcases idx_up ri hp px with ⟨e0, e1⟩ | ⟨rr, e0, e1⟩
      · rw [e0] at hD6
        refine ⟨_, _, dpL hD6, dpN upd_same, shL _, rfl, _, rfl, ?_⟩
        rw [eqv_nil]
        refine iteT ?_
        exact fin none _ (by rw [sizeQ_up hin, if_neg e1]) (by walk_at "s")
      · rw [e0] at hD6
        refine ⟨_, _, dpL hD6, dpN upd_same, shL _, rfl, _, rfl, ?_⟩
        rw [eqv_cons]
        refine iteF ?_
        have hat : atI (((zs.countP fun a => ltq a x : Nat) : Int) :: rr |>.map V.int) 0 = some (.int ((zs.countP fun a => ltq a x : Nat) : Int)) := atI_of (n := 0) rfl rfl
        walk_at "y"
        exact fin (some _) _ (by rw [sizeQ_up hin, if_pos e1]) (by walk_at "s")
    have er : ¬ r = "up" := fun q => e (decide_eq_true (congrArg V.str q))
    walk_at "y"
    refine ite2 (fun e => ?_) (fun e => ?_)
    · have er2 : r = "down" := V.str.inj (of_decide_eq_true e)
      subst er2
      walk_at "y"
      intro D nD
      refine lcz (n := us.length) walk_enum (fun _ _ g s => s.seq g) (oIdx us.length (dnB zs x)) (oIdx_len _ _) (szs (by omega)) (SqL.of hl) nD (fun i w H1 H2 o N M hi ho s1 y hN hM => ?_) (fun H1 s1 hD => ?_)
      · obtain ⟨t, a0, b0, rfl, nt, rfl, ha0, hb0⟩ := y
        cases ha0
        obtain ⟨a, ha, ta⟩ := tq.of hb0
        have eo := oIdx_get ho
        rw [dnB_at ha] at eo
        refine ⟨t, _, rfl, SqT.of upd_same, rfl, _, _, rfl, _, _, rfl, rfl, rfl, ?_⟩
        have s2 : Same H1 (upd H1 t (.tup [.int (i : Int), b0])) := same1 nt
        walk_at "y"
        cases e : ltq x a with
        | true => exact iteF (hM _ (by rw [eo]; simp [e]) s2)
        | false => exact iteT ⟨_, rfl, hN _ _ (by rw [eo]; simp [e]) s2⟩
      rw [oIdx_fm, lq, idx_dn ri hp px, idx_below List.countP_le_length] at hD
      walk_at "y"
      intro p6 np6
      have hD6 := up1 (u := .lst []) np6 hD
      cases ec : zs.countP (fun a => leq a x) with
      | zero =>
        rw [ec] at hD6
        refine ⟨_, _, dpL hD6, dpN upd_same, shL _, rfl, _, rfl, ?_⟩
        have : PyData.eqv (.list (((List.range 0).map fun k : Nat => (k : Int)).map PyData.int)) (.list []) = true := eqv_nil
        rw [this]
        refine iteT ?_
        exact fin none _ (by rw [sizeQ_dn hin, ec]; rfl) (by walk_at "s")
      | succ c =>
        rw [ec, List.range_succ, List.map_append, List.map_append] at hD6
        have hD7 := hD6
        rw [← List.map_append] at hD7
        refine ⟨_, _, dpL hD7, dpN upd_same, shL _, rfl, _, rfl, ?_⟩
        have : PyData.eqv (.list ((((List.range c).map fun k : Nat => (k : Int)) ++ ([c].map fun k : Nat => (k : Int))).map PyData.int)) (.list []) = false := by
          cases (List.range c).map fun k : Nat => (k : Int) with
          | nil => exact eqv_cons _ _
          | cons y ys => exact eqv_cons _ _
        rw [this]
        refine iteF ?_
        have hat : atI (((List.range c).map (fun k : Nat => (k : Int)) ++ [c].map (fun k : Nat => (k : Int))).map V.int) (-1) = some (.int (c : Int)) := by
          rw [List.map_append]
          exact atI_end (n := c) (by simp) (by rw [List.getElem?_append_right (by simp)]; simp)
        walk_at "y"
        exact fin (some c) _ (by rw [sizeQ_dn hin, ec]; rfl) (by walk_at "s")
    have er2 : ¬ r = "down" := fun q => e (decide_eq_true (congrArg V.str q))
    walk_at "y"
    have key := cntQ _ (down_mid ri hp px)
    have ml := midq_len zs
    refine for_range (fun i σ H' => ∃ (c : Nat) (v7 v8 v9 v10 : Option V), σ = [some (.ref l), some (.ref T'), some v, some (.str r), some vl, some vh, v7, some (.int (c : Int)), v8, v9, v10] ∧ Same H0 H' ∧ c = min i ((midq zs).countP fun a => leq a x)) ?_ ?_ ?_
    · exact ⟨0, _, _, _, _, rfl, Same.refl _, by omega⟩
    · rintro i σ H1 hi ⟨c, v7, v8, v9, v10, rfl, s1, ec⟩
      have hi2 : i + 1 < zs.length := by omega
      obtain ⟨a, ha⟩ := ge2 (zs := zs) (n := i) (by omega)
      obtain ⟨b, hb⟩ := ge2 (zs := zs) (n := i + 1) hi2
      have tq1 := tq.same s1
      obtain ⟨va, hva, ta⟩ := tq1.at ha
      obtain ⟨vb, hvb, tb⟩ := tq1.at hb
      have ki := key i _ (midq_get zs i a b ha hb)
      have e1 : atI us (1 + (i : Int) - 1) = some va := atI_of (n := i) (by omega) hva
      have e2 : atI us (1 + (i : Int)) = some vb := atI_of (n := i + 1) (by omega) hvb
      have tx1 := tx.same s1
      have hl1 := s1 _ _ hl
      clear tq tx hl key tq1
      walk_at "y"
      intro v3 z3 H3 s3 t3 r3
      have hr3 := half_re r3
      have e4 : ltq x (z3.1, 2 * z3.2) = ltq x (qhalf a b) := ltq_congr (Re.refl px) hr3
      have t3' := t3
      obtain ⟨q3, rfl, hq3, p3, z31, z32⟩ := t3'
      walk_at "y"
      intro p4 np4
      have t4 : TQ (upd H3 p4 (.tup [.int z3.1, .int (2 * z3.2)])) (.ref p4) (k + k + 4) (z3.1, 2 * z3.2) := TQ.mk upd_same (by omega) (z31.mono (by omega)) (((show Sz 2 (2 : Int) by decide).mul z32).mono (by omega))
      have s4 : Same H3 (upd H3 p4 (.tup [.int z3.1, .int (2 * z3.2)])) := same1 np4
      generalize upd H3 p4 (.tup [.int z3.1, .int (2 * z3.2)]) = H4 at *
      walk_at "y"
      rw [e4]
      have e5 : leq (qhalf a b) x = !ltq x (qhalf a b) := leq_not
      cases e : ltq x (qhalf a b) with
      | true =>
        refine iteF ?_
        refine ⟨c, _, _, _, _, rfl, by walk_at "s", ?_⟩
        have : ¬ i < (midq zs).countP fun a => leq a x := fun z => by
          have := ki.mpr z
          rw [e5, e] at this
          cases this
        omega
      | false =>
        refine iteT ⟨_, rfl, i + 1, _, _, _, _, by rw [show (1 + (i : Int)) = ((i + 1 : Nat) : Int) by omega]; rfl, by walk_at "s", ?_⟩
        have : i < (midq zs).countP fun a => leq a x := ki.mp (by rw [e5, e]; rfl)
        omega
    rintro σ H1 ⟨c, v7, v8, v9, v10, rfl, s1, ec⟩
    have le : (midq zs).countP (fun a => leq a x) ≤ (midq zs).length := List.countP_le_length
    walk_at "y"
    refine fin (some c) _ ?_ s1
    rw [sizeQ_nr hin er er2 l0]
    congr 1
    omega
theorem ok_Grid_own {P : Program} {w : World} {K : PySem.W.Frag} {mg : Str → Option Value} {base : Heap} {φ : Fds} (T : Txt K mg φ) : FnOk P w K mg base CX0 8 (He.fAd K ("Grid", some "own")) φ.Grid_own p_Grid_own (sp_own K (He.ga K "Measure") (He.ga K "Ladder") (He.ga K "Grid")) := by
  obtain ⟨_, B0v, B0⟩ := b_Ladder_size_2 T
  obtain ⟨_, B1v, B1⟩ := b_Measure_minus_2 T
  obtain ⟨_, B2v, B2⟩ := b_Grid_graded_2 T
  refine T.f_Grid_own.ok sc_Grid_own (fun vs H Q E h => ?_) (fun cdv A outer s H vs Q E hr h => ?_)
  · obtain ⟨p, f, L1, L2', f1, f2, k, j, m, zs, ys, r1, r2, lo1, hi1, lo2, hi2, g, x1, x2, rfl, hG, hL1, hL2, hf, q1, q2, j0, j1, k0, k1, m0, m1, kk⟩ := h; rfl
  · obtain ⟨p, f, L1, L2', f1, f2, k, j, m, zs, ys, r1, r2, lo1, hi1, lo2, hi2, g, x1, x2, rfl, hG, hL1, hL2, hf, q1, q2, j0, j1, k0, k1, m0, m1, kk⟩ := h
    refine ⟨_, PSs.nox (pss_cons (ps_asg (pv 1) (pg_tup rfl (pgs_cons (pg_name (i := 2) sc_Grid_own.nd rfl (Or.inl rfl)) (pgs_cons (pg_name (i := 3) sc_Grid_own.nd rfl (Or.inl rfl)) pgs_nil))))
      (pss_cons (ps_set (i := 4) sc_Grid_own.nd rfl (Or.inl rfl) (pe_meth (fldK (K := K) (pv 0) rfl) T.cl_Ladder T.me_Ladder_size (ok_Ladder_size (K := K) T) (hr.mono (by decide)) B0 B0v pass0 (pa_cons (pv 2) pa_nil)))
      (pss_cons (ps_if (pt_cmpR op_isN (pv 4) pe_non (nomark _))
      (pss_one (ps_ret pe_non))
      pss_nil)
      (pss_cons (ps_set (i := 5) sc_Grid_own.nd rfl (Or.inl rfl) (pe_meth (fldK (K := K) (pv 0) rfl) T.cl_Ladder T.me_Ladder_size (ok_Ladder_size (K := K) T) (hr.mono (by decide)) B0 B0v pass0 (pa_cons (pe_meth (pv 3) T.cl_Measure T.me_Measure_minus (ok_Measure_minus (K := K) T) (hr.mono (by decide)) B1 B1v pass0 (pa_cons (pe_meth (pv 0) T.cl_Grid T.me_Grid_graded (ok_Grid_graded (K := K) T) (hr.mono (by decide)) B2 B2v pass0 (pa_cons (pv 4) pa_nil)) pa_nil)) pa_nil)))
      (pss_cons (ps_if (pt_cmpR op_isN (pv 5) pe_non (nomark _))
      (pss_one (ps_ret pe_non))
      pss_nil)
      (pss_one (ps_ret (pe_tup (pa_cons (pv 4) (pa_cons (pv 5) pa_nil)))))))))), ?_⟩
    have na_Grid_lengths := T.na_Grid_lengths
    have na_Grid_breadths := T.na_Grid_breadths
    have na_Grid_grade := T.na_Grid_grade
    have cl_Grid := T.cl_Grid
    have cl_Ladder := T.cl_Ladder
    have na_Ladder_marks := T.na_Ladder_marks
    have na_Ladder_rule := T.na_Ladder_rule
    have na_Ladder_least := T.na_Ladder_least
    have na_Ladder_most := T.na_Ladder_most
    
    obtain ⟨dx, qg, hp, _⟩ := hG.ob
    replace hL1 := hL1.mono (show k ≤ k + m + j + 50 by omega)
    replace hL2 := hL2.mono (show k ≤ k + m + j + 50 by omega)
    replace q1 := q1.mono (show m ≤ k + m + j + 50 by omega)
    walk_at "y"
    refine ⟨hf, ?_⟩
    walk_at "y"
    intro H1 s1
    unfold ownQ at kk
    cases e : sizeQ zs r1 lo1 hi1 x1 with
    | none =>
      rw [e] at kk
      walk_at "y"
      exact kk _ _ s1 rfl
    | some i =>
      rw [e] at kk
      have hi := sizeQ_lt e
      have l1 := hL1.len1
      replace kk : ∀ (v : V) (H' : Hp), Same H H' → OwnV H' v (match sizeQ ys r2 lo2 hi2 (qsub x2 (qmul g ((i : Int), 1))) with | none => none | some w => some (i, w)) → Q v H' := kk
      walk_at "y"
      intro q3 H3 s3 a3
      walk_at "y"
      intro q4 H4 s4 a4
      walk_at "y"
      intro H5 s5
      cases e2 : sizeQ ys r2 lo2 hi2 (qsub x2 (qmul g ((i : Int), 1))) with
      | none =>
        rw [e2] at kk
        walk_at "y"
        exact kk _ _ (by walk_at "s") rfl
      | some w' =>
        rw [e2] at kk
        walk_at "y"
        intro T2 nT2
        exact kk _ _ (by walk_at "s") ⟨T2, rfl, upd_same⟩
theorem ok_l_own {P : Program} {w : World} {K : PySem.W.Frag} {mg : Str → Option Value} {base : Heap} {φ : Fds} (T : Txt K mg φ) : FnOk P w K mg base CX0 4 (He.fAd K ("_law_own", none)) φ.l_own p_l_own (sp_lown K) := by
  obtain ⟨_, B0v, B0⟩ := b_l_size_3 T
  obtain ⟨_, B1v, B1⟩ := b_l_sum_2 T
  refine T.f_l_own.ok sc_l_own (fun vs H Q E h => ?_) (fun cdv A outer s H vs Q E hr h => ?_)
  · obtain ⟨h, p, c, c1, c2, f, v1, v2, k, j, m, zs, ys, r1, r2, lo1, hi1, lo2, hi2, g, x1, x2, rfl, hS, hc, hc1, hc2, hf, t1, t2, ri1, ri2, j0, j1, k0, k1, m0, m1, kk⟩ := h; rfl
  · obtain ⟨h, p, c, c1, c2, f, v1, v2, k, j, m, zs, ys, r1, r2, lo1, hi1, lo2, hi2, g, x1, x2, rfl, hS, hc, hc1, hc2, hf, t1, t2, ri1, ri2, j0, j1, k0, k1, m0, m1, kk⟩ := h
    refine ⟨_, PSs.nox (pss_cons (ps_set (i := 3) sc_l_own.nd rfl (Or.inl rfl) (pe_call (ok_l_size (K := K) T) (hr.mono (by decide)) rfl T.g_l_size T.f_l_size.kp B0 B0v pass0 (pa_cons (pe_ix (ixl (K := K)) (pv 0) pe_int (fun _ _ => rfl)) (pa_cons (pe_ix (ixl (K := K)) (pv 1) pe_int (fun _ _ => rfl)) (pa_cons (pe_ix (ixt (K := K)) (pv 2) pe_int (fun _ _ => rfl)) pa_nil)))))
      (pss_cons (ps_if (pt_cmpR op_isN (pv 3) pe_non (nomark _))
      (pss_one (ps_ret pe_non))
      pss_nil)
      (pss_cons (ps_set (i := 4) sc_l_own.nd rfl (Or.inl rfl) (pe_call (ok_l_sum (K := K) T) (hr.mono (by decide)) rfl T.g_l_sum T.f_l_sum.kp B1 B1v pass0 (pa_cons (pe_ix (ixt (K := K)) (pv 2) pe_int (fun _ _ => rfl)) (pa_cons (pe_tup (pa_cons (pe_op op_sub pe_int (pe_op op_mulA (pv 3) (pe_ix (ixt (K := K)) (pe_ix (ixl (K := K)) (pv 0) pe_int (fun _ _ => rfl)) pe_int (fun _ _ => rfl)))) (pa_cons (pe_ix (ixt (K := K)) (pe_ix (ixl (K := K)) (pv 0) pe_int (fun _ _ => rfl)) pe_int (fun _ _ => rfl)) pa_nil))) pa_nil))))
      (pss_cons (ps_set (i := 5) sc_l_own.nd rfl (Or.inl rfl) (pe_call (ok_l_size (K := K) T) (hr.mono (by decide)) rfl T.g_l_size T.f_l_size.kp B0 B0v pass0 (pa_cons (pe_ix (ixl (K := K)) (pv 0) pe_int (fun _ _ => rfl)) (pa_cons (pe_ix (ixl (K := K)) (pv 1) pe_int (fun _ _ => rfl)) (pa_cons (pv 4) pa_nil)))))
      (pss_one (ps_ret (pe_ifExp (pt_cmpR op_isN (pv 5) pe_non (nomark _)) pe_non (pe_tup (pa_cons (pv 3) (pa_cons (pv 5) pa_nil)))))))))), ?_⟩
    obtain ⟨⟨l1, l2, v, us, ws, hp, hl1, hl2, tq1, tq2, ⟨qv, rfl, hqv, pg, g1, g2⟩, _⟩, n0, n1, n2, n3⟩ := hS
    have pos2 := tq2.posL
    obtain ⟨⟨ul, uh, hcT, tlo, thi⟩, _, _⟩ := id hc2
    have plo := tlo.posE
    have phi := thi.posE
    clear tlo thi hcT
    walk_at "y"
    intro H1 s1
    unfold ownQ at kk
    cases e : sizeQ zs r1 lo1 hi1 x1 with
    | none =>
      rw [e] at kk
      walk_at "y"
      exact kk _ _ s1 rfl
    | some i =>
      rw [e] at kk
      have hi := sizeQ_lt e
      replace kk : ∀ (v : V) (H' : Hp), Same H H' → OwnV H' v (match sizeQ ys r2 lo2 hi2 (qsub x2 (qmul g ((i : Int), 1))) with | none => none | some w => some (i, w)) → Q v H' := kk
      have si : Sz 5 ((i : Nat) : Int) := by
        show ((i : Nat) : Int).natAbs < 2 ^ 5
        omega
      have cm := si.cmul g1 (by decide) (by decide) (by decide)
      walk_at "y"
      intro p1 np1
      have tn : TQ (upd H1 p1 (.tup [.int (0 - (i : Int) * g.1), .int g.2])) (.ref p1) 25 (0 - (i : Int) * g.1, g.2) := TQ.mk upd_same pg (by rw [Int.zero_sub]; exact (si.mul g1).neg) (g2.mono (by decide))
      walk_at "y"
      intro v5 z5 H5 s5 t5 r5
      rw [own_eq] at r5
      walk_at "y"
      intro H6 s6
      rw [sizeQ_congr pos2 plo phi r5]
      cases e2 : sizeQ ys r2 lo2 hi2 (qsub x2 (qmul g ((i : Int), 1))) with
      | none =>
        rw [e2] at kk
        walk_at "y"
        exact kk _ _ (by walk_at "s") rfl
      | some w' =>
        rw [e2] at kk
        walk_at "y"
        intro T2 nT2
        exact kk _ _ (by walk_at "s") ⟨T2, rfl, upd_same⟩
theorem ok_l_near {P : Program} {w : World} {K : PySem.W.Frag} {mg : Str → Option Value} {base : Heap} {φ : Fds} (T : Txt K mg φ) : FnOk P w K mg base CX0 3 (He.fAd K ("_law_near", none)) φ.l_near p_l_near sp_nearQ := by
  obtain ⟨_, B0v, B0⟩ := b_l_pick_2 T
  obtain ⟨_, B1v, B1⟩ := b_l_take_2 T
  obtain ⟨_, B2v, B2⟩ := b_l_sum_2 T
  refine T.f_l_near.ok sc_l_near (fun vs H Q E h => ?_) (fun cdv A outer s H vs Q E hr h => ?_)
  · obtain ⟨h, l, n, k, us, zs, rfl, hh, hn, nlh, hl, tq, k0, k1, l0, l1, kk⟩ := h; rfl
  · obtain ⟨h, l, n, k, us, zs, rfl, hh, hn, nlh, hl, tq, k0, k1, l0, l1, kk⟩ := h
    refine ⟨_, PSs.nox (pss_cons (ps_par (i := 2) (j := 3) rfl sc_l_near.nd rfl rfl (by decide) rfl rfl (pa_cons (pe_call (ok_l_take (K := K) T) (hr.mono (by decide)) rfl T.g_l_take T.f_l_take.kp B1 B1v pass0 (pa_cons (pv 0) (pa_cons (pe_callB (id := "len") (lenS (K := K)) (by rfl) T.z_len PySem.boot_len (pa_cons (pv 1) pa_nil)) pa_nil))) (pa_cons (pe_call (ok_l_pick (K := K) T) (hr.mono (by decide)) rfl T.g_l_pick T.f_l_pick.kp B0 B0v pass0 (pa_cons (pv 0) (pa_cons (pe_lst (pa_cons (pe_tup (pa_cons pe_int (pa_cons pe_int pa_nil))) (pa_cons (pe_tup (pa_cons pe_int (pa_cons pe_int pa_nil))) (pa_cons (pe_tup (pa_cons pe_int (pa_cons pe_int pa_nil))) (pa_cons (pe_tup (pa_cons (pe_un un_neg pe_int) (pa_cons pe_int pa_nil))) pa_nil))))) pa_nil))) pa_nil)) (by rfl))
      (pss_cons (ps_set (i := 4) sc_l_near.nd rfl (Or.inl rfl) (pe_call (ok_l_sum (K := K) T) (hr.mono (by decide)) rfl T.g_l_sum T.f_l_sum.kp B2 B2v pass0 (pa_cons (pe_ix (ixl (K := K)) (pv 1) (pv 2) (fun _ _ => rfl)) (pa_cons (pe_ix (ixl (K := K)) (pv 1) (pe_callB (id := "min") (call_min2 rfl) (by rfl) T.z_min (by decide +kernel) (pa_cons (pe_op op_add (pv 2) pe_int) (pa_cons (pe_op op_sub (pe_callB (id := "len") (lenS (K := K)) (by rfl) T.z_len PySem.boot_len (pa_cons (pv 1) pa_nil)) pe_int) pa_nil))) (fun _ _ => rfl)) pa_nil))))
      (pss_cons (ps_set (i := 5) sc_l_near.nd rfl (Or.inl rfl) (pe_lst (pa_cons (pe_ix (ixl (K := K)) (pv 1) (pv 2) (fun _ _ => rfl)) (pa_cons (pe_ix (ixl (K := K)) (pv 1) (pv 2) (fun _ _ => rfl)) (pa_cons (pe_tup (pa_cons (pe_ix (ixt (K := K)) (pv 4) pe_int (fun _ _ => rfl)) (pa_cons (pe_op op_mulA pe_int (pe_ix (ixt (K := K)) (pv 4) pe_int (fun _ _ => rfl))) pa_nil))) (pa_cons (pe_call (ok_l_sum (K := K) T) (hr.mono (by decide)) rfl T.g_l_sum T.f_l_sum.kp B2 B2v pass0 (pa_cons (pe_ix (ixl (K := K)) (pv 1) (pv 2) (fun _ _ => rfl)) (pa_cons (pe_tup (pa_cons pe_int (pa_cons pe_int pa_nil))) pa_nil))) (pa_cons (pe_tup (pa_cons (pe_op op_sub (pe_call (ok_l_take (K := K) T) (hr.mono (by decide)) rfl T.g_l_take T.f_l_take.kp B1 B1v pass0 (pa_cons (pv 0) (pa_cons pe_int pa_nil))) pe_int) (pa_cons pe_int pa_nil))) pa_nil)))))))
      (pss_one (ps_ret (pe_call (ok_l_sum (K := K) T) (hr.mono (by decide)) rfl T.g_l_sum T.f_l_sum.kp B2 B2v pass0 (pa_cons (pe_call (ok_l_pick (K := K) T) (hr.mono (by decide)) rfl T.g_l_pick T.f_l_pick.kp B0 B0v pass0 (pa_cons (pv 0) (pa_cons (pv 5) pa_nil))) (pa_cons (pv 3) pa_nil)))))))), ?_⟩
    have lq := tq.len
    walk_at "y"
    intro d H1 d0 d1 hh1 k1'
    obtain ⟨d, rfl⟩ := Int.eq_ofNat_of_zero_le d0
    obtain ⟨z1, hz1⟩ := ge2 (zs := zs) (n := d) (by omega)
    obtain ⟨va, hva, _⟩ := tq.at hz1
    have hat1 : atI us (d : Int) = some va := atI_nat hva
    walk_at "y"
    intro p1 np1
    walk_at "y"
    intro p2 np2
    walk_at "y"
    intro p3 np3
    walk_at "y"
    intro p4 np4
    walk_at "y"
    intro p5 np5
    walk_at "pick"
    intro vs zs' H2 hh2 k2 ts
    have tq2 : Tqs H2 k us zs := by walk_at "u"
    have hl2 : H2 l = some (.lst us) := by walk_at "u"
    have kA : Kp h H H2 := by walk_at "k"
    have ta := tq2.all d va z1 hva hz1
    clear hh1 k1' k2 np1 np2 np3 np4 np5 tq hl hh
    obtain ⟨vb, z2, hat2, tb⟩ : ∃ (vb : V) (z2 : Q2), atI us (if (us.length : Int) - 1 < (d : Int) + 1 then (us.length : Int) - 1 else (d : Int) + 1) = some vb ∧ TQ H2 vb k z2 := by
      have aux : ∀ m : Nat, m < zs.length → ∀ e : Int, e = (m : Int) → ∃ vb z2, atI us e = some vb ∧ TQ H2 vb k z2 := fun m hm e he => by
        obtain ⟨z2, hz2⟩ := ge2 (zs := zs) hm
        obtain ⟨vb, hvb, tb⟩ := tq2.at hz2
        exact ⟨vb, z2, atI_of (n := m) he hvb, tb⟩
      split
      · exact aux (zs.length - 1) (by omega) _ (by omega)
      · exact aux (d + 1) (by omega) _ (by omega)
    walk_at "y"
    intro v3 z3 H3 s3 t3 r3
    have t3' := t3
    obtain ⟨q3, rfl, hq3, p3', z31, z32⟩ := t3'
    have tM : ∀ (Hx : Hp) (px : Addr), Hx px = some (.tup [.int z3.1, .int (2 * z3.2)]) → TQ Hx (.ref px) (2 * k + 6) (z3.1, 2 * z3.2) := fun Hx px hx => TQ.mk hx (by omega) (z31.mono (by omega)) (((show Sz 2 (2 : Int) by decide).mul z32).mono (by omega))
    clear z31 z32
    walk_at "y"
    intro p6 np6
    have t6 := tM _ p6 (upd_same (H := H3) (o := .tup [.int z3.1, .int (2 * z3.2)]))
    have s6 : Same H3 (upd H3 p6 (.tup [.int z3.1, .int (2 * z3.2)])) := same1 np6
    generalize upd H3 p6 (.tup [.int z3.1, .int (2 * z3.2)]) = H6 at *
    walk_at "y"
    intro p7 np7
    have t7 : TQ (upd H6 p7 (.tup [.int 1, .int 2])) (.ref p7) 3 (1, 2) := TQ.mk upd_same (by decide) (by decide) (by decide)
    walk_at "y"
    intro v8 z8 H8 s8 t8 r8
    walk_at "y"
    intro e9 H9 e0 e1 hh9 k9
    walk_at "y"
    intro p10 np10
    have t10 : TQ (upd H9 p10 (.tup [.int (e9 - 10), .int 1])) (.ref p10) (2 * k + 6) (e9 - 10, 1) := (TQ.mk (k := 10) upd_same (by decide) (by show (e9 - 10).natAbs < 2 ^ 10; omega) (by decide)).mono (by omega)
    have s10 : Same H9 (upd H9 p10 (.tup [.int (e9 - 10), .int 1])) := same1 np10
    generalize upd H9 p10 (.tup [.int (e9 - 10), .int 1]) = HA at *
    walk_at "y"
    intro pl npl
    have all : AllTQ (upd HA pl (.lst [va, va, .ref p6, v8, .ref p10])) (2 * k + 6) [va, va, .ref p6, v8, .ref p10] := by walk_at "all"
    have nplh : pl ≠ h := hand_ne npl (by walk_at "u")
    have hpl : upd HA pl (.lst [va, va, .ref p6, v8, .ref p10]) pl = some (.lst [va, va, .ref p6, v8, .ref p10]) := upd_same
    have sB : Same HA (upd HA pl (.lst [va, va, .ref p6, v8, .ref p10])) := same1 npl
    generalize upd HA pl (.lst [va, va, .ref p6, v8, .ref p10]) = HB at *
    have hhB : HandAt HB h (n + 1 + 1 + 1) := by walk_at "um"
    have tsB : TQ HB vs 31 zs' := by walk_at "u"
    have kB : Kp h H HB := by walk_at "k"
    clear t3 t6 t7 t8 t10 s3 s6 s8 s10 sB k9 hh9 hh2 ts ta tb tq2 hl2 kA np6 np7 np10 npl hq3 r3 r8 tM
    walk_at "y"
    refine ⟨Nat.le_of_ble_eq_true rfl, Nat.le_of_ble_eq_true rfl, fun i1 vx HC hx hhC kC => ?_⟩
    obtain ⟨zx, tx⟩ := all vx (List.mem_of_getElem? hx)
    walk_at "y"
    intro v z HD sD tD _
    exact kk v z HD (by walk_at "um") (by walk_at "k") (by walk_at "um")
theorem ok_law {P : Program} {w : World} {K : PySem.W.Frag} {mg : Str → Option Value} {base : Heap} {φ : Fds} (T : Txt K mg φ) : FnOk P w K mg base CX0 9 (He.fAd K ("law", none)) φ.law p_law (sp_law K) := by
  obtain ⟨_, B0v, B0⟩ := b_l_hand_2 T
  obtain ⟨_, B1v, B1⟩ := b_l_grades_1 T
  obtain ⟨_, B2v, B2⟩ := b_l_marks_of_2 T
  obtain ⟨_, B3v, B3⟩ := b_l_chart_2 T
  obtain ⟨_, B4v, B4⟩ := b_Measure_init_3 T
  obtain ⟨_, B5v, B5⟩ := b_Grid_init_4 T
  obtain ⟨_, B6v, B6⟩ := b_l_ladder_2 T
  obtain ⟨_, B7v, B7⟩ := b_l_near_2 T
  obtain ⟨_, B8v, B8⟩ := b_l_size_3 T
  obtain ⟨_, B9v, B9⟩ := b_l_take_2 T
  obtain ⟨_, B10v, B10⟩ := b_l_sum_2 T
  obtain ⟨_, B11v, B11⟩ := b_l_measures_1 T
  obtain ⟨_, B12v, B12⟩ := b_l_own_3 T
  obtain ⟨_, B13v, B13⟩ := b_l_same_2 T
  obtain ⟨_, B14⟩ := b_Grid_own_1_foot T
  obtain ⟨_, B15v, B15⟩ := b_Grid_own_2 T
  refine T.f_law.ok sc_law (fun vs H Q E h => ?_) (fun cdv A outer s H vs Q E hr h => ?_)
  · obtain ⟨a, ns, rfl, hS, hlen, kk⟩ := h; rfl
  · obtain ⟨a, ns, rfl, hS, hlen, kk⟩ := h
    refine ⟨_, PSs.nox (pss_cons (ps_for PassesOwn.never rfl (pi_range1 rfl T.z_range (pa_cons (pe_callB (id := "max") (call_max2 rfl) (by rfl) T.z_max (by decide +kernel) (pa_cons pe_int (pa_cons (pe_callB (id := "min") (call_min2 rfl) (by rfl) T.z_min (by decide +kernel) (pa_cons pe_int (pa_cons (pe_callB (id := "len") (lenS (K := K)) (by rfl) T.z_len PySem.boot_len (pa_cons (pv 0) pa_nil)) pa_nil))) pa_nil))) pa_nil)) (pg_name (i := 1) sc_law.nd rfl (Or.inl rfl))
      (pss_cons (ps_set (i := 2) sc_law.nd rfl (Or.inl rfl) (pe_call (ok_l_hand (K := K) T) (hr.mono (by decide)) rfl T.g_l_hand T.f_l_hand.kp B0 B0v pass0 (pa_cons (pv 0) (pa_cons (pv 1) pa_nil))))
      (pss_cons (ps_set (i := 3) sc_law.nd rfl (Or.inl rfl) (pe_lst (pa_cons (pe_call (ok_l_marks_of (K := K) T) (hr.mono (by decide)) rfl T.g_l_marks_of T.f_l_marks_of.kp B2 B2v pass0 (pa_cons (pv 2) (pa_cons pe_int pa_nil))) (pa_cons (pe_call (ok_l_marks_of (K := K) T) (hr.mono (by decide)) rfl T.g_l_marks_of T.f_l_marks_of.kp B2 B2v pass0 (pa_cons (pv 2) (pa_cons pe_int pa_nil))) (pa_cons (pe_call (ok_l_grades (K := K) T) (hr.mono (by decide)) rfl T.g_l_grades T.f_l_grades.kp B1 B1v pass0 (pa_cons (pv 2) pa_nil)) pa_nil)))))
      (pss_cons (ps_set (i := 4) sc_law.nd rfl (Or.inl rfl) (pe_lst (pa_cons (pe_call (ok_l_chart (K := K) T) (hr.mono (by decide)) rfl T.g_l_chart T.f_l_chart.kp B3 B3v pass0 (pa_cons (pv 2) (pa_cons (pe_ix (ixl (K := K)) (pv 3) pe_int (fun _ _ => rfl)) pa_nil))) (pa_cons (pe_call (ok_l_chart (K := K) T) (hr.mono (by decide)) rfl T.g_l_chart T.f_l_chart.kp B3 B3v pass0 (pa_cons (pv 2) (pa_cons (pe_ix (ixl (K := K)) (pv 3) pe_int (fun _ _ => rfl)) pa_nil))) pa_nil))))
      (pss_cons (ps_set (i := 5) sc_law.nd rfl (Or.inl rfl) (pe_make T.mk_Measure (ok_Measure_init (K := K) T) (hr.mono (by decide)) rfl T.g_Measure B4 B4v pass0 (pa_cons (pe_ix (ixt (K := K)) (pe_ix (ixl (K := K)) (pv 3) pe_int (fun _ _ => rfl)) pe_int (fun _ _ => rfl)) (pa_cons (pe_ix (ixt (K := K)) (pe_ix (ixl (K := K)) (pv 3) pe_int (fun _ _ => rfl)) pe_int (fun _ _ => rfl)) pa_nil))))
      (pss_cons (ps_set (i := 6) sc_law.nd rfl (Or.inl rfl) (pe_make T.mk_Grid (ok_Grid_init (K := K) T) (hr.mono (by decide)) rfl T.g_Grid B5 B5v pass0 (pa_cons (pe_call (ok_l_ladder (K := K) T) (hr.mono (by decide)) rfl T.g_l_ladder T.f_l_ladder.kp B6 B6v pass0 (pa_cons (pe_ix (ixl (K := K)) (pv 3) pe_int (fun _ _ => rfl)) (pa_cons (pe_ix (ixl (K := K)) (pv 4) pe_int (fun _ _ => rfl)) pa_nil))) (pa_cons (pe_call (ok_l_ladder (K := K) T) (hr.mono (by decide)) rfl T.g_l_ladder T.f_l_ladder.kp B6 B6v pass0 (pa_cons (pe_ix (ixl (K := K)) (pv 3) pe_int (fun _ _ => rfl)) (pa_cons (pe_ix (ixl (K := K)) (pv 4) pe_int (fun _ _ => rfl)) pa_nil))) (pa_cons (pv 5) pa_nil)))))
      (pss_one (ps_cut (ps_for PassesOwn.never rfl (pi_range1 rfl T.z_range (pa_cons pe_int pa_nil)) (pg_name (i := 7) sc_law.nd rfl (Or.inl rfl))
      (pss_cons (ps_cut (ps_par (i := 8) (j := 9) rfl sc_law.nd rfl rfl (by decide) rfl rfl (pa_cons (pe_call (ok_l_near (K := K) T) (hr.mono (by decide)) rfl T.g_l_near T.f_l_near.kp B7 B7v pass0 (pa_cons (pv 2) (pa_cons (pe_ix (ixl (K := K)) (pv 3) pe_int (fun _ _ => rfl)) pa_nil))) (pa_cons (pe_call (ok_l_near (K := K) T) (hr.mono (by decide)) rfl T.g_l_near T.f_l_near.kp B7 B7v pass0 (pa_cons (pv 2) (pa_cons (pe_ix (ixl (K := K)) (pv 3) pe_int (fun _ _ => rfl)) pa_nil))) pa_nil)) (by rfl)))
      (pss_cons (ps_cut (ps_set (i := 10) sc_law.nd rfl (Or.inl rfl) (pe_call (ok_l_size (K := K) T) (hr.mono (by decide)) rfl T.g_l_size T.f_l_size.kp B8 B8v pass0 (pa_cons (pe_ix (ixl (K := K)) (pv 3) pe_int (fun _ _ => rfl)) (pa_cons (pe_ix (ixl (K := K)) (pv 4) pe_int (fun _ _ => rfl)) (pa_cons (pv 8) pa_nil))))))
      (pss_cons (ps_cut (ps_if (PW.pt (pw_and (pt_cmpR op_notN (pv 10) pe_non (nomark _)) (pw_and1 (pt_cmpR op_gt (pe_call (ok_l_take (K := K) T) (hr.mono (by decide)) rfl T.g_l_take T.f_l_take.kp B9 B9v pass0 (pa_cons (pv 2) (pa_cons pe_int pa_nil))) pe_int (nomark _)))))
      (pss_one (ps_set (i := 9) sc_law.nd rfl (Or.inl rfl) (pe_call (ok_l_sum (K := K) T) (hr.mono (by decide)) rfl T.g_l_sum T.f_l_sum.kp B10 B10v pass0 (pa_cons (pv 9) (pa_cons (pe_tup (pa_cons (pe_op op_mulA (pv 10) (pe_ix (ixt (K := K)) (pe_ix (ixl (K := K)) (pv 3) pe_int (fun _ _ => rfl)) pe_int (fun _ _ => rfl))) (pa_cons (pe_ix (ixt (K := K)) (pe_ix (ixl (K := K)) (pv 3) pe_int (fun _ _ => rfl)) pe_int (fun _ _ => rfl)) pa_nil))) pa_nil)))))
      pss_nil))
      (pss_cons (ps_cut (ps_par (i := 11) (j := 12) rfl sc_law.nd rfl rfl (by decide) rfl rfl (pa_cons (pe_call (ok_l_own (K := K) T) (hr.mono (by decide)) rfl T.g_l_own T.f_l_own.kp B12 B12v pass0 (pa_cons (pv 3) (pa_cons (pv 4) (pa_cons (pe_tup (pa_cons (pv 8) (pa_cons (pv 9) pa_nil))) pa_nil)))) (pa_cons (pe_call (ok_l_measures (K := K) T) (hr.mono (by decide)) rfl T.g_l_measures T.f_l_measures.kp B11 B11v pass0 (pa_cons (pe_lst (pa_cons (pv 8) (pa_cons (pv 9) pa_nil))) pa_nil)) pa_nil)) (by rfl)))
      (pss_one (ps_if (PW.pt (pw_or (pt_not (pt_val (pe_call (ok_l_same (K := K) T) (hr.mono (by decide)) rfl T.g_l_same T.f_l_same.kp B13 B13v pass0 (pa_cons (pe_meth (pv 6) T.cl_Grid T.me_Grid_own (ok_Grid_own (K := K) T) (hr.mono (by decide)) B15 B15v pass0 (pa_cons (pv 12) pa_nil)) (pa_cons (pv 11) pa_nil))))) (pw_or1 (pt_not (pt_val (pe_call (ok_l_same (K := K) T) (hr.mono (by decide)) rfl T.g_l_same T.f_l_same.kp B13 B13v pass0 (pa_cons (pe_methK0 (pv 6) T.cl_Grid T.me_Grid_own (ok_Grid_own (K := K) T) (hr.mono (by decide)) B14 pass0 (pk_cons (pv 12) pk_nil)) (pa_cons (pv 11) pa_nil))))))))
      (pss_one (ps_ret pe_bl))
      pss_nil)))))))))))))))
      (pss_one (ps_ret pe_bl))), ?_⟩
    walk_at "w"
    refine for_range (fun i σ H' => (∃ v1 v2 v3 v4 v5 v6 v7 v8 v9 v10 v11 v12, σ = [some (.ref a), v1, v2, v3, v4, v5, v6, v7, v8, v9, v10, v11, v12]) ∧ Same H H') ?_ ?_ ?_
    · exact ⟨⟨_, _, _, _, _, _, _, _, _, _, _, _, rfl⟩, fun _ _ z => z⟩
    · rintro i σ H1 hi ⟨⟨v1, v2, v3, v4, v5, v6, v7, v8, v9, v10, v11, v12, rfl⟩, s1⟩
      have hi4 : i < 3 := by
        refine Nat.lt_of_lt_of_le hi ?_
        split <;> split <;> omega
      clear hi
      walk_at "w"
      refine ⟨ns, i, by show [V.ref a, V.int (0 + (i : Int))] = _; rw [Int.zero_add], s1.seq hS, by omega, fun h H3 nh s3 hh => ?_⟩
      walk_at "w"
      refine ⟨by decide, by decide, fun l1 us zs H4 hh4 k4 nl1 hl1 tq1 l10 l11 ri1 => ?_⟩
      replace l11 : zs.length ≤ 8 := l11
      replace tq1 : Tqs H4 180 us zs := tq1
      walk_at "w"
      refine ⟨by decide, by decide, fun l2 ws ys H5 hh5 k5 nl2 hl2 tq2 l20 l21 ri2 => ?_⟩
      replace l21 : ys.length ≤ 8 := l21
      replace tq2 : Tqs H5 180 ws ys := tq2
      walk_at "w"
      intro vg g H6 hh6 k6 tg
      obtain ⟨qg, rfl, hqg, pg, g1, g2⟩ := tg
      walk_at "w"
      intro ps nps
      have s7 : Same H6 (upd H6 ps (.lst [.ref l1, .ref l2, .ref qg])) := same1 nps
      have hps : upd H6 ps (.lst [.ref l1, .ref l2, .ref qg]) ps = some (.lst [.ref l1, .ref l2, .ref qg]) := upd_same
      have npsh := hh6.ne nps
      generalize upd H6 ps (.lst [.ref l1, .ref l2, .ref qg]) = H7 at *
      have hl1' : H7 l1 = some (.lst us) := by walk_at "u"
      have hl2' : H7 l2 = some (.lst ws) := by walk_at "u"
      have tq1' : Tqs H7 180 us zs := by walk_at "u"
      have tq2' : Tqs H7 180 ws ys := by walk_at "u"
      have hqg' : H7 qg = some (.tup [.int g.1, .int g.2]) := by walk_at "u"
      have hh7 := hh6.same s7
      have S7 : Same H1 H7 := by walk_at "s"
      have SD : SidesAt H7 h ps 180 zs ys g := ⟨⟨l1, l2, .ref qg, us, ws, hps, hl1', hl2', tq1', tq2', ⟨qg, rfl, hqg', pg, g1, g2⟩, npsh, nl1, nl2⟩, l10, l11, l20, l21⟩
      clear hl1 hl2 tq1 tq2 hqg hh hh4 hh5 hh6 s3 k4 k5 k6 s7 nps
      walk_at "y"
      intro c1 r1 lo1 hi1 H8 hh8 k8 C1
      replace C1 : ChartAt H8 c1 220 r1 lo1 hi1 := C1
      walk_at "y"
      intro c2 r2 lo2 hi2 H9 hh9 k9 C2
      replace C2 : ChartAt H9 c2 220 r2 lo2 hi2 := C2
      walk_at "y"
      intro pc npc
      have s10 : Same H9 (upd H9 pc (.lst [.ref c1, .ref c2])) := same1 npc
      have hpc : upd H9 pc (.lst [.ref c1, .ref c2]) pc = some (.lst [.ref c1, .ref c2]) := upd_same
      have npch : pc ≠ h := hh9.ne npc
      generalize upd H9 pc (.lst [.ref c1, .ref c2]) = HA at *
      have mk := fun (Hx : Hp) (Qa : Addr → Hp → Prop) (E : XK) => @q_made (He.ga K "Measure") Hx Qa E 20 g.1 g.2 pg g1 g2 (by decide) (by decide)
      clear g1 g2
      walk_at "y"
      refine mk _ _ _ fun qb HB sB ab => ?_
      have hl1B : HB l1 = some (.lst us) := by walk_at "u"
      have hl2B : HB l2 = some (.lst ws) := by walk_at "u"
      have tq1B : Tqs HB 180 us zs := by walk_at "u"
      have tq2B : Tqs HB 180 ws ys := by walk_at "u"
      have SDB : SidesAt HB h ps 180 zs ys g := by walk_at "u"
      have hpsB : HB ps = some (.lst [.ref l1, .ref l2, .ref qg]) := by walk_at "u"
      have hpcB : HB pc = some (.lst [.ref c1, .ref c2]) := by walk_at "u"
      have C1B : ChartAt HB c1 220 r1 lo1 hi1 := by walk_at "u"
      have C2B : ChartAt HB c2 220 r2 lo2 hi2 := by walk_at "u"
      have hhB : HandAt HB h 200 := by walk_at "um"
      have SB : Same H1 HB := by walk_at "s"
      clear hl1' hl2' tq1' tq2' hqg' hh7 S7 SD hps hpc C1 C2 hh8 k8 hh9 k9 npc s10 sB mk
      walk_at "y"
      intro L1 HC sC A1
      replace A1 : LadAt K (He.ga K "Measure") (He.ga K "Ladder") HC L1 220 zs r1 lo1 hi1 := A1
      walk_at "y"
      intro L2' HD sD A2
      replace A2 : LadAt K (He.ga K "Measure") (He.ga K "Ladder") HD L2' 220 ys r2 lo2 hi2 := A2
      walk_at "y"
      refine grd_made (k := 220) (j := 20) (e := some g) (by walk_at "u") (by walk_at "u") ⟨qb, rfl, by walk_at "u"⟩ (by decide) (by decide) fun pgr HE _ sE AG => ?_
      replace AG : GrdAt K (He.ga K "Measure") (He.ga K "Ladder") (He.ga K "Grid") HE pgr 20 L1 L2' g := AG
      have G0 : G48 K (He.ga K "Measure") (He.ga K "Ladder") (He.ga K "Grid") HE h ps pc pgr c1 c2 L1 L2' zs ys g r1 lo1 hi1 r2 lo2 hi2 := ⟨by walk_at "u", by walk_at "u", npch, by walk_at "u", by walk_at "u", by walk_at "u", by walk_at "u", AG⟩
      have hhE : HandAt HE h 200 := by walk_at "u"
      have SE : Same H1 HE := by walk_at "s"
      clear hl1B hl2B tq1B tq2B SDB hpsB hpcB C1B C2B hhB SB sC sD sE A1 A2 AG ab
      refine ⟨fun σ' H' => (∃ v7 v8 v9 v10 v11 v12, σ' = [some (.ref a), some (.int (0 + (i : Int))), some (.ref h), some (.ref ps), some (.ref pc), some (.ref qb), some (.ref pgr), v7, v8, v9, v10, v11, v12]) ∧ Kp h HE H', ?body, ?after⟩
      case after =>
        rintro σ' H' ⟨⟨v7, v8, v9, v10, v11, v12, rfl⟩, kE⟩
        exact ⟨⟨_, _, _, _, _, _, _, _, _, _, _, _, rfl⟩, s1.trans (SE.ofKp nh kE)⟩
      clear SE s1 hS kk
      walk_at "w"
      refine for_range (fun t σ H' => (∃ v7 v8 v9 v10 v11 v12, σ = [some (.ref a), some (.int (0 + (i : Int))), some (.ref h), some (.ref ps), some (.ref pc), some (.ref qb), some (.ref pgr), v7, v8, v9, v10, v11, v12]) ∧ HandAt H' h (200 + 20 * t) ∧ Kp h HE H') ⟨⟨_, _, _, _, _, _, rfl⟩, hhE, Kp.refl _ _⟩ ?_ ?_
      · rintro t σ HF ht ⟨⟨v7, v8, v9, v10, v11, v12, rfl⟩, hhF, kF⟩
        have ht8 : t < 10 := ht
        have G := G0.kp hhE kF
        clear G0 hhE
        obtain ⟨SD, hpc, npc, C1, C2, A1, A2, AG⟩ := G
        have SD0 := SD
        obtain ⟨⟨l1, l2, vg, us, ws, hps, hl1, hl2, tq1, tq2, ⟨qg, rfl, hqg, pg, g1, g2⟩, nps, nl1, nl2⟩, l10, l11, l20, l21⟩ := SD
        obtain ⟨J1, eJ⟩ : ∃ J : L2.St → Hp → Prop, J = fun σ' H' => ∃ (vl vb : V) (xl xb : Q2), σ' = [some (.ref a), some (.int (0 + (i : Int))), some (.ref h), some (.ref ps), some (.ref pc), some (.ref qb), some (.ref pgr), some (.int (0 + (t : Int))), some vl, some vb, v10, v11, v12] ∧ HandAt H' h (200 + 20 * t + 8) ∧ Kp h HF H' ∧ TQ H' vl 430 xl ∧ TQ H' vb 430 xb := ⟨_, rfl⟩
        refine ⟨J1, ?_, ?_⟩
        · clear C1 C2 A1 A2 AG hpc npc SD0 hqg pg g1 g2 ri1 ri2 kF
          walk_at "w"
          refine ⟨zs, rfl, hhF, by omega, nl1, hl1, tq1, by decide, by decide, l10, by omega, fun vl xl HG hhG kG tl => ?_⟩
          have hpsG := kG _ _ hps nps
          have hl2G := kG _ _ hl2 nl2
          have tq2G := tq2.kp hhF kG
          clear hl1 hl2 tq1 tq2 hps hhF
          walk_at "w"
          refine ⟨ys, rfl, hhG, by omega, nl2, hl2G, tq2G, by decide, by decide, l20, by omega, fun vb xb HH hhH kH tb => ?_⟩
          refine ⟨_, _, rfl, ?_⟩
          subst eJ
          exact ⟨vl, vb, xl, xb, rfl, hhH.mono (by omega), kG.trans kH, (tl.mono (by decide)).kp hhG kH, tb.mono (by decide)⟩
        subst eJ
        rintro σ' HH ⟨vl, vb, xl, xb, rfl, hhH, kH, tl, tb⟩
        obtain ⟨J2, eJ⟩ : ∃ J : L2.St → Hp → Prop, J = fun σ' H' => σ' = [some (.ref a), some (.int (0 + (i : Int))), some (.ref h), some (.ref ps), some (.ref pc), some (.ref qb), some (.ref pgr), some (.int (0 + (t : Int))), some vl, some vb, some (optI (sizeQ zs r1 lo1 hi1 xl)), v11, v12] ∧ Same HH H' := ⟨_, rfl⟩
        refine ⟨J2, ?_, ?_⟩
        · have hpsH := kH _ _ hps nps
          have hpcH := kH _ _ hpc npc
          have hl1H := kH _ _ hl1 nl1
          have tq1H := tq1.kp hhF kH
          have C1H := C1.kp hhF kH
          clear C1 C2 A1 A2 AG hpc SD0 hqg pg g1 g2 ri2 kF hps hl1 hl2 tq1 tq2 hhF
          refine ⟨_, rfl, ps, _, _, _, rfl, rfl, SqL.of hpsH, rfl, _, rfl, pc, _, _, _, rfl, rfl, SqL.of hpcH, rfl, _, rfl, l1, c1, vl, 180, 220, 430, us, zs, r1, lo1, hi1, xl, rfl, hl1H, tq1H, C1H, tl, by decide, by decide, by decide, by decide, by decide, by decide, l10, by omega, ri1, fun HI sI => ?_⟩
          subst eJ
          exact ⟨rfl, sI⟩
        subst eJ
        rintro σ' HI ⟨rfl, sI⟩
        obtain ⟨J3, eJ⟩ : ∃ J : L2.St → Hp → Prop, J = fun σ' H' => ∃ (vb' : V) (xb' : Q2) (v10' : V), σ' = [some (.ref a), some (.int (0 + (i : Int))), some (.ref h), some (.ref ps), some (.ref pc), some (.ref qb), some (.ref pgr), some (.int (0 + (t : Int))), some vl, some vb', some v10', v11, v12] ∧ HandAt H' h (200 + 20 * t + 9) ∧ Kp h HI H' ∧ TQ H' vb' 460 xb' := ⟨_, rfl⟩
        refine ⟨J3, ?_, ?_⟩
        · have hpsI := sI _ _ (kH _ _ hps nps)
          have hqgI := sI _ _ (kH.get hhF hqg rfl)
          have hhI := hhH.same sI
          have tbI := tb.same sI
          clear C1 C2 A1 A2 AG hpc npc SD0 ri1 ri2 kF hps hl1 hl2 tq1 tq2 hqg hhH tb tl kH hhF sI
          cases e : sizeQ zs r1 lo1 hi1 xl with
          | none =>
            walk_at "y"
            subst eJ
            exact ⟨vb, xb, _, rfl, hhI.mono (by omega), Kp.refl _ _, tbI.mono (by decide)⟩
          | some i5 =>
            have hi5 := sizeQ_lt e
            have si : Sz 5 ((i5 : Nat) : Int) := by
              show ((i5 : Nat) : Int).natAbs < 2 ^ 5
              omega
            have cm := si.cmul g1 (by decide) (by decide) (by decide)
            walk_at "y"
            intro d HJ d0 d1 hhJ kJ
            have hpsJ := kJ _ _ hpsI nps
            have hqgJ := kJ.get hhI hqgI rfl
            have tbJ := tbI.kp hhI kJ
            walk_at "y"
            refine ite2 (fun e6 => ?_) (fun e6 => ?_)
            · walk_at "y"
              intro pn npn
              have sN : Same HJ (upd HJ pn (.tup [.int ((i5 : Int) * g.1), .int g.2])) := same1 npn
              refine ⟨vb, .ref pn, 430, 25, xb, ((i5 : Int) * g.1, g.2), rfl, tbJ.same sN, TQ.mk upd_same pg (si.mul g1) (g2.mono (by decide)), by decide, by decide, by decide, fun v z HK sK tK _ => ?_⟩
              subst eJ
              exact ⟨v, z, _, rfl, ((hhJ.same sN).same sK).mono (by omega), kJ.trans (Kp.same (sN.trans sK)), tK.mono (by decide)⟩
            · subst eJ
              exact ⟨vb, xb, _, rfl, hhJ.mono (by omega), kJ, tbJ.mono (by decide)⟩
        subst eJ
        rintro σ' HK ⟨vb', xb', v10', rfl, hhK, kK, tb'⟩
        have tl' : TQ HK vl 460 xl := ((tl.same sI).kp (hhH.same sI) kK).mono (by decide)
        have kFK : Kp h HF HK := (kH.trans (Kp.same sI)).trans kK
        replace SD0 := SD0.kp hhF kFK
        replace hps := kFK _ _ hps nps
        replace hpc := kFK _ _ hpc npc
        replace C1 := C1.kp hhF kFK
        replace C2 := C2.kp hhF kFK
        replace A1 := A1.kp hhF kFK
        replace A2 := A2.kp hhF kFK
        replace AG := AG.kp hhF kFK
        have kEK := kF.trans kFK
        clear hl1 hl2 tq1 tq2 hqg g1 g2 tl tb hhH kH kF kK hhF sI kFK
        obtain ⟨J4, eJ⟩ : ∃ J : L2.St → Hp → Prop, J = fun σ' H' => ∃ (vd : V) (TM q1 q2 : Addr), σ' = [some (.ref a), some (.int (0 + (i : Int))), some (.ref h), some (.ref ps), some (.ref pc), some (.ref qb), some (.ref pgr), some (.int (0 + (t : Int))), some vl, some vb', some v10', some vd, some (.ref TM)] ∧ Same HK H' ∧ OwnV H' vd (ownQ zs r1 lo1 hi1 ys r2 lo2 hi2 g xl xb') ∧ H' TM = some (.tup [.ref q1, .ref q2]) ∧ QAt (He.ga K "Measure") H' q1 460 xl ∧ QAt (He.ga K "Measure") H' q2 460 xb' := ⟨_, rfl⟩
        refine ⟨J4, ?_, ?_⟩
        · clear A1 A2 AG kEK hhK
          walk_at "y"
          intro pf npf
          have sN : Same HK (upd HK pf (.tup [vl, vb'])) := same1 npf
          refine ⟨h, ps, pc, c1, c2, pf, vl, vb', 180, 220, 460, zs, ys, r1, r2, lo1, hi1, lo2, hi2, g, xl, xb', rfl, SD0.same sN, sN _ _ hpc, C1.same sN, C2.same sN, SqT.of upd_same, tl'.same sN, tb'.same sN, ri1, ri2, by decide, by decide, by decide, by decide, by decide, by decide, fun vd HL sL OV => ?_⟩
          replace sL := sN.trans sL
          have tlL := tl'.same sL
          have tbL := tb'.same sL
          clear SD0 C1 C2 hps hpc tl' tb' sN
          walk_at "y"
          intro pl npl
          have sM : Same HL (upd HL pl (.lst [vl, vb'])) := same1 npl
          refine ⟨pl, 460, [vl, vb'], [xl, xb'], rfl, .inl (SqL.of upd_same), (Tqs.nil.cons (tbL.same sM)).cons (tlL.same sM), by decide, by decide, Nat.le_of_ble_eq_true rfl, fun TM ms HM sP hTM hm => ?_⟩
          obtain ⟨q1, e1, a1⟩ := hm.at (i := 0) (z := xl) rfl
          obtain ⟨q2, e2, a2⟩ := hm.at (i := 1) (z := xb') rfl
          have lp : ms.length = 2 := hm.len
          match ms, lp with
          | [y1, y2], _ =>
            cases e1; cases e2
            refine ⟨_, _, rfl, ?_⟩
            subst eJ
            exact ⟨vd, TM, q1, q2, rfl, (sL.trans sM).trans sP, OwnV.s (sM.trans sP) OV, hTM, a1, a2⟩
        subst eJ
        rintro σ' HL ⟨vd, TM, q1, q2, rfl, sL, OV, hTM, a1, a2⟩
        replace A1 := A1.same sL
        replace A2 := A2.same sL
        replace AG := AG.same sL
        have hhL := hhK.same sL
        have kEL := kEK.trans (Kp.same sL)
        clear SD0 hps hpc C1 C2 tl' tb' hhK kEK sL ri1 ri2
        obtain ⟨dg, qq, hg, _⟩ := id AG.ob
        have gno : (gf (.ref L1) (.ref L2') (.ref qq)).lookup ("own" : Str) = none := gf_no _ _ _ (by decide +kernel) (by decide +kernel) (by decide +kernel)
        walk_at "y"
        intro u1 HM sM O1
        have hgM := sM _ _ hg
        have OVM := OwnV.s sM OV
        have AGM := AG.same sM
        have A1M := A1.same sM
        have A2M := A2.same sM
        have hTMM := sM _ _ hTM
        have a1M := a1.same sM
        have a2M := a2.same sM
        clear hg AG A1 A2 hTM a1 a2 OV
        walk_at "y"
        refine ⟨OwnV.alike O1 OVM, fun HN sN => ?_⟩
        have hgN := sN _ _ hgM
        have OVN := OwnV.s sN OVM
        have hTMN := sN _ _ hTMM
        walk_at "y"
        intro u2 HO' sO O2
        walk_at "y"
        refine ⟨OwnV.alike O2 (OwnV.s sO OVN), fun HP sP => ?_⟩
        walk_at "y"
        have sA := ((sM.trans sN).trans sO).trans sP
        exact ⟨⟨_, _, _, _, _, _, rfl⟩, (hhL.same sA).mono (by omega), kEL.trans (Kp.same sA)⟩
      · rintro σ HX ⟨⟨v7, v8, v9, v10, v11, v12, rfl⟩, hhX, kX⟩
        exact ⟨⟨_, _, _, _, _, _, rfl⟩, kX⟩
    · rintro σ H1 ⟨⟨v1, v2, v3, v4, v5, v6, v7, v8, v9, v10, v11, v12, rfl⟩, s1⟩
      walk_at "w"
      exact kk _
end K48

open PySem PySem.W PySem.Calls PyProof.Rows
set_option maxRecDepth 100000 in
set_option maxHeartbeats 0 in
theorem PySem.Challenge.cw_sizeladders_k48_own_pairs_holds : PySem.Challenge.rw_sizeladders_k48_own_pairs.Holds := by
  exact K48.pre fun T => K48.ok_law T
