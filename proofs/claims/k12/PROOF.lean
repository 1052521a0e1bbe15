import PyProof.Rows.All
import Wide.All
import OpenK.AllK
import Wide.FinOn
import KE.KStateDown
import HandS.ForMost
import HandS.More
import HandS.WordsExc
import HandS.Defaults
import HandS.MakeKw
import HandS.MakeKwOnly
import HandS.Wide
import HandS.IsInst
import HandS.Flow
import HandS.Style
import HandS.OwnEq
import HandS.Head0
import HandS.Head1
import HandS.Head2
import HandS.HeadEnd
import HandS.HeadHook1
import HandS.HeadHook2
import HandS.ExcIs
import HandS.ExcOwn
import HandS.TryOnly
import HandS.ExcBuiltin
import HandS.FStr
import HandS.Text
import PySem.Challenge.RW_sizeladders_k12_whole_points_of_stretche
set_option Elab.async false
set_option linter.all false
set_option maxRecDepth 100000
set_option maxHeartbeats 4000000
namespace My
open PySem PySem.Spec PyProof.Rows L2
/-! ### operators of great numbers -/
section
variable {X : Cx}
theorem op_fd : OpR X (binaryOp .FloorDiv) (rI (fun _ j => j ≠ 0 ∧ j.natAbs.log2 < 9000) fun i j => .int (i.fdiv j)) :=
  opI fun _ _ _ _ _ _ _ hc q => floordiv_int hc.1 q (.inl (PyProof.noPylong_of_log2 hc.2))
theorem op_mulA : OpR X (binaryOp .Mult) (rI (fun i j => CMul i j ∨ CMulW i j) fun i j => .int (i * j)) :=
  opI fun _ _ _ _ _ _ _ hc q => mul_int q (hc.elim (fun h => h.ok) (fun h => h.ok))
/-! ### cuts: what is wanted behind a piece, said by a word of one's own -/
def tCutS (t : TS) : TS := fun D σ H => ∃ J : L2.St → Hp → Prop, t { D with nx := J } σ H ∧ ∀ σ' H', J σ' H' → D.nx σ' H'
theorem ps_cut {st : Stmt} {t : TS} (h : PS X st t) : PS X st (tCutS t) := by
  refine ⟨fun pins s σ H D I hw => ?_⟩
  obtain ⟨J, h1, h2⟩ := hw
  refine thn (h.run pins s σ H _ I h1) fun f s' q => ?_
  cases f with
  | next => obtain ⟨σ', H', I', q'⟩ := q; exact ⟨σ', H', I', h2 _ _ q'⟩
  | brk => exact q
  | cont => exact q
  | ret u => exact q
def tCutE (t : TE) : TE := fun σ H Q => ∃ J : V → Hp → Prop, t σ H J ∧ ∀ v H', J v H' → Q v H'
theorem pe_cut {e : Expr} {t : TE} (h : PE X e t) : PE X e (tCutE t) := by
  refine ⟨fun pins s σ H Q I hw => ?_⟩
  obtain ⟨J, h1, h2⟩ := hw
  exact thn (h.run pins s σ H _ I h1) fun u s' ⟨v, H', I', r, q'⟩ => ⟨v, H', I', r, h2 _ _ q'⟩
def tCutT (t : TT) : TT := fun σ H Q => ∃ J : Bool → Hp → Prop, t σ H J ∧ ∀ v H', J v H' → Q v H'
theorem pt_cut {e : Expr} {t : TT} (h : PT X e t) : PT X e (tCutT t) := by
  refine ⟨fun pins s σ H Q I hw => ?_⟩
  obtain ⟨J, h1, h2⟩ := hw
  exact thn (h.run pins s σ H _ I h1) fun u s' ⟨H', I', q'⟩ => ⟨H', I', h2 _ _ q'⟩
/-! ### calls by keywords -/
variable {CX : CXT} {k n : Nat} {f C : Addr} {fd : FuncData} {ps ks : List Str} {sp : Sp} {E : XK} {x m : Str} {p pos apos : Pos} {o e : Expr} {es : List Expr} {kws : List Keyword} {ta : TE} {t tk : TA} {g : List Value → List Value → List Value} {gV : List V → List V → List V}
/-- f(k = v, ..) -/
theorem pe_callK0 (F : FnOk X.prog X.w X.K X.mg X.base CX k f fd ps sp) (hr : Room k X.A) (hg : Gl X x) (hm : X.mg x = some (.ref f)) (hk : PySem.W.keepIn X.K (.ref f) = true) (hb : KBn X.K fd ps 0 ks g gV) (hx : Passes CX X E)
    (hkw : PK X kws tk) (hall : (backToKw pos (keywordEach kws X.env)).all (·.1.isSome) = true := by rfl) (hks : (backToKw pos (keywordEach kws X.env)).filterMap (·.1) = ks := by rfl)
    (hdb : (x == ("__debug__" : Str)) = false := by decide) (hpl : ((backTo pos (starEach [] X.env)).any (·.1) || (backToKw pos (keywordEach kws X.env)).any (·.1.isNone)) = false := by rfl) :
    PE X (.Call (.Name x p) [] kws pos) (tCallN 0 ks.length sp gV E tNil tk) := by
  refine ⟨fun pins s σ H Q I h => ?_⟩
  refine wpAny_Call_Name_kw (ld_glob I hg hm ?_ hdb)
  refine PySem.W.callWith_KW0 (h₀ := X.base) I.ok.mod.kin hk hall ?_ hpl
  refine thn (hkw.run pos pins s σ H _ I h) fun ws s2 ⟨zs, H2, I2, rz, l1, l2, q2⟩ => ⟨I2.kIn, ?_⟩
  rw [hks]
  exact run_fnN (us := []) (vs := []) F hr hb hx I2 .nil rz rfl l2 q2
/-- o.m(e, .., k = v, ..) -/
def tMethN (C : Addr) (m : Str) (n l : Nat) (sp : Sp) (gV : List V → List V → List V) (E : XK) (ta : TE) (t tk : TA) : TE := fun σ H Q => ta σ H fun x H1 => ∃ a dx fs, x = .ref a ∧ H1 a = some (.ins C dx fs) ∧ fs.lookup m = none ∧
  t σ H1 fun vs H2 => tk σ H2 fun zs H3 => vs.length = n ∧ zs.length = l ∧ sp (gV (.ref a :: vs) zs) H3 Q E
theorem pe_methK {pl : Sem Bool} (he : PE X o ta) (c : Cls X.K C) (hm : Meth X.K C m f) (F : FnOk X.prog X.w X.K X.mg X.base CX k f fd ps sp) (hr : Room k X.A) (hb : KBn X.K fd ps (n + 1) ks g gV) (hx : Passes CX X E) (ha : PA X (e :: es) t) (hkw : PK X kws tk)
    (hall : (backToKw pos (keywordEach kws X.env)).all (·.1.isSome) = true := by rfl) (hks : (backToKw pos (keywordEach kws X.env)).filterMap (·.1) = ks := by rfl)
    (hst : starEach (e :: es) X.env = (false, eval e X.env) :: starEach es X.env := by rfl)
    (hpl : ((backTo pos (starEach (e :: es) X.env)).any (·.1) || (backToKw pos (keywordEach kws X.env)).any (·.1.isNone)) = false := by rfl)
    (ht : eval (.Call (.Attribute o m apos) (e :: es) kws pos) X.env = (do
      let ov ← eval o X.env
      standAt apos.atName
      let (f, first) ← holding [ov] (getMethod ov m pl)
      callWith pos f first (backTo pos (starEach (e :: es) X.env)) (backToKw pos (keywordEach kws X.env))) := by rfl) :
    PE X (.Call (.Attribute o m apos) (e :: es) kws pos) (tMethN C m n ks.length sp gV E ta t tk) := by
  refine ⟨fun pins s σ H Q I h => ?_⟩
  refine PySem.W.methodCall_KW (pl := pl) (thn (he.run pins s σ H _ I h) fun u s1 ⟨x, H1, I1, rx, a, dx, fs, ex, ea, l, q⟩ => ?_) ht
  subst ex
  obtain rfl : u = Value.ref a := rx
  refine getmeth_ok I1 ea c hm l ?_
  refine PySem.W.callWith_KW (first := [.ref a]) (h₀ := X.base) I.ok.mod.kin hm.kp hall (thn (ha.run pos pins s1 σ H1 _ I1 q) fun us s2 ⟨vs, H2, I2, r, q2⟩ => ?_) hpl hst
  refine thn (hkw.run pos pins s2 σ H2 _ I2 q2) fun ws s3 ⟨zs, H3, I3, rz, l1, l2, q3⟩ => ⟨I3.kIn, ?_⟩
  rw [hks]
  exact run_fnN (us := .ref a :: us) (vs := .ref a :: vs) F hr hb hx I3 (.cons rfl r) rz (congrArg Nat.succ l1) l2 q3
theorem pe_methK0 {pl : Sem Bool} (he : PE X o ta) (c : Cls X.K C) (hm : Meth X.K C m f) (F : FnOk X.prog X.w X.K X.mg X.base CX k f fd ps sp) (hr : Room k X.A) (hb : KBn X.K fd ps 1 ks g gV) (hx : Passes CX X E) (hkw : PK X kws tk)
    (hall : (backToKw pos (keywordEach kws X.env)).all (·.1.isSome) = true := by rfl) (hks : (backToKw pos (keywordEach kws X.env)).filterMap (·.1) = ks := by rfl)
    (hpl : ((backTo pos (starEach [] X.env)).any (·.1) || (backToKw pos (keywordEach kws X.env)).any (·.1.isNone)) = false := by rfl)
    (ht : eval (.Call (.Attribute o m apos) [] kws pos) X.env = (do
      let ov ← eval o X.env
      standAt apos.atName
      let (f, first) ← holding [ov] (getMethod ov m pl)
      callWith pos f first (backTo pos (starEach [] X.env)) (backToKw pos (keywordEach kws X.env))) := by rfl) :
    PE X (.Call (.Attribute o m apos) [] kws pos) (tMethN C m 0 ks.length sp gV E ta tNil tk) := by
  refine ⟨fun pins s σ H Q I h => ?_⟩
  refine PySem.W.methodCall_KW (pl := pl) (thn (he.run pins s σ H _ I h) fun u s1 ⟨x, H1, I1, rx, a, dx, fs, ex, ea, l, q⟩ => ?_) ht
  subst ex
  obtain rfl : u = Value.ref a := rx
  refine getmeth_ok I1 ea c hm l ?_
  refine PySem.W.callWith_KW0 (first := [.ref a]) (h₀ := X.base) I.ok.mod.kin hm.kp hall ?_ hpl
  refine thn (hkw.run pos pins s1 σ H1 _ I1 q) fun ws s3 ⟨zs, H3, I3, rz, l1, l2, q3⟩ => ⟨I3.kIn, ?_⟩
  rw [hks]
  exact run_fnN (us := [.ref a]) (vs := [.ref a]) F hr hb hx I3 (.cons rfl .nil) rz rfl l2 q3
end
theorem kb_none {K : PySem.W.Frag} {x qual : Str} {params : Arguments} {body : List Stmt} {scope : Scope} {kws : List (Str × V)} {f : Addr} {fd : FuncData} {ps : List Str} {n : Nat} {ks : List Str}
    (F : FunD K x qual params body scope [] kws f fd) (g : {α : Type} → List α → List α → List α)
    (hrel : ∀ {vs zs : List V} {us ws : List Value}, Vals vs us → Vals zs ws → Vals (g vs zs) (g us ws))
    (h : ∀ (kV doc pm : Value) (an : Option Addr) (cdv ct : Value) (us ws : List Value), us.length = n → ws.length = ks.length → bindArgs (PySem.W.fnOf x qual params body scope .none kV doc pm an cdv ct) ⟨us, ks.zip ws⟩ = pure (ps.zip (g us ws))) :
    KBn K fd ps n ks (fun us ws => g us ws) (fun vs zs => g vs zs) := by
  obtain ⟨oc, od, dV, kV, doc, pm, an, cdv, ct, osl, rfl, lk, hcd, hD, hK⟩ := F.ex
  rcases hD with ⟨_, rfl⟩ | ⟨e, _⟩
  · exact ⟨fun s us ws X l1 l2 => .of_eq (h kV doc pm an cdv ct us ws l1 l2), fun r1 r2 => hrel r1 r2⟩
  · exact absurd rfl e
/-! ### heaps -/
theorem up1 {H : Hp} {p x : Addr} {o u : HO} (hp : H p = none) (hx : H x = some o) : upd H p u x = some o := by
  rw [upd_ne (ne_of_none hx hp)]; exact hx
theorem same1 {H : Hp} {p : Addr} {u : HO} (hp : H p = none) : Same H (upd H p u) := fun _ _ e => up1 hp e
theorem _root_.L2.Same.sqt {K : PySem.W.Frag} {H H' : Hp} {a : Addr} {xs : List V} (e : Same H H') (h : SqT K H a xs) : SqT K H' a xs := by
  rcases h with (h | ⟨o, h⟩) | h
  · exact .inl (.inl (e _ _ h))
  · exact .inl (.inr ⟨o, e _ _ h⟩)
  · exact .inr h
/-- all stays but what stands at h -/
def Kp (h : Addr) (H H' : Hp) : Prop := ∀ b o, H b = some o → b ≠ h → H' b = some o
theorem Kp.refl (h : Addr) (H : Hp) : Kp h H H := fun _ _ e _ => e
theorem Kp.trans {h : Addr} {H H1 H2 : Hp} (a : Kp h H H1) (b : Kp h H1 H2) : Kp h H H2 := fun c o e n => b c o (a c o e n) n
theorem Kp.same {h : Addr} {H H1 : Hp} (a : Same H H1) : Kp h H H1 := fun c o e _ => a c o e
theorem Kp.up {h p : Addr} {H H1 : Hp} {u : HO} (a : Kp h H H1) (hp : H1 p = none) : Kp h H (upd H1 p u) := fun c o e n => up1 hp (a c o e n)
theorem Kp.set {h : Addr} {H H1 : Hp} {u : HO} (a : Kp h H H1) : Kp h H (upd H1 h u) := fun c o e n => by
  rw [upd_ne n]; exact a c o e n
/-- a list other than that at h, the script among them -/
theorem Kp.seq {K : PySem.W.Frag} {h a : Addr} {H H1 : Hp} {xs : List V} (k : Kp h H H1) (n : a ≠ h) (s : SqL K H a xs) : SqL K H1 a xs := by
  rcases s with (s | ⟨o, s⟩) | s
  · exact .inl (.inl (k _ _ s n))
  · exact .inl (.inr ⟨o, k _ _ s n⟩)
  · exact .inr s
/-! ### the hand: a list of three ints, drawn from -/
def HandAt (H : Hp) (h : Addr) (n : Nat) : Prop := ∃ a b c : Int, H h = some (.lst [.int a, .int b, .int c]) ∧ 0 ≤ a ∧ 0 ≤ b ∧ b < 4611686018427387904 ∧ 0 ≤ c ∧ c ≤ n
theorem HandAt.mono {H : Hp} {h : Addr} {n m : Nat} (a : HandAt H h n) (l : n ≤ m) : HandAt H h m := by
  obtain ⟨x, y, z, h1, h2, h3, h4, h5, h6⟩ := a
  exact ⟨x, y, z, h1, h2, h3, h4, h5, by omega⟩
theorem HandAt.same {H H' : Hp} {h : Addr} {n : Nat} (a : HandAt H h n) (s : Same H H') : HandAt H' h n := by
  obtain ⟨x, y, z, h1, h2⟩ := a
  exact ⟨x, y, z, s _ _ h1, h2⟩
theorem HandAt.up {H : Hp} {h p : Addr} {u : HO} {n : Nat} (a : HandAt H h n) (hp : H p = none) : HandAt (upd H p u) h n := a.same (same1 hp)
theorem HandAt.ne {H : Hp} {h p : Addr} {n : Nat} (a : HandAt H h n) (hp : H p = none) : p ≠ h := by
  obtain ⟨x, y, z, h1, _⟩ := a
  exact (ne_of_none h1 hp).symm
def notHand : HO → Bool
  | .lst _ => false
  | _ => true
theorem HandAt.apart {H : Hp} {h p : Addr} {o : HO} {n : Nat} (a : HandAt H h n) (hp : H p = some o) (ho : notHand o = true) : p ≠ h := by
  obtain ⟨x, y, z, h1, _⟩ := a
  exact ne_of hp h1 (by intro e; rw [e] at ho; cases ho)
def sp_take : Sp := fun vs H Q _ => ∃ (h : Addr) (n : Nat) (m : Int), vs = [.ref h, .int m] ∧ HandAt H h n ∧ n < 1000000 ∧ 0 < m ∧ m.natAbs.log2 < 9000 ∧
  ∀ (d : Int) (H' : Hp), 0 ≤ d → d < m → HandAt H' h (n + 1) → Kp h H H' → Q (.int d) H'
def sp_hand (K : PySem.W.Frag) : Sp := fun vs H Q _ => ∃ (a : Addr) (ns : List Int) (k : Nat), vs = [.ref a, .int k] ∧ SqL K H a (ns.map V.int) ∧ k ≤ 1000 ∧
  ∀ (p : Addr) (H' : Hp), H p = none → Same H H' → HandAt H' p 0 → Q (.ref p) H'
/-! ### numbers -/
abbrev Sz (k : Nat) (z : Int) : Prop := z.natAbs < 2 ^ k
theorem Sz.mono {a b : Nat} {z : Int} (h : Sz a z) (l : a ≤ b) : Sz b z := Nat.lt_of_lt_of_le h (Nat.pow_le_pow_right (by decide) l)
theorem Sz.mul {a b : Nat} {x y : Int} (h : Sz a x) (g : Sz b y) : Sz (a + b) (x * y) := wide_lt h g
theorem Sz.neg {a : Nat} {x : Int} (h : Sz a x) : Sz a (-x) := by
  show (-x).natAbs < 2 ^ a
  rw [Int.natAbs_neg]; exact h
theorem Sz.add {a : Nat} {x y : Int} (h : Sz a x) (g : Sz a y) : Sz (a + 1) (x + y) := by
  show (x + y).natAbs < 2 ^ (a + 1)
  have h1 : x.natAbs < 2 ^ a := h
  have h2 : y.natAbs < 2 ^ a := g
  rw [Nat.pow_succ]; omega
theorem Sz.sub {a : Nat} {x y : Int} (h : Sz a x) (g : Sz a y) : Sz (a + 1) (x - y) := by
  show (x - y).natAbs < 2 ^ (a + 1)
  have h1 : x.natAbs < 2 ^ a := h
  have h2 : y.natAbs < 2 ^ a := g
  rw [Nat.pow_succ]; omega
theorem Sz.le {a : Nat} {x y : Int} (h : Sz a x) (l : y.natAbs ≤ x.natAbs) : Sz a y := Nat.lt_of_le_of_lt l h
theorem Sz.cmul {a b : Nat} {x y : Int} (h : Sz a x) (g : Sz b y) (h0 : 0 < a) (h1 : 0 < b) (l : a + b ≤ 1000000) : CMul x y ∨ CMulW x y := .inr (wide_mul h g h0 h1 l)
theorem Sz.log {a : Nat} {x : Int} (h : Sz a x) (h0 : 0 < a) (l : a ≤ 9000) : x.natAbs.log2 < 9000 := Nat.lt_of_lt_of_le (PySem.Flt.log2_lt_of h0 h) l
theorem dI {i j : Int} : decide (V.int i = V.int j) = decide (i = j) := by
  rw [dec_int, Bool.beq_eq_decide_eq]
/-- t / u is a / b in lowest terms -/
structure Fr (t u a b : Int) : Prop where
  pos : 0 < u
  eq : t * b = a * u
  co : Int.gcd t u = 1
  lt : t.natAbs ≤ a.natAbs
  lu : u.natAbs ≤ b.natAbs
def sgn (b : Int) : Int := if 0 < b then 1 else -1
theorem gcd_step {g s : Int} (hs : 0 < s) (hg : 0 ≤ g) : Int.gcd s (g % s) = Int.gcd g s := by
  obtain ⟨m, rfl⟩ := Int.eq_ofNat_of_zero_le hg
  obtain ⟨n, rfl⟩ := Int.eq_ofNat_of_zero_le (Int.le_of_lt hs)
  show Nat.gcd n (m % n) = Nat.gcd m n
  rw [Nat.gcd_comm m n, Nat.gcd_comm n (m % n), ← Nat.gcd_rec]
theorem fr_mk {a b c : Int} (hb : b ≠ 0) (hc : c = sgn b * (Int.gcd a b : Int)) : c ≠ 0 ∧ c.natAbs ≤ b.natAbs ∧ Fr (a.fdiv c) (b.fdiv c) a b := by
  have g0 : 0 < Int.gcd a b := Int.gcd_pos_of_ne_zero_right a hb
  have gd : (Int.gcd a b : Int) ∣ a := Int.gcd_dvd_left ..
  have gb : (Int.gcd a b : Int) ∣ b := Int.gcd_dvd_right ..
  have hs : sgn b = 1 ∨ sgn b = -1 := by unfold sgn; split <;> simp
  have cd : c ∣ a := by
    rcases hs with e | e <;> rw [hc, e]
    · rw [Int.one_mul]; exact gd
    · rw [Int.neg_one_mul]; exact (Int.neg_dvd).mpr gd
  have cb : c ∣ b := by
    rcases hs with e | e <;> rw [hc, e]
    · rw [Int.one_mul]; exact gb
    · rw [Int.neg_one_mul]; exact (Int.neg_dvd).mpr gb
  have cn : c.natAbs = Int.gcd a b := by
    rcases hs with e | e <;> rw [hc, e]
    · rw [Int.one_mul, Int.natAbs_natCast]
    · rw [Int.neg_one_mul, Int.natAbs_neg, Int.natAbs_natCast]
  have c0 : c ≠ 0 := by
    intro e; rw [e] at cn; simp at cn; omega
  have ta : a.fdiv c * c = a := Int.fdiv_mul_cancel cd
  have tb : b.fdiv c * c = b := Int.fdiv_mul_cancel cb
  have c1 : 1 ≤ c.natAbs := by omega
  have na : a.natAbs = (a.fdiv c).natAbs * c.natAbs := by rw [← Int.natAbs_mul, ta]
  have nb : b.natAbs = (b.fdiv c).natAbs * c.natAbs := by rw [← Int.natAbs_mul, tb]
  refine ⟨c0, ?_, ?_, ?_, ?_, ?_, ?_⟩
  · rw [cn]
    exact Nat.le_of_dvd (by omega) (Int.gcd_dvd_natAbs_right a b)
  · rcases Int.lt_trichotomy b 0 with h | h | h
    · have e : sgn b = -1 := by unfold sgn; rw [if_neg (by omega)]
      have cneg : c < 0 := by rw [hc, e]; omega
      rcases Int.lt_or_le 0 (b.fdiv c) with z | z
      · exact z
      · have : 0 ≤ b.fdiv c * c := Int.mul_nonneg_of_nonpos_of_nonpos z (by omega)
        omega
    · exact absurd h hb
    · have e : sgn b = 1 := by unfold sgn; rw [if_pos h]
      have cpos : 0 < c := by rw [hc, e]; omega
      rcases Int.lt_or_le 0 (b.fdiv c) with z | z
      · exact z
      · have : b.fdiv c * c ≤ 0 := Int.mul_nonpos_of_nonpos_of_nonneg z (by omega)
        omega
  · have : a.fdiv c * (b.fdiv c * c) = a.fdiv c * c * b.fdiv c := by
      rw [Int.mul_assoc, Int.mul_comm c]
    rw [tb, ta] at this
    exact this
  · have e : Int.gcd a b = Int.gcd (a.fdiv c) (b.fdiv c) * c.natAbs := by
      have := Int.gcd_mul_right (a.fdiv c) c (b.fdiv c)
      rw [ta, tb] at this
      exact this
    rw [← cn] at e
    have e2 : 1 * c.natAbs = Int.gcd (a.fdiv c) (b.fdiv c) * c.natAbs := by rw [Nat.one_mul]; exact e
    exact (Nat.eq_of_mul_eq_mul_right (by omega) e2).symm
  · rw [na]; exact Nat.le_mul_of_pos_right _ (by omega)
  · rw [nb]; exact Nat.le_mul_of_pos_right _ (by omega)
/-! ### a Measure -/
def mf (t u : Int) : List (Str × V) := [("top", .int t), ("bottom", .int u)]
theorem ne_tb : ¬ (("top" : Str) = "bottom") := by decide +kernel
theorem mf_put (t u : Int) : putF "bottom" (.int u) (putF "top" (.int t) []) = mf t u := by
  show (if ("top" : Str) = "bottom" then [(("top" : Str), V.int u)] else (("top" : Str), V.int t) :: putF "bottom" (V.int u) []) = mf t u
  rw [if_neg ne_tb] <;> rfl
theorem mf_top (t u : Int) : (mf t u).lookup ("top" : Str) = some (.int t) := by
  rw [← mf_put, lookup_putF, if_neg ne_tb, lookup_putF, if_pos rfl]
theorem mf_bottom (t u : Int) : (mf t u).lookup ("bottom" : Str) = some (.int u) := by
  rw [← mf_put, lookup_putF, if_pos rfl]
theorem mf_no (t u : Int) {m : Str} (h1 : ¬ m = "top") (h2 : ¬ m = "bottom") : (mf t u).lookup m = none := by
  rw [← mf_put, lookup_putF, if_neg h2, lookup_putF, if_neg h1] <;> rfl
def MAt (C : Addr) (H : Hp) (p : Addr) (t u : Int) : Prop := ∃ dx, H p = some (.ins C dx (mf t u))
theorem MAt.same {C p : Addr} {H H' : Hp} {t u : Int} (m : MAt C H p t u) (s : Same H H') : MAt C H' p t u := by
  obtain ⟨dx, h⟩ := m; exact ⟨dx, s _ _ h⟩
theorem MAt.kp {C p h : Addr} {H H' : Hp} {t u : Int} {n : Nat} (m : MAt C H p t u) (hh : HandAt H h n) (s : Kp h H H') : MAt C H' p t u := by
  obtain ⟨dx, e⟩ := m; exact ⟨dx, s _ _ e (hh.apart e rfl)⟩
def sp_minit (C : Addr) : Sp := fun vs H Q _ => ∃ (p dx : Addr) (a b : Int), vs = [.ref p, .int a, .int b] ∧ H p = some (.ins C dx []) ∧ b ≠ 0 ∧ b.natAbs.log2 < 9000 ∧
  ∀ (t u : Int) (H' : Hp), Fr t u a b → H' p = some (.ins C dx (mf t u)) → (∀ c o, H c = some o → c ≠ p → H' c = some o) → Q .non H'
theorem made {C : Addr} {H : Hp} {Q : VK} {E : XK} {a b : Int} (hb : b ≠ 0) (hl : b.natAbs.log2 < 9000) (k : ∀ (p : Addr) (t u : Int) (H' : Hp), H p = none → Same H H' → MAt C H' p t u → Fr t u a b → Q (.ref p) H') :
    ∀ x dx, H x = none → H dx = none → dx ≠ x → sp_minit C [.ref x, .int a, .int b] (upd (upd H dx (.own x)) x (.ins C dx [])) (fun v H2 => v = .non ∧ Q (.ref x) H2) E := by
  intro x dx nx nd ne
  refine ⟨x, dx, a, b, rfl, upd_same, hb, hl, fun t u H' fr hx kp => ⟨rfl, ?_⟩⟩
  refine k x t u H' nx (fun c o e => ?_) ⟨dx, hx⟩ fr
  have n1 : c ≠ x := ne_of_none e nx
  refine kp c o ?_ n1
  rw [upd_ne n1]
  exact up1 nd e
def sp_whole : Sp := fun vs H Q _ => ∃ n : Int, vs = [.int n] ∧ Q (.bl true) H
def sp_common : Sp := fun vs H Q _ => ∃ a b : Int, vs = [.int a, .int b] ∧ Q (.int (Int.gcd a b : Int)) H
def lessA (t u t' u' : Int) (al : Bool) : Bool := decide (t * u' < t' * u) || (al && decide (t * u' = t' * u))
def sp_below (C : Addr) : Sp := fun vs H Q _ => ∃ (p q : Addr) (t u t' u' : Int) (al : Bool), vs = [.ref p, .ref q, .bl al] ∧ MAt C H p t u ∧ MAt C H q t' u' ∧ Sz 9000 t ∧ Sz 9000 u ∧ Sz 9000 t' ∧ Sz 9000 u' ∧ Q (.bl (lessA t u t' u' al)) H
/-- a comprehension over a list whose elements are reckoned without a change of what stands -/
theorem lcs {K : PySem.W.Frag} {a : Addr} {xs : List V} {g : TG} {tt : TT} {te : TE} {vs : List Nat} {σ : L2.St} {H1 : Hp} {D : Addr} {Qd : Hp → Prop} (ys : List V) (hlen : ys.length = xs.length) (hz : ys.length < sizeLine) (hS : SqL K H1 a xs) (hD : H1 D = none)
    (hs : ∀ (i : Nat) (x y : V) (H : Hp) (N : VK) (M : Hp → Prop), xs[i]? = some x → ys[i]? = some y → Same H1 H → (∀ H4, Same H H4 → N y H4) → g x (wipe σ vs) H fun σ2 H2 => wipe σ2 vs = wipe σ vs ∧ tt σ2 H2 fun b H3 => if b = true then te σ2 H3 N else M H3)
    (hd : ∀ H, Same H1 H → H D = some (.lst ys) → Qd H) :
    ∃ W : Nat → Nat → Hp → Prop, (∃ m, W 0 m (upd H1 D (.lst []))) ∧ ∀ i m H, W i m H →
      ((Itl K a).stop i H ∧ Qd H) ∨ ((Itl K a).go i H ∧ ∃ Nx : Hp → Prop, (∀ H', Nx H' → ∃ m', m' < m ∧ W (i + 1) m' H') ∧ ∀ x H', (Itl K a).yld i H x H' → g x (wipe σ vs) H' fun σ2 H2 => wipe σ2 vs = wipe σ vs ∧ tt σ2 H2 fun b H3 =>
        if b = true then te σ2 H3 fun y H4 => ∃ acc, H4 D = some (.lst acc) ∧ acc.length < sizeLine ∧ Nx (upd H4 D (.lst (acc ++ [y]))) else Nx H3) := by
  refine lc_list (fun i H => Same H1 H ∧ H D = some (.lst (ys.take i))) ⟨same1 hD, upd_same⟩ (fun i H _ p => p.1.seq hS) (fun i x H hx p => ?_) (fun H p => hd H p.1 ?_)
  · have hi : i < ys.length := by rw [hlen]; exact (List.getElem?_eq_some_iff.mp hx).1
    refine hs i x ys[i] H _ _ hx (List.getElem?_eq_getElem hi) p.1 fun H4 s4 => ⟨_, s4 _ _ p.2, ?_, ?_, ?_⟩
    · rw [List.length_take]; omega
    · intro c o e
      rw [upd_ne (ne_of_none e hD)]
      exact s4 _ _ (p.1 _ _ e)
    · rw [upd_same, List.take_add_one, List.getElem?_eq_getElem hi]
      rfl
  · have e := p.2
    rw [← hlen, List.take_length] at e
    exact e
theorem Kp.get {h q : Addr} {H H' : Hp} {o : HO} {n : Nat} (k : Kp h H H') (hh : HandAt H h n) (e : H q = some o) (no : notHand o = true) : H' q = some o := k _ _ e (hh.apart e no)
theorem _root_.L2.Same.get {q : Addr} {H H' : Hp} {o : HO} (k : Same H H') (e : H q = some o) : H' q = some o := k _ _ e
theorem _root_.L2.Same.ofKp {h : Addr} {H H1 H2 : Hp} (s : Same H H1) (nh : H h = none) (k : Kp h H1 H2) : Same H H2 := fun c o e => k c o (s c o e) (ne_of_none e nh)
theorem _root_.L2.Same.up {p : Addr} {H H1 : Hp} {u : HO} (s : Same H H1) (hp : H1 p = none) : Same H (upd H1 p u) := s.trans (same1 hp)
theorem dp_bls {K : PySem.W.Frag} {H : Hp} : ∀ bs : List Bool, DpAll K H (bs.map V.bl) (bs.map PyData.bool)
  | [] => .nil
  | b :: r => .cons (.bl b) (dp_bls r)
theorem isTrueN {b : Bool} (h : ¬ b = true) : b = false := by cases b <;> simp_all
theorem sgn_cases (b : Int) : sgn b = 1 ∨ sgn b = -1 := by unfold sgn; split <;> simp
/-- the order of two fractions by their own numbers and by any others -/
theorem below_iff {t u a b t' u' c d : Int} (f : Fr t u a b) (g : Fr t' u' c d) (hb : b ≠ 0) (hd : d ≠ 0) : (a * d * (sgn b * sgn d) < c * b * (sgn b * sgn d)) ↔ t * u' < t' * u := by
  have hu := f.pos
  have hu' := g.pos
  have e1 := f.eq
  have e2 := g.eq
  have sb : 0 < b * sgn b := by
    unfold sgn; split
    · omega
    · rename_i h; rw [Int.mul_neg_one]; omega
  have sd : 0 < d * sgn d := by
    unfold sgn; split
    · omega
    · rename_i h; rw [Int.mul_neg_one]; omega
  have p1 : a * d * (sgn b * sgn d) * (u * u') = (t * u') * ((b * sgn b) * (d * sgn d)) := by
    have : a * d * (sgn b * sgn d) * (u * u') = (a * u) * u' * (d * sgn d) * sgn b := by
      simp only [Int.mul_assoc, Int.mul_comm, Int.mul_left_comm]
    rw [this, ← e1]
    simp only [Int.mul_assoc, Int.mul_comm, Int.mul_left_comm]
  have p2 : c * b * (sgn b * sgn d) * (u * u') = (t' * u) * ((b * sgn b) * (d * sgn d)) := by
    have : c * b * (sgn b * sgn d) * (u * u') = (c * u') * u * (b * sgn b) * sgn d := by
      simp only [Int.mul_assoc, Int.mul_comm, Int.mul_left_comm]
    rw [this, ← e2]
    simp only [Int.mul_assoc, Int.mul_comm, Int.mul_left_comm]
  have q : 0 < u * u' := Int.mul_pos hu hu'
  have r : 0 < (b * sgn b) * (d * sgn d) := Int.mul_pos sb sd
  constructor
  · intro h
    have := Int.mul_lt_mul_of_pos_right h q
    rw [p1, p2] at this
    exact Int.lt_of_mul_lt_mul_right this (Int.le_of_lt r)
  · intro h
    have := Int.mul_lt_mul_of_pos_right h r
    rw [← p1, ← p2] at this
    exact Int.lt_of_mul_lt_mul_right this (Int.le_of_lt q)
/-! ### rules with the written part by its name (for the blocks of comprehensions) -/
section
variable {X : Cx} {K : PySem.W.Frag}
theorem ixl (hK : X.K = K := by rfl) : IxR X (rIxL K) := by subst hK; exact ix_list
theorem ixt (hK : X.K = K := by rfl) : IxR X (rIxT K) := by subst hK; exact ix_tup
theorem isi (hK : X.K = K := by rfl) : CallR X (.builtin "isinstance") (rIsi K) := by subst hK; exact call_isi
theorem isiT (hK : X.K = K := by rfl) : CallR X (.builtin "isinstance") (rIsiT K) := by subst hK; exact call_isiT
def rLenS (K : PySem.W.Frag) : List V → Hp → VK → Prop := fun xs H Q => ∃ p ys, xs = [.ref p] ∧ (SqL K H p ys ∨ SqT K H p ys) ∧ Q (.int (ys.length : Int)) H
theorem lenS (hK : X.K = K := by rfl) : CallR X (.builtin "len") (rLenS K) := by subst hK; exact call_len_seq
theorem allK (hK : X.K = K := by rfl) (hc : X.calm = true := by rfl) : CallR X (.builtin "all") (rAll K) := by subst hK; exact cr_all hc
theorem anyK (hK : X.K = K := by rfl) (hc : X.calm = true := by rfl) : CallR X (.builtin "any") (rAny K) := by subst hK; exact cr_any hc
theorem eqDK (hu : X.A.units + 64 < cLine) (hK : X.K = K := by rfl) : OpR X (compareOp .Eq) (rEqD K) := by subst hK; exact op_eqD hu
theorem neDK (hu : X.A.units + 64 < cLine) (hK : X.K = K := by rfl) : OpR X (compareOp .NotEq) (rNeD K) := by subst hK; exact op_neD hu
theorem inK (hK : X.K = K := by rfl) : OpR X (compareOp .In) (rIn K false) := by subst hK; exact op_in_seq
theorem notInK (hK : X.K = K := by rfl) : OpR X (compareOp .NotIn) (rIn K true) := by subst hK; exact op_notIn_seq
theorem slL (hK : X.K = K := by rfl) : SlR X (rSlL K) := by subst hK; exact sl_list
theorem slT (hK : X.K = K := by rfl) : SlR X (rSlT K) := by subst hK; exact sl_tup
theorem catT (hK : X.K = K := by rfl) : OpR X (binaryOp .Add) (rCatT K) := by subst hK; exact op_catT
theorem fldK {e : Expr} {f : Str} {pos : Pos} {ta : TE} (he : PE X e ta) (hb : attributeBase e f X.env (eval e X.env) = eval e X.env) (hK : X.K = K := by rfl) : PE X (.Attribute e f pos) (tFld K ta f) := by subst hK; exact pe_fld he hb
end
theorem yesT {te : TE} {σ : L2.St} {H : Hp} {N : VK} {M : Hp → Prop} (h : te σ H N) : tYes σ H (fun b H3 => if b = true then te σ H3 N else M H3) := by
  show (if true = true then te σ H N else M H)
  rw [if_pos rfl]; exact h
theorem made_same {H H' : Hp} {x dx C : Addr} (nx : H x = none) (nd : H dx = none) (kp : ∀ c o, (upd (upd H dx (.own x)) x (.ins C dx [])) c = some o → c ≠ x → H' c = some o) : Same H H' := fun c o e => by
  have n1 : c ≠ x := ne_of_none e nx
  refine kp c o ?_ n1
  rw [upd_ne n1]
  exact up1 nd e
/-! ### the head's facts, and more of them -/
def obsM (n : Nat) (fa : List He.Fa) (fn : List He.DefD) (ex : List (PySem.W.Frag → Bool)) (g : Addr → Option Obj) : He.AlD × Bool := (He.obsDG n fa fn g, ex.all fun f => f (He.frG g (He.asD g n)))
def hookM (n : Nat) (fa : List He.Fa) (fn : List He.DefD) (ex : List (PySem.W.Frag → Bool)) : PySem.W.Hook where
  α := He.AlD × Bool
  obs := fun s => obsM n fa fn ex s.heap.get?
  val := fun _ => (He.valD fn, true)
  says := fun _ h => ∃ K : PySem.W.Frag, K.In h ∧ He.SaysD fa fn K ∧ (ex.all fun f => f K) = true
  of := fun _ _ e => ⟨_, He.frG_in, congrArg (fun z : He.AlD × Bool => z.1) e, congrArg (fun z : He.AlD × Bool => z.2) e⟩
  keeps := fun _ _ _ ⟨K, hK, c⟩ k => ⟨K, PySem.W.Frag.In.keeps hK k, c⟩
theorem obsM_eq {n : Nat} {fa : List He.Fa} {fn : List He.DefD} {ex : List (PySem.W.Frag → Bool)} {g : Addr → Option Obj} {s : Shared} (h : ∀ a, g a = s.heap.get? a) : obsM n fa fn ex g = (hookM n fa fn ex).obs s := by
  have e : g = s.heap.get? := funext h
  rw [e] <;> rfl
theorem ex_at {ex : List (PySem.W.Frag → Bool)} {K : PySem.W.Frag} (c : (ex.all fun f => f K) = true) (i : Nat) {f : PySem.W.Frag → Bool} (h : ex[i]? = some f) : f K = true := List.all_eq_true.mp c f (List.mem_of_getElem? h)
/-- what isinstance asks of an own class -/
structure IsC (K : PySem.W.Frag) (C : Addr) : Prop where
  ha : PySem.W.findIn K (.ref C) "__class__" = some (some (.builtin "object.__class__"))
  hn : PySem.W.specialIn K (.builtin "object.__class__") "__get__" = some (some (.builtin "getset_descriptor.__get__"))
  htk : PySem.W.takesIn K (.builtin "object.__class__") = some true
  hm : PySem.W.mroIn K C (.type "object") = some true
def isCB (x : Str) : PySem.W.Frag → Bool := fun K => He.eqO (PySem.W.findIn K (.ref (He.ga K x)) "__class__") (some (some (.builtin "object.__class__"))) && (He.eqO (PySem.W.specialIn K (.builtin "object.__class__") "__get__") (some (some (.builtin "getset_descriptor.__get__"))) &&
  (decide (PySem.W.takesIn K (.builtin "object.__class__") = some true) && decide (PySem.W.mroIn K (He.ga K x) (.type "object") = some true)))
theorem isC_ok {x : Str} {K : PySem.W.Frag} (c : isCB x K = true) : IsC K (He.ga K x) := by
  obtain ⟨c1, c⟩ := He.ba c
  obtain ⟨c2, c⟩ := He.ba c
  obtain ⟨c3, c4⟩ := He.ba c
  exact ⟨He.eqO_ok c1, He.eqO_ok c2, of_decide_eq_true c3, of_decide_eq_true c4⟩
/-- a class by name: an own one, a built-in one -/
def cv (K : PySem.W.Frag) : Str ⊕ String → Value
  | .inl x => .ref (He.ga K x)
  | .inr n => .type n
def kitF (a b : Str ⊕ String) (r : Bool) : PySem.W.Frag → Bool := fun K => decide (PySem.W.kitOne K (cv K a) (cv K b) = some r)
theorem kitF_ok {a b : Str ⊕ String} {r : Bool} {K : PySem.W.Frag} (c : kitF a b r K = true) : PySem.W.kitOne K (cv K a) (cv K b) = some r := of_decide_eq_true c
theorem tyM {K : PySem.W.Frag} {H : Hp} {a C dx : Addr} {fs : List (Str × V)} (e : H a = some (.ins C dx fs)) (cl : Cls K C) (i : IsC K C) : TyX K H (.ref a) (.ref C) := .base (.ins e cl i.ha i.hn i.htk i.hm)
/-! ### sums and parts of Measures -/
def sp_bin (C : Addr) (f g : Int → Int → Int → Int → Int) : Sp := fun vs H Q _ => ∃ (p q : Addr) (t u t' u' : Int), vs = [.ref p, .ref q] ∧ MAt C H p t u ∧ MAt C H q t' u' ∧ 0 < u ∧ 0 < u' ∧ Sz 100000 t ∧ Sz 4400 u ∧ Sz 100000 t' ∧ Sz 4400 u' ∧
  ∀ (r : Addr) (t2 u2 : Int) (H' : Hp), H r = none → Same H H' → MAt C H' r t2 u2 → Fr t2 u2 (f t u t' u') (g t u t' u') → Q (.ref r) H'
def sp_part (C : Addr) : Sp := fun vs H Q _ => ∃ (p : Addr) (t u m : Int), vs = [.ref p, .int m] ∧ MAt C H p t u ∧ 0 < u ∧ m ≠ 0 ∧ Sz 100000 t ∧ Sz 4400 u ∧ Sz 4400 m ∧
  ∀ (r : Addr) (t2 u2 : Int) (H' : Hp), H r = none → Same H H' → MAt C H' r t2 u2 → Fr t2 u2 t (u * m) → Q (.ref r) H'
/-- the same fraction once more -/
theorem Fr.of {t u a b c d : Int} (f : Fr t u a b) (hb : b ≠ 0) (e : a * d = c * b) : t * d = c * u := by
  have h1 := f.eq
  have h2 : (t * d) * b = (c * u) * b := by
    calc (t * d) * b = (t * b) * d := by simp only [Int.mul_assoc, Int.mul_comm, Int.mul_left_comm]
      _ = (a * u) * d := by rw [h1]
      _ = (a * d) * u := by simp only [Int.mul_assoc, Int.mul_comm, Int.mul_left_comm]
      _ = (c * b) * u := by rw [e]
      _ = (c * u) * b := by simp only [Int.mul_assoc, Int.mul_comm, Int.mul_left_comm]
  exact Int.eq_of_mul_eq_mul_right hb h2
/-- what stood at the start stands (by another name than the steps') -/
structure Old (H H' : Hp) : Prop where
  s : Same H H'
theorem Old.refl (H : Hp) : Old H H := ⟨Same.refl _⟩
theorem Old.up {p : Addr} {H H1 : Hp} {u : HO} (a : Old H H1) (hp : H1 p = none) : Old H (upd H1 p u) := ⟨a.s.up hp⟩
theorem Old.then {H H1 H2 : Hp} (a : Old H H1) (b : Same H1 H2) : Old H H2 := ⟨a.s.trans b⟩
theorem Old.kp {h : Addr} {H H1 H2 : Hp} (a : Old H H1) (nh : H h = none) (k : Kp h H1 H2) : Old H H2 := ⟨a.s.ofKp nh k⟩
theorem Old.put {h : Addr} {H H1 : Hp} {u : HO} (a : Old H H1) (nh : H h = none) : Old H (upd H1 h u) := ⟨fun c o e => by rw [upd_ne (ne_of_none e nh)]; exact a.s _ _ e⟩
/-- a list is changed, what is no list stays -/
theorem up2 {H : Hp} {l x : Addr} {xs : List V} {o u : HO} (hl : H l = some (.lst xs)) (hx : H x = some o) (no : notHand o = true) : upd H l u x = some o := by
  rw [upd_ne (ne_of hx hl (by intro e; rw [e] at no; cases no))]; exact hx
/-- what _law_is asks of a Measure -/
structure Good (t u a b : Int) : Prop where
  pos : 0 < u
  co : Int.gcd t u = 1
  eq : t * b = a * u
  st : Sz 100000 t
  su : Sz 100000 u
  sa : Sz 100000 a
  sb : Sz 100000 b
def sp_is (C : Addr) : Sp := fun vs H Q _ => ∃ (r : Addr) (t u a b : Int), vs = [.ref r, .int a, .int b] ∧ MAt C H r t u ∧ Good t u a b ∧ Q (.bl true) H
def sp_gcd : Sp := fun vs H Q _ => ∃ a b : Int, vs = [.int a, .int b] ∧ 0 ≤ a ∧ 0 ≤ b ∧ Q (.int (Int.gcd a b : Int)) H
end My
namespace My
open PySem PySem.Spec PyProof.Rows L2
/-! ### fractions as pairs, stretches as ends -/
abbrev Q2 := Int × Int
def ltq (a b : Q2) : Bool := decide (a.1 * b.2 < b.1 * a.2)
def eqq (a b : Q2) : Bool := decide (a.1 * b.2 = b.1 * a.2)
def someB : Option Q2 → Option Q2 → Bool → Bool → Bool
  | some a, some b, ia, ib => ltq a b || (eqq a b && ia && ib)
  | _, _, _, _ => true
def Re (a b : Q2) : Prop := 0 < a.2 ∧ 0 < b.2 ∧ a.1 * b.2 = b.1 * a.2
def ReO : Option Q2 → Option Q2 → Prop
  | none, none => True
  | some a, some b => Re a b
  | _, _ => False
theorem Re.symm {a b : Q2} (h : Re a b) : Re b a := ⟨h.2.1, h.1, h.2.2.symm⟩
theorem Re.refl {a : Q2} (h : 0 < a.2) : Re a a := ⟨h, h, rfl⟩
theorem ReO.symm : ∀ {a b : Option Q2}, ReO a b → ReO b a
  | none, none, _ => trivial
  | some _, some _, h => Re.symm h
  | none, some _, h => h.elim
  | some _, none, h => h.elim
theorem pos_key {a b c d : Q2} (h : Re a c) (g : Re b d) : (a.1 * b.2) * (c.2 * d.2) = (c.1 * d.2) * (a.2 * b.2) := by
  have := h.2.2
  grind
theorem pos_key' {a b c d : Q2} (h : Re a c) (g : Re b d) : (b.1 * a.2) * (c.2 * d.2) = (d.1 * c.2) * (a.2 * b.2) := by
  have := g.2.2
  grind
theorem ltq_congr {a b c d : Q2} (h : Re a c) (g : Re b d) : ltq a b = ltq c d := by
  unfold ltq
  have k1 := pos_key h g
  have k2 := pos_key' h g
  have p1 : 0 < c.2 * d.2 := Int.mul_pos h.2.1 g.2.1
  have p2 : 0 < a.2 * b.2 := Int.mul_pos h.1 g.1
  refine decide_eq_decide.mpr ⟨fun x => ?_, fun x => ?_⟩
  · have := Int.mul_lt_mul_of_pos_right x p1
    rw [k1, k2] at this
    exact Int.lt_of_mul_lt_mul_right this (Int.le_of_lt p2)
  · have := Int.mul_lt_mul_of_pos_right x p2
    rw [← k1, ← k2] at this
    exact Int.lt_of_mul_lt_mul_right this (Int.le_of_lt p1)
theorem eqq_congr {a b c d : Q2} (h : Re a c) (g : Re b d) : eqq a b = eqq c d := by
  unfold eqq
  have k1 := pos_key h g
  have k2 := pos_key' h g
  have p1 : 0 < c.2 * d.2 := Int.mul_pos h.2.1 g.2.1
  have p2 : 0 < a.2 * b.2 := Int.mul_pos h.1 g.1
  refine decide_eq_decide.mpr ⟨fun x => ?_, fun x => ?_⟩
  · rw [x] at k1
    rw [k1] at k2
    exact Int.eq_of_mul_eq_mul_right (by omega) k2
  · rw [x] at k1
    rw [← k2] at k1
    exact Int.eq_of_mul_eq_mul_right (by omega) k1
theorem someB_congr : ∀ {a b c d : Option Q2} {i j : Bool}, ReO a c → ReO b d → someB a b i j = someB c d i j
  | some a, some b, some c, some d, i, j, h, g => by
    show (ltq a b || (eqq a b && i && j)) = (ltq c d || (eqq c d && i && j))
    rw [ltq_congr h g, eqq_congr h g]
  | none, some _, none, some _, _, _, _, _ => rfl
  | none, none, none, none, _, _, _, _ => rfl
  | some _, none, some _, none, _, _, _, _ => rfl
  | some _, _, none, _, _, _, h, _ => h.elim
  | none, _, some _, _, _, _, h, _ => h.elim
  | some _, some _, some _, none, _, _, _, g => g.elim
  | some _, none, some _, some _, _, _, _, g => g.elim
  | none, some _, none, none, _, _, _, g => g.elim
  | none, none, none, some _, _, _, _, g => g.elim
theorem lt_tri (a b : Q2) : (ltq a b = true ∧ eqq a b = false ∧ ltq b a = false) ∨ (ltq a b = false ∧ eqq a b = true ∧ ltq b a = false) ∨ (ltq a b = false ∧ eqq a b = false ∧ ltq b a = true) := by
  unfold ltq eqq
  rcases Int.lt_trichotomy (a.1 * b.2) (b.1 * a.2) with h | h | h
  · exact .inl ⟨decide_eq_true h, decide_eq_false (by omega), decide_eq_false (by omega)⟩
  · exact .inr (.inl ⟨decide_eq_false (by omega), decide_eq_true h, decide_eq_false (by omega)⟩)
  · exact .inr (.inr ⟨decide_eq_false (by omega), decide_eq_false (by omega), decide_eq_true h⟩)
theorem eqq_comm (a b : Q2) : eqq a b = eqq b a := by
  unfold eqq
  exact decide_eq_decide.mpr ⟨fun h => h.symm, fun h => h.symm⟩
/-- in lowest terms, its numbers of less than four thousand bits -/
structure Low (a : Q2) : Prop where
  pos : 0 < a.2
  co : Int.gcd a.1 a.2 = 1
  s1 : Sz 4000 a.1
  s2 : Sz 4000 a.2
def LowO : Option Q2 → Prop
  | none => True
  | some a => Low a
theorem dvd_co {a b c : Int} (h : a ∣ b * c) (g : Int.gcd a b = 1) : a ∣ c := by
  have h1 : a.natAbs ∣ b.natAbs * c.natAbs := by rw [← Int.natAbs_mul]; exact Int.natAbs_dvd_natAbs.mpr h
  exact Int.natAbs_dvd_natAbs.mp (Nat.Coprime.dvd_of_dvd_mul_left g h1)
theorem low_eq {a b : Q2} (h : Low a) (g : Low b) (e : a.1 * b.2 = b.1 * a.2) : a = b := by
  have h1 := h.pos
  have g1 := g.pos
  have d1 : a.2 ∣ b.2 := by
    have : a.2 ∣ a.1 * b.2 := ⟨b.1, by rw [e, Int.mul_comm]⟩
    exact dvd_co this (by rw [Int.gcd_comm]; exact h.co)
  have d2 : b.2 ∣ a.2 := by
    have : b.2 ∣ b.1 * a.2 := ⟨a.1, by rw [← e, Int.mul_comm]⟩
    exact dvd_co this (by rw [Int.gcd_comm]; exact g.co)
  have e2 : a.2 = b.2 := Int.le_antisymm (Int.le_of_dvd g1 d1) (Int.le_of_dvd h1 d2)
  rw [e2] at e
  exact Prod.ext (Int.eq_of_mul_eq_mul_right (by omega) e) e2
theorem low_eqq {a b : Q2} (h : Low a) (g : Low b) : (decide (a.1 = b.1) && decide (a.2 = b.2)) = eqq a b := by
  unfold eqq
  by_cases e : a.1 * b.2 = b.1 * a.2
  · rw [decide_eq_true e, low_eq h g e]; simp
  · rw [decide_eq_false e]
    cases z1 : decide (a.1 = b.1) with
    | false => rfl
    | true =>
      cases z2 : decide (a.2 = b.2) with
      | false => rfl
      | true =>
        exact absurd (by rw [of_decide_eq_true z1, of_decide_eq_true z2]) e
/-! ### their values -/
/-- None, or the tuple of an end's two numbers -/
def EndV (k : Nat) (H : Hp) (v : V) : Option Q2 → Prop
  | none => v = .non
  | some a => ∃ p, v = .ref p ∧ H p = some (.tup [.int a.1, .int a.2]) ∧ 0 < a.2 ∧ Sz k a.1 ∧ Sz k a.2
theorem EndV.mono {k j : Nat} (l : k ≤ j) {H : Hp} {v : V} : ∀ {e : Option Q2}, EndV k H v e → EndV j H v e
  | none, h => h
  | some _, ⟨p, h1, h2, h3, h4, h5⟩ => ⟨p, h1, h2, h3, h4.mono l, h5.mono l⟩
def MsV (C : Addr) (H : Hp) (v : V) : Option Q2 → Prop
  | none => v = .non
  | some a => ∃ p, v = .ref p ∧ MAt C H p a.1 a.2
theorem EndV.same {k : Nat} {H H' : Hp} {v : V} : ∀ {e : Option Q2}, EndV k H v e → Same H H' → EndV k H' v e
  | none, h, _ => h
  | some _, ⟨p, h1, h2, h3⟩, s => ⟨p, h1, s _ _ h2, h3⟩
theorem EndV.kp {j : Nat} {H H' : Hp} {h : Addr} {n : Nat} {v : V} : ∀ {e : Option Q2}, EndV j H v e → HandAt H h n → Kp h H H' → EndV j H' v e
  | none, h, _, _ => h
  | some _, ⟨p, h1, h2, h3⟩, hh, k => ⟨p, h1, k.get hh h2 rfl, h3⟩
theorem MsV.same {C : Addr} {H H' : Hp} {v : V} : ∀ {e : Option Q2}, MsV C H v e → Same H H' → MsV C H' v e
  | none, h, _ => h
  | some _, ⟨p, h1, h2⟩, s => ⟨p, h1, h2.same s⟩
theorem MsV.kp {C : Addr} {H H' : Hp} {h : Addr} {n : Nat} {v : V} : ∀ {e : Option Q2}, MsV C H v e → HandAt H h n → Kp h H H' → MsV C H' v e
  | none, h, _, _ => h
  | some _, ⟨p, h1, h2⟩, hh, k => ⟨p, h1, h2.kp hh k⟩
/-! ### a Stretch -/
def sf (l h : V) (li hi : Bool) : List (Str × V) := [("low", l), ("high", h), ("low_in", .bl li), ("high_in", .bl hi)]
theorem sf_put (l h : V) (li hi : Bool) : putF "high_in" (.bl hi) (putF "low_in" (.bl li) (putF "high" h (putF "low" l []))) = sf l h li hi := by
  have e1 : putF ("high" : Str) h (putF ("low" : Str) l []) = ([("low", l), ("high", h)] : List (Str × V)) := by
    show (if ("low" : Str) = "high" then [(("low" : Str), h)] else (("low" : Str), l) :: putF "high" h []) = _
    rw [if_neg (by decide +kernel)] <;> rfl
  have e2 : putF ("low_in" : Str) (.bl li) [("low", l), ("high", h)] = ([("low", l), ("high", h), ("low_in", .bl li)] : List (Str × V)) := by
    show (if ("low" : Str) = "low_in" then _ else (("low" : Str), l) :: (if ("high" : Str) = "low_in" then _ else (("high" : Str), h) :: putF "low_in" (V.bl li) [])) = _
    rw [if_neg (by decide +kernel), if_neg (by decide +kernel)] <;> rfl
  have e3 : putF ("high_in" : Str) (.bl hi) [("low", l), ("high", h), ("low_in", .bl li)] = sf l h li hi := by
    show (if ("low" : Str) = "high_in" then _ else (("low" : Str), l) :: (if ("high" : Str) = "high_in" then _ else (("high" : Str), h) :: (if ("low_in" : Str) = "high_in" then _ else (("low_in" : Str), V.bl li) :: putF "high_in" (V.bl hi) []))) = _
    rw [if_neg (by decide +kernel), if_neg (by decide +kernel), if_neg (by decide +kernel)] <;> rfl
  rw [e1, e2, e3]
theorem sf_low (l h : V) (li hi : Bool) : (sf l h li hi).lookup ("low" : Str) = some l := by
  rw [← sf_put, lookup_putF, if_neg (by decide +kernel), lookup_putF, if_neg (by decide +kernel), lookup_putF, if_neg (by decide +kernel), lookup_putF, if_pos rfl]
theorem sf_high (l h : V) (li hi : Bool) : (sf l h li hi).lookup ("high" : Str) = some h := by
  rw [← sf_put, lookup_putF, if_neg (by decide +kernel), lookup_putF, if_neg (by decide +kernel), lookup_putF, if_pos rfl]
theorem sf_low_in (l h : V) (li hi : Bool) : (sf l h li hi).lookup ("low_in" : Str) = some (.bl li) := by
  rw [← sf_put, lookup_putF, if_neg (by decide +kernel), lookup_putF, if_pos rfl]
theorem sf_high_in (l h : V) (li hi : Bool) : (sf l h li hi).lookup ("high_in" : Str) = some (.bl hi) := by
  rw [← sf_put, lookup_putF, if_pos rfl]
theorem sf_no (l h : V) (li hi : Bool) {m : Str} (h1 : ¬ m = "low") (h2 : ¬ m = "high") (h3 : ¬ m = "low_in") (h4 : ¬ m = "high_in") : (sf l h li hi).lookup m = none := by
  rw [← sf_put, lookup_putF, if_neg h4, lookup_putF, if_neg h3, lookup_putF, if_neg h2, lookup_putF, if_neg h1] <;> rfl
/-- a Stretch at p: its ends, whether they are in -/
structure StAt (CM CS : Addr) (H : Hp) (p : Addr) (lo hi : Option Q2) (li hj : Bool) : Prop where
  ob : ∃ dx l h, H p = some (.ins CS dx (sf l h li hj)) ∧ MsV CM H l lo ∧ MsV CM H h hi
  l1 : LowO lo
  l2 : LowO hi
  n1 : lo = none → li = false
  n2 : hi = none → hj = false
theorem StAt.same {CM CS p : Addr} {H H' : Hp} {lo hi : Option Q2} {li hj : Bool} (a : StAt CM CS H p lo hi li hj) (s : Same H H') : StAt CM CS H' p lo hi li hj := by
  obtain ⟨⟨dx, l, h, h1, h2, h3⟩, a1, a2, a3, a4⟩ := a
  exact ⟨⟨dx, l, h, s _ _ h1, h2.same s, h3.same s⟩, a1, a2, a3, a4⟩
theorem StAt.kp {CM CS p h : Addr} {H H' : Hp} {n : Nat} {lo hi : Option Q2} {li hj : Bool} (a : StAt CM CS H p lo hi li hj) (hh : HandAt H h n) (s : Kp h H H') : StAt CM CS H' p lo hi li hj := by
  obtain ⟨⟨dx, l, h, h1, h2, h3⟩, a1, a2, a3, a4⟩ := a
  exact ⟨⟨dx, l, h, s.get hh h1 rfl, h2.kp hh s, h3.kp hh s⟩, a1, a2, a3, a4⟩
theorem cmpBack_of {X : Cx} {pins : List (Addr × Obj)} {σ : L2.St} {Q : VK} {u : Value} {s' : Shared} (h : EP X pins σ Q u s') : PySem.W.CmpBack (EP X pins σ Q) u s' := by
  have h0 := h
  obtain ⟨v, H', I', r, q⟩ := h
  cases v with
  | non => cases r; exact h0
  | bl _ => cases r; exact h0
  | int _ => obtain ⟨t, rfl⟩ := r; exact h0
  | str _ => obtain ⟨t, rfl⟩ := r; exact h0
  | byt _ => obtain ⟨t, rfl⟩ := r; exact h0
  | flt _ => obtain ⟨t, rfl⟩ := r; exact h0
  | ref _ => cases r; exact h0
  | ty _ => cases r; exact h0
/-- == by an own __eq__, of two instances of one class -/
theorem op_eqI {X : Cx} {CX : CXT} {n : Nat} {C f : Addr} {fd : FuncData} {ps : List Str} {sp : Sp} {E : XK} (F : FnOk X.prog X.w X.K X.mg X.base CX n f fd ps sp) (hr : Room n X.A) {ds : List Value} (hm : Meth X.K C "__eq__" f) (hb : Binds X.K fd ps ds) (hd : Vals [] ds) (hx : Passes CX X E) :
    OpR X (compareOp .Eq) (fun x y H Q => ∃ a b dx dy fs gs, x = .ref a ∧ y = .ref b ∧ H a = some (.ins C dx fs) ∧ H b = some (.ins C dy gs) ∧ sp [.ref a, .ref b] H Q E) := by
  intro pins s σ H x y v u Q I rx ry hq
  obtain ⟨a, b, dx, dy, fs, gs, rfl, rfl, ha, hb', hsp⟩ := hq
  cases rx
  cases ry
  show wpAny (model X.prog X.w) X.A (richCompare .Eq (.ref a) (.ref b)) (EP X pins σ Q) X.xe s
  obtain ⟨mA, J, _⟩ := ins_get I.hok ha
  obtain ⟨mB, J', _⟩ := ins_get I.hok hb'
  obtain ⟨od, J, _⟩ := J.look
  obtain ⟨od', J', _⟩ := J'.look
  obtain ⟨m, hF⟩ := I.fr
  refine PySem.W.cmp_K (op := .Eq) (tb := .ref C) hr.units0 hF I.ok.mod.kin J J'.type (by simp [PySem.W.notFirst]) hm.at_ hm.fn ?_
  refine thn ?_ fun u s' => cmpBack_of
  exact run_fn (us := [.ref a, .ref b]) (vs := [.ref a, .ref b]) F hr hb hd hx I (.cons rfl (.cons rfl .nil)) hsp
theorem MsV.lt_ne {C : Addr} {H : Hp} {v : V} (h : MsV C H v none) : v = .non := h
/-! ### promises -/
def sp_end : Sp := fun vs H Q _ => ∃ (h : Addr) (n : Nat), vs = [.ref h] ∧ HandAt H h n ∧ n < 100000 ∧
  ∀ (p : Addr) (a : Q2) (H' : Hp), EndV 140 H' (.ref p) (some a) → HandAt H' h (n + 3) → Kp h H H' → Q (.ref p) H'
def sp_cmp2 (f : Q2 → Q2 → Bool) : Sp := fun vs H Q _ => ∃ (va vb : V) (a b : Q2), vs = [va, vb] ∧ EndV 20000 H va (some a) ∧ EndV 20000 H vb (some b) ∧ Q (.bl (f a b)) H
def sp_lmeasure (CM : Addr) : Sp := fun vs H Q _ => ∃ (v : V) (e : Option Q2), vs = [v] ∧ EndV 4000 H v e ∧
  ∀ (v' : V) (m : Option Q2) (H' : Hp), Same H H' → MsV CM H' v' m → ReO m e → LowO m → Q v' H'
def sp_some : Sp := fun vs H Q _ => ∃ (va vb : V) (ea eb : Option Q2) (ia ib : Bool), vs = [va, vb, .bl ia, .bl ib] ∧ EndV 20000 H va ea ∧ EndV 20000 H vb eb ∧ Q (.bl (someB ea eb ia ib)) H
/-- the tuple of two ends and two truths, between which something is -/
structure EndsAt (H : Hp) (p : Addr) (ea eb : Option Q2) (ia ib : Bool) : Prop where
  ob : ∃ va vb, H p = some (.tup [va, vb, .bl ia, .bl ib]) ∧ EndV 140 H va ea ∧ EndV 140 H vb eb
  so : someB ea eb ia ib = true
theorem EndsAt.same {H H' : Hp} {p : Addr} {ea eb : Option Q2} {ia ib : Bool} (a : EndsAt H p ea eb ia ib) (s : Same H H') : EndsAt H' p ea eb ia ib := by
  obtain ⟨⟨va, vb, h1, h2, h3⟩, h4⟩ := a
  exact ⟨⟨va, vb, s _ _ h1, h2.same s, h3.same s⟩, h4⟩
theorem EndsAt.kp {H H' : Hp} {p h : Addr} {n : Nat} {ea eb : Option Q2} {ia ib : Bool} (a : EndsAt H p ea eb ia ib) (hh : HandAt H h n) (s : Kp h H H') : EndsAt H' p ea eb ia ib := by
  obtain ⟨⟨va, vb, h1, h2, h3⟩, h4⟩ := a
  exact ⟨⟨va, vb, s.get hh h1 rfl, h2.kp hh s, h3.kp hh s⟩, h4⟩
def sp_ends : Sp := fun vs H Q _ => ∃ (h : Addr) (n : Nat), vs = [.ref h] ∧ HandAt H h n ∧ n < 10000 ∧
  ∀ (p : Addr) (ea eb : Option Q2) (ia ib : Bool) (H' : Hp), EndsAt H' p ea eb ia ib → HandAt H' h (n + 9) → Kp h H H' → Q (.ref p) H'
def sp_isend (CM : Addr) : Sp := fun vs H Q _ => ∃ (v : V) (m : Option Q2), vs = [v] ∧ MsV CM H v m ∧ Q (.bl true) H
def sp_meq (CM : Addr) : Sp := fun vs H Q _ => ∃ (p q : Addr) (a b : Q2), vs = [.ref p, .ref q] ∧ MAt CM H p a.1 a.2 ∧ MAt CM H q b.1 b.2 ∧ Q (.bl (decide (a.1 = b.1) && decide (a.2 = b.2))) H
def sp_empty (CM : Addr) : Sp := fun vs H Q _ => ∃ (l h : V) (lo hi : Option Q2) (li hj : Bool), vs = [l, h, .bl li, .bl hj] ∧ MsV CM H l lo ∧ MsV CM H h hi ∧ LowO lo ∧ LowO hi ∧ Q (.bl (!someB lo hi li hj)) H
def sp_sinit (CM CS : Addr) : Sp := fun vs H Q _ => ∃ (p dx : Addr) (l h : V) (lo hi : Option Q2) (li hj : Bool), vs = [.ref p, l, h, .bl li, .bl hj] ∧ H p = some (.ins CS dx []) ∧ MsV CM H l lo ∧ MsV CM H h hi ∧ LowO lo ∧ LowO hi ∧ someB lo hi li hj = true ∧
  ∀ H', H' p = some (.ins CS dx (sf l h (li && lo.isSome) (hj && hi.isSome))) → (∀ q o, H q = some o → q ≠ p → H' q = some o) → Q .non H'
theorem MsV.put {CM p C dx : Addr} {H : Hp} {v : V} {o : HO} (hp : H p = some (.ins C dx [])) : ∀ {m : Option Q2}, MsV CM H v m → MsV CM (upd H p o) v m
  | none, h => h
  | some _, ⟨q, h1, ⟨dy, h2⟩⟩ => ⟨q, h1, ⟨dy, by
      rw [upd_ne (ne_of h2 hp (by intro e; injection e with _ _ e; cases e))]; exact h2⟩⟩
theorem StAt.mk' {CM CS p dx : Addr} {H H' : Hp} {l h : V} {lo hi : Option Q2} {li hj : Bool} (h1 : H' p = some (.ins CS dx (sf l h (li && lo.isSome) (hj && hi.isSome)))) (s : Same H H') (ml : MsV CM H l lo) (mh : MsV CM H h hi) (l1 : LowO lo) (l2 : LowO hi) :
    StAt CM CS H' p lo hi (li && lo.isSome) (hj && hi.isSome) :=
  ⟨⟨dx, l, h, h1, ml.same s, mh.same s⟩, l1, l2, fun e => by rw [e]; simp, fun e => by rw [e]; simp⟩
def sp_made (CM CS : Addr) : Sp := fun vs H Q _ => ∃ (p : Addr) (ea eb : Option Q2) (ia ib : Bool), vs = [.ref p] ∧ EndsAt H p ea eb ia ib ∧
  ∀ (r : Addr) (lo hi : Option Q2) (H' : Hp), Same H H' → StAt CM CS H' r lo hi (ia && ea.isSome) (ib && eb.isSome) → ReO lo ea → ReO hi eb → Q (.ref r) H'
theorem ReO.isS : ∀ {a b : Option Q2}, ReO a b → a.isSome = b.isSome
  | none, none, _ => rfl
  | some _, some _, _ => rfl
  | none, some _, h => h.elim
  | some _, none, h => h.elim
theorem Fr.re {t u a b : Int} (f : Fr t u a b) (hb : 0 < b) : Re (t, u) (a, b) := ⟨f.pos, hb, f.eq⟩
/-! ### what two stretches have in common -/
def cutLo : Option Q2 → Bool → Option Q2 → Bool → Option Q2 × Bool
  | none, _, n, j => (n, j)
  | some a, i, none, _ => (some a, i)
  | some a, i, some b, j => if ltq a b then (some b, j) else if eqq a b then (some a, i && j) else (some a, i)
def cutHi : Option Q2 → Bool → Option Q2 → Bool → Option Q2 × Bool
  | none, _, n, j => (n, j)
  | some a, i, none, _ => (some a, i)
  | some a, i, some b, j => if ltq b a then (some b, j) else if eqq a b then (some a, i && j) else (some a, i)
/-- the same end, and in or not alike where there is one -/
def Alike (x y : Option Q2 × Bool) : Prop := ReO x.1 y.1 ∧ (x.1.isSome = true → x.2 = y.2)
theorem Alike.flag {x y : Option Q2 × Bool} (h : Alike x y) : (x.2 && x.1.isSome) = (y.2 && y.1.isSome) := by
  obtain ⟨h1, h2⟩ := h
  rw [← h1.isS]
  cases e : x.1.isSome with
  | true => rw [h2 e]
  | false => simp
theorem Alike.someB {x y z w : Option Q2 × Bool} (h : Alike x y) (g : Alike z w) : My.someB x.1 z.1 x.2 z.2 = My.someB y.1 w.1 y.2 w.2 := by
  obtain ⟨x, i⟩ := x
  obtain ⟨y, j⟩ := y
  obtain ⟨z, k⟩ := z
  obtain ⟨w, l⟩ := w
  obtain ⟨h1, h2⟩ := h
  obtain ⟨g1, g2⟩ := g
  rw [someB_congr h1 g1]
  cases x with
  | none => cases y with
    | none => rfl
    | some _ => exact h1.elim
  | some a => cases z with
    | none => cases w with
      | none => cases y <;> rfl
      | some _ => exact g1.elim
    | some b =>
      have e1 : i = j := h2 rfl
      have e2 : k = l := g2 rfl
      rw [e1, e2]
theorem Alike.norm {a b : Option Q2} {i : Bool} (h : ReO a b) : Alike (a, i && b.isSome) (b, i) := ⟨h, fun e => by
  have e1 : a.isSome = true := e
  rw [h.isS] at e1
  show (i && b.isSome) = i
  rw [e1]; simp⟩
theorem cutLo_alike {x y z w : Option Q2 × Bool} (h : Alike x y) (g : Alike z w) : Alike (cutLo x.1 x.2 z.1 z.2) (cutLo y.1 y.2 w.1 w.2) := by
  obtain ⟨x, i⟩ := x
  obtain ⟨y, j⟩ := y
  obtain ⟨z, k⟩ := z
  obtain ⟨w, l⟩ := w
  obtain ⟨h1, h2⟩ := h
  obtain ⟨g1, g2⟩ := g
  cases x with
  | none => cases y with
    | none => exact ⟨g1, g2⟩
    | some _ => exact h1.elim
  | some a => cases y with
    | none => exact h1.elim
    | some a' => cases z with
      | none => cases w with
        | none => exact ⟨h1, h2⟩
        | some _ => exact g1.elim
      | some b => cases w with
        | none => exact g1.elim
        | some b' =>
          have e1 : i = j := h2 rfl
          have e2 : k = l := g2 rfl
          show Alike (if ltq a b then (some b, k) else if eqq a b then (some a, i && k) else (some a, i)) (if ltq a' b' then (some b', l) else if eqq a' b' then (some a', j && l) else (some a', j))
          rw [ltq_congr h1 g1, eqq_congr h1 g1, e1, e2]
          split
          · exact ⟨g1, fun _ => rfl⟩
          · split
            · exact ⟨h1, fun _ => rfl⟩
            · exact ⟨h1, fun _ => rfl⟩
theorem cutHi_alike {x y z w : Option Q2 × Bool} (h : Alike x y) (g : Alike z w) : Alike (cutHi x.1 x.2 z.1 z.2) (cutHi y.1 y.2 w.1 w.2) := by
  obtain ⟨x, i⟩ := x
  obtain ⟨y, j⟩ := y
  obtain ⟨z, k⟩ := z
  obtain ⟨w, l⟩ := w
  obtain ⟨h1, h2⟩ := h
  obtain ⟨g1, g2⟩ := g
  cases x with
  | none => cases y with
    | none => exact ⟨g1, g2⟩
    | some _ => exact h1.elim
  | some a => cases y with
    | none => exact h1.elim
    | some a' => cases z with
      | none => cases w with
        | none => exact ⟨h1, h2⟩
        | some _ => exact g1.elim
      | some b => cases w with
        | none => exact g1.elim
        | some b' =>
          have e1 : i = j := h2 rfl
          have e2 : k = l := g2 rfl
          show Alike (if ltq b a then (some b, k) else if eqq a b then (some a, i && k) else (some a, i)) (if ltq b' a' then (some b', l) else if eqq a' b' then (some a', j && l) else (some a', j))
          rw [ltq_congr g1 h1, eqq_congr h1 g1, e1, e2]
          split
          · exact ⟨g1, fun _ => rfl⟩
          · split
            · exact ⟨h1, fun _ => rfl⟩
            · exact ⟨h1, fun _ => rfl⟩
theorem cutLo_low {a b : Option Q2} {i j : Bool} (h : LowO a) (g : LowO b) : LowO (cutLo a i b j).1 := by
  cases a with
  | none => exact g
  | some a => cases b with
    | none => exact h
    | some b =>
      show LowO (if ltq a b then (some b, j) else if eqq a b then (some a, i && j) else (some a, i)).1
      split
      · exact g
      · split <;> exact h
theorem cutHi_low {a b : Option Q2} {i j : Bool} (h : LowO a) (g : LowO b) : LowO (cutHi a i b j).1 := by
  cases a with
  | none => exact g
  | some a => cases b with
    | none => exact h
    | some b =>
      show LowO (if ltq b a then (some b, j) else if eqq a b then (some a, i && j) else (some a, i)).1
      split
      · exact g
      · split <;> exact h
def sp_cutEnd (CM CS : Addr) (f : Option Q2 → Option Q2 → Bool → Bool → Option Q2 → Option Q2 → Bool → Bool → Option Q2 × Bool) : Sp := fun vs H Q _ => ∃ (p q : Addr) (m1 m2 n1 n2 : Option Q2) (i1 i2 j1 j2 : Bool), vs = [.ref p, .ref q] ∧ StAt CM CS H p m1 m2 i1 i2 ∧ StAt CM CS H q n1 n2 j1 j2 ∧
  ∀ (r : Addr) (v : V) (H' : Hp), Same H H' → H' r = some (.tup [v, .bl (f m1 m2 i1 i2 n1 n2 j1 j2).2]) → MsV CM H' v (f m1 m2 i1 i2 n1 n2 j1 j2).1 → Q (.ref r) H'
/-- a Stretch, or None where nothing is between -/
def CutV (CM CS : Addr) (H : Hp) (v : V) (lo hi : Option Q2 × Bool) : Prop :=
  (someB lo.1 hi.1 lo.2 hi.2 = true ∧ ∃ r, v = .ref r ∧ StAt CM CS H r lo.1 hi.1 (lo.2 && lo.1.isSome) (hi.2 && hi.1.isSome)) ∨ (someB lo.1 hi.1 lo.2 hi.2 = false ∧ v = .non)
def sp_cutS (CM CS : Addr) : Sp := fun vs H Q _ => ∃ (p q : Addr) (m1 m2 n1 n2 : Option Q2) (i1 i2 j1 j2 : Bool), vs = [.ref p, .ref q] ∧ StAt CM CS H p m1 m2 i1 i2 ∧ StAt CM CS H q n1 n2 j1 j2 ∧
  ∀ (v : V) (H' : Hp), Same H H' → CutV CM CS H' v (cutLo m1 i1 n1 j1) (cutHi m2 i2 n2 j2) → Q v H'
/-- the law's own: a tuple of four, or None -/
def DueV (H : Hp) (v : V) (lo hi : Option Q2 × Bool) : Prop :=
  (someB lo.1 hi.1 lo.2 hi.2 = true ∧ ∃ r, v = .ref r ∧ EndsAt H r lo.1 hi.1 lo.2 hi.2) ∨ (someB lo.1 hi.1 lo.2 hi.2 = false ∧ v = .non)
theorem DueV.same {H H' : Hp} {v : V} {lo hi : Option Q2 × Bool} (h : DueV H v lo hi) (s : Same H H') : DueV H' v lo hi := by
  rcases h with ⟨h1, r, h2, h3⟩ | h
  · exact .inl ⟨h1, r, h2, h3.same s⟩
  · exact .inr h
theorem CutV.same {CM CS : Addr} {H H' : Hp} {v : V} {lo hi : Option Q2 × Bool} (h : CutV CM CS H v lo hi) (s : Same H H') : CutV CM CS H' v lo hi := by
  rcases h with ⟨h1, r, h2, h3⟩ | h
  · exact .inl ⟨h1, r, h2, h3.same s⟩
  · exact .inr h
def sp_lcut : Sp := fun vs H Q _ => ∃ (p q : Addr) (ea eb fa fb : Option Q2) (ia ib ja jb : Bool), vs = [.ref p, .ref q] ∧ EndsAt H p ea eb ia ib ∧ EndsAt H q fa fb ja jb ∧
  ∀ (v : V) (H' : Hp), Same H H' → DueV H' v (cutLo ea ia fa ja) (cutHi eb ib fb jb) → Q v H'
def sp_pair : Sp := fun vs H Q _ => ∃ (h : Addr) (n : Nat), vs = [.ref h] ∧ HandAt H h n ∧ n < 1000 ∧
  ∀ (r p q : Addr) (ea eb fa fb : Option Q2) (ia ib ja jb : Bool) (H' : Hp), H' r = some (.tup [.ref p, .ref q]) → EndsAt H' p ea eb ia ib → EndsAt H' q fa fb ja jb → HandAt H' h (n + 19) → Kp h H H' → Q (.ref r) H'
def sp_kept (CM : Addr) : Sp := fun vs H Q _ => ∃ (v w : V) (e m : Option Q2), vs = [v, w] ∧ EndV 140 H v e ∧ MsV CM H w m ∧ ReO m e ∧ LowO m ∧ ∀ H', Same H H' → Q (.bl true) H'
def sp_truth : Sp := fun vs H Q _ => ∃ b c : Bool, vs = [.bl b, .bl c] ∧ Q (.bl (decide (b = c))) H
/-- what is told is what is due -/
def Match (CM CS : Addr) (H : Hp) (found due : V) : Prop :=
  (found = .non ∧ due = .non) ∨ ∃ (r d : Addr) (lo hi ea eb : Option Q2) (ia ib : Bool), found = .ref r ∧ due = .ref d ∧ EndsAt H d ea eb ia ib ∧ StAt CM CS H r lo hi (ia && ea.isSome) (ib && eb.isSome) ∧ ReO lo ea ∧ ReO hi eb
theorem Match.same {CM CS : Addr} {H H' : Hp} {f d : V} (h : Match CM CS H f d) (s : Same H H') : Match CM CS H' f d := by
  rcases h with h | ⟨r, d, lo, hi, ea, eb, ia, ib, h1, h2, h3, h4, h5, h6⟩
  · exact .inl h
  · exact .inr ⟨r, d, lo, hi, ea, eb, ia, ib, h1, h2, h3.same s, h4.same s, h5, h6⟩
theorem match_of {CM CS : Addr} {H : Hp} {f d : V} {x y z w : Option Q2 × Bool} (c : CutV CM CS H f x z) (g : DueV H d y w) (h1 : Alike x y) (h2 : Alike z w) : Match CM CS H f d := by
  have e := h1.someB h2
  rcases c with ⟨c1, r, c2, c3⟩ | ⟨c1, c2⟩
  · rcases g with ⟨g1, t, g2, g3⟩ | ⟨g1, g2⟩
    · rw [h1.flag, h2.flag] at c3
      exact .inr ⟨r, t, _, _, _, _, _, _, c2, g2, g3, c3, h1.1, h2.1⟩
    · rw [e, g1] at c1; cases c1
  · rcases g with ⟨g1, t, g2, g3⟩ | ⟨g1, g2⟩
    · rw [e, g1] at c1; cases c1
    · exact .inl ⟨c2, g2⟩
def sp_right (CM CS : Addr) : Sp := fun vs H Q _ => ∃ f d : V, vs = [f, d] ∧ Match CM CS H f d ∧ ∀ H', Same H H' → Q (.bl true) H'
theorem decB (b c : Bool) : decide (V.bl b = V.bl c) = decide (b = c) := by
  cases b <;> cases c <;> decide
/-- a comprehension over a tuple whose elements are reckoned without a change of what stands -/
theorem lcsT {K : PySem.W.Frag} {a : Addr} {xs : List V} {g : TG} {tt : TT} {te : TE} {vs : List Nat} {σ : L2.St} {H1 : Hp} {D : Addr} {Qd : Hp → Prop} (ys : List V) (hlen : ys.length = xs.length) (hz : ys.length < sizeLine) (hS : SqT K H1 a xs) (hD : H1 D = none)
    (hs : ∀ (i : Nat) (x y : V) (H : Hp) (N : VK) (M : Hp → Prop), xs[i]? = some x → ys[i]? = some y → Same H1 H → (∀ H4, Same H H4 → N y H4) → g x (wipe σ vs) H fun σ2 H2 => wipe σ2 vs = wipe σ vs ∧ tt σ2 H2 fun b H3 => if b = true then te σ2 H3 N else M H3)
    (hd : ∀ H, Same H1 H → H D = some (.lst ys) → Qd H) :
    ∃ W : Nat → Nat → Hp → Prop, (∃ m, W 0 m (upd H1 D (.lst []))) ∧ ∀ i m H, W i m H →
      ((Itt K a).stop i H ∧ Qd H) ∨ ((Itt K a).go i H ∧ ∃ Nx : Hp → Prop, (∀ H', Nx H' → ∃ m', m' < m ∧ W (i + 1) m' H') ∧ ∀ x H', (Itt K a).yld i H x H' → g x (wipe σ vs) H' fun σ2 H2 => wipe σ2 vs = wipe σ vs ∧ tt σ2 H2 fun b H3 =>
        if b = true then te σ2 H3 fun y H4 => ∃ acc, H4 D = some (.lst acc) ∧ acc.length < sizeLine ∧ Nx (upd H4 D (.lst (acc ++ [y]))) else Nx H3) := by
  refine lc_tup (fun i H => Same H1 H ∧ H D = some (.lst (ys.take i))) ⟨same1 hD, upd_same⟩ (fun i H _ p => p.1.sqt hS) (fun i x H hx p => ?_) (fun H p => hd H p.1 ?_)
  · have hi : i < ys.length := by rw [hlen]; exact (List.getElem?_eq_some_iff.mp hx).1
    refine hs i x ys[i] H _ _ hx (List.getElem?_eq_getElem hi) p.1 fun H4 s4 => ⟨_, s4 _ _ p.2, ?_, ?_, ?_⟩
    · rw [List.length_take]; omega
    · intro c o e
      rw [upd_ne (ne_of_none e hD)]
      exact s4 _ _ (p.1 _ _ e)
    · rw [upd_same, List.take_add_one, List.getElem?_eq_getElem hi]
      rfl
  · have e := p.2
    rw [← hlen, List.take_length] at e
    exact e
theorem Re.trans {a b c : Q2} (h : Re a b) (g : Re b c) : Re a c := by
  obtain ⟨h1, h2, h3⟩ := h
  obtain ⟨g1, g2, g3⟩ := g
  refine ⟨h1, g2, Int.eq_of_mul_eq_mul_right (show b.2 ≠ 0 by omega) ?_⟩
  grind
theorem ReO.trans : ∀ {a b c : Option Q2}, ReO a b → ReO b c → ReO a c
  | none, none, none, _, _ => trivial
  | some _, some _, some _, h, g => Re.trans h g
  | none, some _, _, h, _ => h.elim
  | some _, none, _, h, _ => h.elim
  | none, none, some _, _, g => g.elim
  | some _, some _, none, _, g => g.elim
def PosO : Option Q2 → Prop
  | none => True
  | some a => 0 < a.2
theorem LowO.posO : ∀ {a : Option Q2}, LowO a → PosO a
  | none, _ => trivial
  | some _, h => Low.pos h
theorem ReO.refl : ∀ {a : Option Q2}, PosO a → ReO a a
  | none, _ => trivial
  | some _, h => Re.refl h
theorem Alike.trans {x y z : Option Q2 × Bool} (h : Alike x y) (g : Alike y z) : Alike x z := ⟨h.1.trans g.1, fun e => (h.2 e).trans (g.2 (by rw [← h.1.isS]; exact e))⟩
theorem Alike.normL {x y : Option Q2 × Bool} (h : Alike x y) : Alike (x.1, x.2 && x.1.isSome) y := ⟨h.1, fun e => by
  have e1 : x.1.isSome = true := e
  show (x.2 && x.1.isSome) = y.2
  rw [e1, h.2 e1]; simp⟩
theorem cutLo_comm {a b : Option Q2} {i j : Bool} (ha : PosO a) (hb : PosO b) : Alike (cutLo b j a i) (cutLo a i b j) := by
  cases a with
  | none => cases b with
    | none => exact ⟨trivial, fun e => nomatch e⟩
    | some b => exact ⟨Re.refl hb, fun _ => rfl⟩
  | some a => cases b with
    | none => exact ⟨Re.refl ha, fun _ => rfl⟩
    | some b =>
      show Alike (if ltq b a then (some a, i) else if eqq b a then (some b, j && i) else (some b, j)) (if ltq a b then (some b, j) else if eqq a b then (some a, i && j) else (some a, i))
      rw [eqq_comm b a]
      rcases lt_tri a b with ⟨h1, h2, h3⟩ | ⟨h1, h2, h3⟩ | ⟨h1, h2, h3⟩
      · rw [h1, h2, h3]; exact ⟨Re.refl hb, fun _ => rfl⟩
      · rw [h1, h2, h3]; exact ⟨⟨hb, ha, (of_decide_eq_true h2).symm⟩, fun _ => Bool.and_comm _ _⟩
      · rw [h1, h2, h3]; exact ⟨Re.refl ha, fun _ => rfl⟩
theorem cutHi_comm {a b : Option Q2} {i j : Bool} (ha : PosO a) (hb : PosO b) : Alike (cutHi b j a i) (cutHi a i b j) := by
  cases a with
  | none => cases b with
    | none => exact ⟨trivial, fun e => nomatch e⟩
    | some b => exact ⟨Re.refl hb, fun _ => rfl⟩
  | some a => cases b with
    | none => exact ⟨Re.refl ha, fun _ => rfl⟩
    | some b =>
      show Alike (if ltq a b then (some a, i) else if eqq b a then (some b, j && i) else (some b, j)) (if ltq b a then (some b, j) else if eqq a b then (some a, i && j) else (some a, i))
      rw [eqq_comm b a]
      rcases lt_tri a b with ⟨h1, h2, h3⟩ | ⟨h1, h2, h3⟩ | ⟨h1, h2, h3⟩
      · rw [h1, h2, h3]; exact ⟨Re.refl ha, fun _ => rfl⟩
      · rw [h1, h2, h3]; exact ⟨⟨hb, ha, (of_decide_eq_true h2).symm⟩, fun _ => Bool.and_comm _ _⟩
      · rw [h1, h2, h3]; exact ⟨Re.refl hb, fun _ => rfl⟩
theorem cutLo_self {a : Option Q2} {i : Bool} (ha : PosO a) : Alike (cutLo a i a i) (a, i) := by
  cases a with
  | none => exact ⟨trivial, fun e => nomatch e⟩
  | some a =>
    have e : eqq a a = true := decide_eq_true rfl
    have f : ltq a a = false := decide_eq_false (by omega)
    show Alike (if ltq a a then (some a, i) else if eqq a a then (some a, i && i) else (some a, i)) _
    rw [e, f]
    exact ⟨Re.refl ha, fun _ => Bool.and_self _⟩
theorem cutHi_self {a : Option Q2} {i : Bool} (ha : PosO a) : Alike (cutHi a i a i) (a, i) := by
  cases a with
  | none => exact ⟨trivial, fun e => nomatch e⟩
  | some a =>
    have e : eqq a a = true := decide_eq_true rfl
    have f : ltq a a = false := decide_eq_false (by omega)
    show Alike (if ltq a a then (some a, i) else if eqq a a then (some a, i && i) else (some a, i)) _
    rw [e, f]
    exact ⟨Re.refl ha, fun _ => Bool.and_self _⟩
theorem StAt.raw {CM CS p : Addr} {H : Hp} {lo hi : Option Q2} {li hj : Bool} (a : StAt CM CS H p lo hi li hj) {m : Str} (h1 : ¬ m = "low") (h2 : ¬ m = "high") (h3 : ¬ m = "low_in") (h4 : ¬ m = "high_in") : ∃ dx fs, H p = some (.ins CS dx fs) ∧ fs.lookup m = none := by
  obtain ⟨⟨dx, l, h, e, _⟩, _⟩ := a
  exact ⟨dx, _, e, sf_no _ _ _ _ h1 h2 h3 h4⟩
theorem EndsAt.due {H : Hp} {p : Addr} {ea eb : Option Q2} {ia ib : Bool} (a : EndsAt H p ea eb ia ib) : DueV H (.ref p) (ea, ia) (eb, ib) := .inl ⟨a.so, p, rfl, a⟩
/-! ### what a stretch holds -/
def loIn : Option Q2 → Bool → Q2 → Bool
  | none, _, _ => true
  | some a, i, x => ltq a x || (i && eqq a x)
def hiIn : Option Q2 → Bool → Q2 → Bool
  | none, _, _ => true
  | some b, j, x => ltq x b || (j && eqq x b)
theorem ltq_trans {a b c : Q2} (hb : 0 < b.2) (ha : 0 < a.2) (hc : 0 < c.2) (h : ltq a b = true) (g : ltq b c = true) : ltq a c = true := by
  unfold ltq at *
  have h := of_decide_eq_true h
  have g := of_decide_eq_true g
  refine decide_eq_true ?_
  have h2 := Int.mul_lt_mul_of_pos_right h hc
  have g2 := Int.mul_lt_mul_of_pos_right g ha
  have e1 : b.1 * a.2 * c.2 = b.1 * c.2 * a.2 := by simp only [Int.mul_assoc, Int.mul_comm, Int.mul_left_comm]
  rw [e1] at h2
  have k := Int.lt_trans h2 g2
  have e2 : a.1 * b.2 * c.2 = a.1 * c.2 * b.2 := by simp only [Int.mul_assoc, Int.mul_comm, Int.mul_left_comm]
  have e3 : c.1 * b.2 * a.2 = c.1 * a.2 * b.2 := by simp only [Int.mul_assoc, Int.mul_comm, Int.mul_left_comm]
  rw [e2, e3] at k
  exact Int.lt_of_mul_lt_mul_right k (Int.le_of_lt hb)
theorem eqq_re {a b : Q2} (ha : 0 < a.2) (hb : 0 < b.2) (h : eqq a b = true) : Re a b := ⟨ha, hb, of_decide_eq_true h⟩
theorem loIn_alike {x y : Option Q2 × Bool} {q r : Q2} (h : Alike x y) (g : Re q r) : loIn x.1 x.2 q = loIn y.1 y.2 r := by
  obtain ⟨x, i⟩ := x
  obtain ⟨y, j⟩ := y
  obtain ⟨h1, h2⟩ := h
  cases x with
  | none => cases y with
    | none => rfl
    | some _ => exact h1.elim
  | some a => cases y with
    | none => exact h1.elim
    | some b =>
      have e : i = j := h2 rfl
      show (ltq a q || (i && eqq a q)) = (ltq b r || (j && eqq b r))
      rw [ltq_congr h1 g, eqq_congr h1 g, e]
theorem hiIn_alike {x y : Option Q2 × Bool} {q r : Q2} (h : Alike x y) (g : Re q r) : hiIn x.1 x.2 q = hiIn y.1 y.2 r := by
  obtain ⟨x, i⟩ := x
  obtain ⟨y, j⟩ := y
  obtain ⟨h1, h2⟩ := h
  cases x with
  | none => cases y with
    | none => rfl
    | some _ => exact h1.elim
  | some a => cases y with
    | none => exact h1.elim
    | some b =>
      have e : i = j := h2 rfl
      show (ltq q a || (i && eqq q a)) = (ltq r b || (j && eqq r b))
      rw [ltq_congr g h1, eqq_congr g h1, e]
theorem loIn_up {a b x : Q2} {i j : Bool} (ha : 0 < a.2) (hb : 0 < b.2) (hx : 0 < x.2) (h : ltq a b = true) (g : (ltq b x || (j && eqq b x)) = true) : (ltq a x || (i && eqq a x)) = true := by
  have e : ltq a x = true := by
    cases e1 : ltq b x with
    | true => exact ltq_trans hb ha hx h e1
    | false =>
      rw [e1, Bool.false_or] at g
      have e2 := (Bool.and_eq_true_iff.mp g).2
      rw [← ltq_congr (Re.refl ha) (eqq_re hb hx e2)]
      exact h
  rw [e]; rfl
theorem hiIn_up {a b x : Q2} {i j : Bool} (ha : 0 < a.2) (hb : 0 < b.2) (hx : 0 < x.2) (h : ltq b a = true) (g : (ltq x b || (j && eqq x b)) = true) : (ltq x a || (i && eqq x a)) = true := by
  have e : ltq x a = true := by
    cases e1 : ltq x b with
    | true => exact ltq_trans hb hx ha e1 h
    | false =>
      rw [e1, Bool.false_or] at g
      have e2 := (Bool.and_eq_true_iff.mp g).2
      rw [ltq_congr (eqq_re hx hb e2) (Re.refl ha)]
      exact h
  rw [e]; rfl
theorem cutLo_in {a b : Option Q2} {i j : Bool} {x : Q2} (ha : PosO a) (hb : PosO b) (hx : 0 < x.2) : loIn (cutLo a i b j).1 (cutLo a i b j).2 x = (loIn a i x && loIn b j x) := by
  cases a with
  | none => rfl
  | some a => cases b with
    | none => exact (Bool.and_true _).symm
    | some b =>
      show loIn (if ltq a b then (some b, j) else if eqq a b then (some a, i && j) else (some a, i)).1 (if ltq a b then (some b, j) else if eqq a b then (some a, i && j) else (some a, i)).2 x = ((ltq a x || (i && eqq a x)) && (ltq b x || (j && eqq b x)))
      rcases lt_tri a b with ⟨h1, h2, h3⟩ | ⟨h1, h2, h3⟩ | ⟨h1, h2, h3⟩
      · rw [h1]
        show (ltq b x || (j && eqq b x)) = _
        cases e : (ltq b x || (j && eqq b x)) with
        | false => simp
        | true => rw [loIn_up ha hb hx h1 e]; rfl
      · rw [h1, h2]
        show (ltq a x || (i && j && eqq a x)) = _
        have r := eqq_re ha hb h2
        rw [← ltq_congr r (Re.refl hx), ← eqq_congr r (Re.refl hx)]
        cases ltq a x <;> cases eqq a x <;> cases i <;> cases j <;> rfl
      · rw [h1, h2]
        show (ltq a x || (i && eqq a x)) = _
        cases e : (ltq a x || (i && eqq a x)) with
        | false => rfl
        | true => rw [loIn_up hb ha hx h3 e]; rfl
theorem cutHi_in {a b : Option Q2} {i j : Bool} {x : Q2} (ha : PosO a) (hb : PosO b) (hx : 0 < x.2) : hiIn (cutHi a i b j).1 (cutHi a i b j).2 x = (hiIn a i x && hiIn b j x) := by
  cases a with
  | none => rfl
  | some a => cases b with
    | none => exact (Bool.and_true _).symm
    | some b =>
      show hiIn (if ltq b a then (some b, j) else if eqq a b then (some a, i && j) else (some a, i)).1 (if ltq b a then (some b, j) else if eqq a b then (some a, i && j) else (some a, i)).2 x = ((ltq x a || (i && eqq x a)) && (ltq x b || (j && eqq x b)))
      rcases lt_tri a b with ⟨h1, h2, h3⟩ | ⟨h1, h2, h3⟩ | ⟨h1, h2, h3⟩
      · rw [h3, h2]
        show (ltq x a || (i && eqq x a)) = _
        cases e : (ltq x a || (i && eqq x a)) with
        | false => rfl
        | true => rw [hiIn_up hb ha hx h1 e]; rfl
      · rw [h3, h2]
        show (ltq x a || (i && j && eqq x a)) = _
        have r := eqq_re ha hb h2
        rw [← ltq_congr (Re.refl hx) r, ← eqq_congr (Re.refl hx) r]
        cases ltq x a <;> cases eqq x a <;> cases i <;> cases j <;> rfl
      · rw [h3]
        show (ltq x b || (j && eqq x b)) = _
        cases e : (ltq x b || (j && eqq x b)) with
        | false => simp
        | true => rw [hiIn_up ha hb hx h3 e]; rfl
/-! ### sums, once more, by the size of the new bottom -/
def sp_bin2 (C : Addr) (f g : Int → Int → Int → Int → Int) : Sp := fun vs H Q _ => ∃ (p q : Addr) (t u t' u' : Int), vs = [.ref p, .ref q] ∧ MAt C H p t u ∧ MAt C H q t' u' ∧ 0 < u ∧ 0 < u' ∧ Sz 100000 t ∧ Sz 100000 u ∧ Sz 100000 t' ∧ Sz 100000 u' ∧ Sz 9000 (u * u') ∧
  ∀ (r : Addr) (t2 u2 : Int) (H' : Hp), H r = none → Same H H' → MAt C H' r t2 u2 → Fr t2 u2 (f t u t' u') (g t u t' u') → Q (.ref r) H'
def sp_part2 (C : Addr) : Sp := fun vs H Q _ => ∃ (p : Addr) (t u m : Int), vs = [.ref p, .int m] ∧ MAt C H p t u ∧ 0 < u ∧ m ≠ 0 ∧ Sz 100000 t ∧ Sz 100000 u ∧ Sz 100000 m ∧ Sz 9000 (u * m) ∧
  ∀ (r : Addr) (t2 u2 : Int) (H' : Hp), H r = none → Same H H' → MAt C H' r t2 u2 → Fr t2 u2 t (u * m) → Q (.ref r) H'
/-- a Measure that the stretch holds -/
structure Held (CM : Addr) (H : Hp) (r : Addr) (x : Q2) (lo hi : Option Q2) (li hj : Bool) : Prop where
  at_ : MAt CM H r x.1 x.2
  pos : 0 < x.2
  s1 : Sz 15000 x.1
  s2 : Sz 15000 x.2
  low : loIn lo li x = true
  high : hiIn hi hj x = true
def sp_somem (CM CS : Addr) : Sp := fun vs H Q _ => ∃ (p : Addr) (lo hi : Option Q2) (li hj : Bool), vs = [.ref p] ∧ StAt CM CS H p lo hi li hj ∧ someB lo hi li hj = true ∧
  ∀ (r : Addr) (x : Q2) (H' : Hp), Same H H' → Held CM H' r x lo hi li hj → Q (.ref r) H'
def sp_meets (CM CS : Addr) : Sp := fun vs H Q _ => ∃ (p q : Addr) (m1 m2 n1 n2 : Option Q2) (i1 i2 j1 j2 : Bool), vs = [.ref p, .ref q] ∧ StAt CM CS H p m1 m2 i1 i2 ∧ StAt CM CS H q n1 n2 j1 j2 ∧
  ∀ H' : Hp, Same H H' → Q (.bl (someB (cutLo m1 i1 n1 j1).1 (cutHi m2 i2 n2 j2).1 (cutLo m1 i1 n1 j1).2 (cutHi m2 i2 n2 j2).2)) H'
/-- a Measure in both, or None -/
def ShV (CM : Addr) (H : Hp) (v : V) (m1 m2 n1 n2 : Option Q2) (i1 i2 j1 j2 : Bool) : Prop :=
  (someB (cutLo m1 i1 n1 j1).1 (cutHi m2 i2 n2 j2).1 (cutLo m1 i1 n1 j1).2 (cutHi m2 i2 n2 j2).2 = true ∧ ∃ r x, v = .ref r ∧ Held CM H r x m1 m2 i1 i2 ∧ Held CM H r x n1 n2 j1 j2) ∨
  (someB (cutLo m1 i1 n1 j1).1 (cutHi m2 i2 n2 j2).1 (cutLo m1 i1 n1 j1).2 (cutHi m2 i2 n2 j2).2 = false ∧ v = .non)
theorem Held.same {CM r : Addr} {H H' : Hp} {x : Q2} {lo hi : Option Q2} {li hj : Bool} (a : Held CM H r x lo hi li hj) (s : Same H H') : Held CM H' r x lo hi li hj := ⟨a.at_.same s, a.pos, a.s1, a.s2, a.low, a.high⟩
theorem ShV.same {CM : Addr} {H H' : Hp} {v : V} {m1 m2 n1 n2 : Option Q2} {i1 i2 j1 j2 : Bool} (a : ShV CM H v m1 m2 n1 n2 i1 i2 j1 j2) (s : Same H H') : ShV CM H' v m1 m2 n1 n2 i1 i2 j1 j2 := by
  rcases a with ⟨e, r, x, h1, h2, h3⟩ | h
  · exact .inl ⟨e, r, x, h1, h2.same s, h3.same s⟩
  · exact .inr h
def sp_shared (CM CS : Addr) : Sp := fun vs H Q _ => ∃ (p q : Addr) (m1 m2 n1 n2 : Option Q2) (i1 i2 j1 j2 : Bool), vs = [.ref p, .ref q] ∧ StAt CM CS H p m1 m2 i1 i2 ∧ StAt CM CS H q n1 n2 j1 j2 ∧
  ∀ (v : V) (H' : Hp), Same H H' → ShV CM H' v m1 m2 n1 n2 i1 i2 j1 j2 → Q v H'
theorem held_cut {CM r : Addr} {H : Hp} {x : Q2} {m1 m2 n1 n2 : Option Q2} {i1 i2 j1 j2 : Bool} (p1 : PosO m1) (p2 : PosO m2) (p3 : PosO n1) (p4 : PosO n2)
    (h : Held CM H r x (cutLo m1 i1 n1 j1).1 (cutHi m2 i2 n2 j2).1 ((cutLo m1 i1 n1 j1).2 && (cutLo m1 i1 n1 j1).1.isSome) ((cutHi m2 i2 n2 j2).2 && (cutHi m2 i2 n2 j2).1.isSome)) : Held CM H r x m1 m2 i1 i2 ∧ Held CM H r x n1 n2 j1 j2 := by
  have e1 : loIn (cutLo m1 i1 n1 j1).1 ((cutLo m1 i1 n1 j1).2 && (cutLo m1 i1 n1 j1).1.isSome) x = loIn (cutLo m1 i1 n1 j1).1 (cutLo m1 i1 n1 j1).2 x := by
    generalize cutLo m1 i1 n1 j1 = c
    obtain ⟨c, i⟩ := c
    cases c with
    | none => rfl
    | some a => show (ltq a x || ((i && true) && eqq a x)) = _; rw [Bool.and_true]; rfl
  have e2 : hiIn (cutHi m2 i2 n2 j2).1 ((cutHi m2 i2 n2 j2).2 && (cutHi m2 i2 n2 j2).1.isSome) x = hiIn (cutHi m2 i2 n2 j2).1 (cutHi m2 i2 n2 j2).2 x := by
    generalize cutHi m2 i2 n2 j2 = c
    obtain ⟨c, i⟩ := c
    cases c with
    | none => rfl
    | some a => show (ltq x a || ((i && true) && eqq x a)) = _; rw [Bool.and_true]; rfl
  have h1 := h.low
  have h2 := h.high
  rw [e1, cutLo_in p1 p3 h.pos] at h1
  rw [e2, cutHi_in p2 p4 h.pos] at h2
  obtain ⟨a1, a2⟩ := Bool.and_eq_true_iff.mp h1
  obtain ⟨b1, b2⟩ := Bool.and_eq_true_iff.mp h2
  exact ⟨⟨h.at_, h.pos, h.s1, h.s2, a1, b1⟩, ⟨h.at_, h.pos, h.s1, h.s2, a2, b2⟩⟩
def sp_lin : Sp := fun vs H Q _ => ∃ (p : Addr) (v va vb : V) (ea eb : Option Q2) (ia ib : Bool) (x : Q2), vs = [.ref p, v] ∧ H p = some (.tup [va, vb, .bl ia, .bl ib]) ∧ EndV 140 H va ea ∧ EndV 140 H vb eb ∧ EndV 20000 H v (some x) ∧ Q (.bl (loIn ea ia x && hiIn eb ib x)) H
theorem one_one {t u : Int} (f : Fr t u 1 1) : t = u := by have := f.eq; omega
theorem below_one {b : Q2} {t u t2 u2 : Int} (hb : 0 < b.2) (f : Fr t u 1 1) (g : Fr t2 u2 (b.1 * u - t * b.2) (b.2 * u)) : ltq (t2, u2) b = true := by
  have e := one_one f
  subst e
  have ht := f.pos
  have hp : 0 < b.2 * t := Int.mul_pos hb ht
  rw [ltq_congr (g.re hp) (Re.refl hb)]
  refine decide_eq_true ?_
  show (b.1 * t - t * b.2) * b.2 < b.1 * (b.2 * t)
  have h1 : 0 < t * b.2 * b.2 := Int.mul_pos (Int.mul_pos ht hb) hb
  have h2 : (b.1 * t - t * b.2) * b.2 = b.1 * (b.2 * t) - t * b.2 * b.2 := by grind
  omega
theorem above_one {a : Q2} {t u t2 u2 : Int} (ha : 0 < a.2) (f : Fr t u 1 1) (g : Fr t2 u2 (a.1 * u + t * a.2) (a.2 * u)) : ltq a (t2, u2) = true := by
  have e := one_one f
  subst e
  have ht := f.pos
  have hp : 0 < a.2 * t := Int.mul_pos ha ht
  rw [ltq_congr (Re.refl ha) (g.re hp)]
  refine decide_eq_true ?_
  show a.1 * (a.2 * t) < (a.1 * t + t * a.2) * a.2
  have h1 : 0 < t * a.2 * a.2 := Int.mul_pos (Int.mul_pos ht ha) ha
  have h2 : (a.1 * t + t * a.2) * a.2 = a.1 * (a.2 * t) + t * a.2 * a.2 := by grind
  omega
theorem mid_lt {a b : Q2} {t2 u2 t3 u3 : Int} (ha : 0 < a.2) (hb : 0 < b.2) (h : ltq a b = true) (g : Fr t2 u2 (a.1 * b.2 + b.1 * a.2) (a.2 * b.2)) (g3 : Fr t3 u3 t2 (u2 * 2)) : ltq a (t3, u3) = true ∧ ltq (t3, u3) b = true := by
  have hu := g.pos
  have hp : 0 < a.2 * b.2 := Int.mul_pos ha hb
  have e2 := g.eq
  have r1 : Re (t3, u3) (t2, u2 * 2) := g3.re (by omega)
  have r2 : Re (t2, u2 * 2) (a.1 * b.2 + b.1 * a.2, a.2 * b.2 * 2) := ⟨by show 0 < u2 * 2; omega, by show 0 < a.2 * b.2 * 2; omega, by
    show t2 * (a.2 * b.2 * 2) = (a.1 * b.2 + b.1 * a.2) * (u2 * 2)
    grind⟩
  have r := r1.trans r2
  have h := of_decide_eq_true h
  constructor
  · rw [ltq_congr (Re.refl ha) r]
    refine decide_eq_true ?_
    show a.1 * (a.2 * b.2 * 2) < (a.1 * b.2 + b.1 * a.2) * a.2
    have k := Int.mul_lt_mul_of_pos_right h ha
    have e1 : a.1 * (a.2 * b.2 * 2) = a.1 * b.2 * a.2 + a.1 * b.2 * a.2 := by grind
    have e3 : (a.1 * b.2 + b.1 * a.2) * a.2 = a.1 * b.2 * a.2 + b.1 * a.2 * a.2 := by grind
    omega
  · rw [ltq_congr r (Re.refl hb)]
    refine decide_eq_true ?_
    show (a.1 * b.2 + b.1 * a.2) * b.2 < b.1 * (a.2 * b.2 * 2)
    have k := Int.mul_lt_mul_of_pos_right h hb
    have e1 : b.1 * (a.2 * b.2 * 2) = b.1 * a.2 * b.2 + b.1 * a.2 * b.2 := by grind
    have e3 : (a.1 * b.2 + b.1 * a.2) * b.2 = a.1 * b.2 * b.2 + b.1 * a.2 * b.2 := by grind
    omega
theorem eqq_self (a : Q2) : eqq a a = true := decide_eq_true rfl
/-! ### lists of points, made in comprehensions -/
/-- all but lists stays -/
def Nl (H H' : Hp) : Prop := ∀ c o, H c = some o → notHand o = true → H' c = some o
theorem Nl.of {H H' : Hp} (s : Same H H') : Nl H H' := fun c o e _ => s c o e
theorem Nl.put {H : Hp} {l : Addr} {xs : List V} {u : HO} (h : H l = some (.lst xs)) : Nl H (upd H l u) := fun c o e no => up2 h e no
theorem EndV.nl {k : Nat} {H H' : Hp} {v : V} : ∀ {e : Option Q2}, EndV k H v e → Nl H H' → EndV k H' v e
  | none, h, _ => h
  | some _, ⟨p, h1, h2, h3⟩, s => ⟨p, h1, s _ _ h2 rfl, h3⟩
def PtV (k : Nat) (H : Hp) (v : V) : Prop := ∃ a : Q2, EndV k H v (some a)
theorem PtV.nl {k : Nat} {H H' : Hp} {v : V} (h : PtV k H v) (s : Nl H H') : PtV k H' v := by
  obtain ⟨a, h⟩ := h
  exact ⟨a, h.nl s⟩
theorem lcp {K : PySem.W.Frag} {a : Addr} {xs : List V} {g : TG} {tt : TT} {te : TE} {vs : List Nat} {σ : L2.St} {H1 : Hp} {D : Addr} {Qd : Hp → Prop} (R : Hp → V → Prop) (hR : ∀ H H' y, R H y → Nl H H' → R H' y) (hz : xs.length < sizeLine) (hS : SqL K H1 a xs) (hD : H1 D = none)
    (hs : ∀ (i : Nat) (x : V) (H : Hp) (N : VK) (M : Hp → Prop), xs[i]? = some x → Same H1 H → (∀ y H4, Same H H4 → R H4 y → N y H4) → M H → g x (wipe σ vs) H fun σ2 H2 => wipe σ2 vs = wipe σ vs ∧ tt σ2 H2 fun b H3 => if b = true then te σ2 H3 N else M H3)
    (hd : ∀ H ys, Same H1 H → H D = some (.lst ys) → ys.length ≤ xs.length → (∀ y ∈ ys, R H y) → Qd H) :
    ∃ W : Nat → Nat → Hp → Prop, (∃ m, W 0 m (upd H1 D (.lst []))) ∧ ∀ i m H, W i m H →
      ((Itl K a).stop i H ∧ Qd H) ∨ ((Itl K a).go i H ∧ ∃ Nx : Hp → Prop, (∀ H', Nx H' → ∃ m', m' < m ∧ W (i + 1) m' H') ∧ ∀ x H', (Itl K a).yld i H x H' → g x (wipe σ vs) H' fun σ2 H2 => wipe σ2 vs = wipe σ vs ∧ tt σ2 H2 fun b H3 =>
        if b = true then te σ2 H3 fun y H4 => ∃ acc, H4 D = some (.lst acc) ∧ acc.length < sizeLine ∧ Nx (upd H4 D (.lst (acc ++ [y]))) else Nx H3) := by
  refine lc_list (fun i H => Same H1 H ∧ ∃ ys, H D = some (.lst ys) ∧ ys.length ≤ i ∧ ∀ y ∈ ys, R H y) ⟨same1 hD, [], upd_same, Nat.le_refl _, fun y hy => nomatch hy⟩ (fun i H _ p => p.1.seq hS) (fun i x H hx p => ?_) (fun H p => ?_)
  · have hi : i < xs.length := (List.getElem?_eq_some_iff.mp hx).1
    obtain ⟨s1, ys, h1, h2, h3⟩ := p
    refine hs i x H _ _ hx s1 (fun y H4 s4 r4 => ⟨ys, s4 _ _ h1, by omega, ?_, ys ++ [y], upd_same, ?_, ?_⟩) ⟨s1, ys, h1, by omega, h3⟩
    · intro c o e
      rw [upd_ne (ne_of_none e hD)]
      exact s4 _ _ (s1 _ _ e)
    · rw [List.length_append, List.length_singleton]; omega
    · intro z hz
      have n4 : Nl H4 (upd H4 D (.lst (ys ++ [y]))) := Nl.put (s4 _ _ h1)
      rcases List.mem_append.mp hz with hz | hz
      · exact hR _ _ _ (hR _ _ _ (h3 z hz) (Nl.of s4)) n4
      · have : z = y := by simpa using hz
        subst this
        exact hR _ _ _ r4 n4
  · obtain ⟨s1, ys, h1, h2, h3⟩ := p
    exact hd H ys s1 h1 h2 h3
theorem lcpT {K : PySem.W.Frag} {a : Addr} {xs : List V} {g : TG} {tt : TT} {te : TE} {vs : List Nat} {σ : L2.St} {H1 : Hp} {D : Addr} {Qd : Hp → Prop} (R : Hp → V → Prop) (hR : ∀ H H' y, R H y → Nl H H' → R H' y) (hz : xs.length < sizeLine) (hS : SqT K H1 a xs) (hD : H1 D = none)
    (hs : ∀ (i : Nat) (x : V) (H : Hp) (N : VK) (M : Hp → Prop), xs[i]? = some x → Same H1 H → (∀ y H4, Same H H4 → R H4 y → N y H4) → M H → g x (wipe σ vs) H fun σ2 H2 => wipe σ2 vs = wipe σ vs ∧ tt σ2 H2 fun b H3 => if b = true then te σ2 H3 N else M H3)
    (hd : ∀ H ys, Same H1 H → H D = some (.lst ys) → ys.length ≤ xs.length → (∀ y ∈ ys, R H y) → Qd H) :
    ∃ W : Nat → Nat → Hp → Prop, (∃ m, W 0 m (upd H1 D (.lst []))) ∧ ∀ i m H, W i m H →
      ((Itt K a).stop i H ∧ Qd H) ∨ ((Itt K a).go i H ∧ ∃ Nx : Hp → Prop, (∀ H', Nx H' → ∃ m', m' < m ∧ W (i + 1) m' H') ∧ ∀ x H', (Itt K a).yld i H x H' → g x (wipe σ vs) H' fun σ2 H2 => wipe σ2 vs = wipe σ vs ∧ tt σ2 H2 fun b H3 =>
        if b = true then te σ2 H3 fun y H4 => ∃ acc, H4 D = some (.lst acc) ∧ acc.length < sizeLine ∧ Nx (upd H4 D (.lst (acc ++ [y]))) else Nx H3) := by
  refine lc_tup (fun i H => Same H1 H ∧ ∃ ys, H D = some (.lst ys) ∧ ys.length ≤ i ∧ ∀ y ∈ ys, R H y) ⟨same1 hD, [], upd_same, Nat.le_refl _, fun y hy => nomatch hy⟩ (fun i H _ p => p.1.sqt hS) (fun i x H hx p => ?_) (fun H p => ?_)
  · have hi : i < xs.length := (List.getElem?_eq_some_iff.mp hx).1
    obtain ⟨s1, ys, h1, h2, h3⟩ := p
    refine hs i x H _ _ hx s1 (fun y H4 s4 r4 => ⟨ys, s4 _ _ h1, by omega, ?_, ys ++ [y], upd_same, ?_, ?_⟩) ⟨s1, ys, h1, by omega, h3⟩
    · intro c o e
      rw [upd_ne (ne_of_none e hD)]
      exact s4 _ _ (s1 _ _ e)
    · rw [List.length_append, List.length_singleton]; omega
    · intro z hz
      have n4 : Nl H4 (upd H4 D (.lst (ys ++ [y]))) := Nl.put (s4 _ _ h1)
      rcases List.mem_append.mp hz with hz | hz
      · exact hR _ _ _ (hR _ _ _ (h3 z hz) (Nl.of s4)) n4
      · have : z = y := by simpa using hz
        subst this
        exact hR _ _ _ r4 n4
  · obtain ⟨s1, ys, h1, h2, h3⟩ := p
    exact hd H ys s1 h1 h2 h3
def sp_beside : Sp := fun vs H Q _ => ∃ (v : V) (a : Q2) (s : Int), vs = [v, .int s] ∧ EndV 140 H v (some a) ∧ 0 < s ∧ Sz 140 s ∧
  ∀ (l : Addr) (xs : List V) (H' : Hp), Same H H' → H' l = some (.lst xs) → xs.length = 2 → (∀ x ∈ xs, PtV 1000 H' x) → Q (.ref l) H'
def sp_points (sq : Hp → Addr → List V → Prop) : Sp := fun vs H Q _ => ∃ (h p : Addr) (n : Nat) (xs : List V), vs = [.ref h, .ref p] ∧ HandAt H h n ∧ n < 1000 ∧ sq H p xs ∧ xs.length ≤ 6 ∧ (∀ x ∈ xs, ∃ e, EndV 140 H x e) ∧
  ∀ (l : Addr) (ys : List V) (H' : Hp), H' l = some (.lst ys) → ys.length ≤ 100 → (∀ y ∈ ys, PtV 1000 H' y) → l ≠ h → HandAt H' h (n + 9) → Kp h H H' → Q (.ref l) H'
def sp_holds (CM CS : Addr) : Sp := fun vs H Q _ => ∃ (p q : Addr) (x : Q2) (lo hi : Option Q2) (li hj : Bool), vs = [.ref p, .ref q] ∧ StAt CM CS H p lo hi li hj ∧ MAt CM H q x.1 x.2 ∧ 0 < x.2 ∧ Sz 9000 x.1 ∧ Sz 9000 x.2 ∧ Q (.bl (loIn lo li x && hiIn hi hj x)) H
theorem lessA_eq (a b : Q2) (i : Bool) : lessA a.1 a.2 b.1 b.2 i = (ltq a b || (i && eqq a b)) := rfl
end My
namespace My
open PySem PySem.Spec PyProof.Rows L2
/-! ### errors -/
section
variable {P : Program} {w : World} {K : PySem.W.Frag} {mg : Str → Option Value} {base : Heap} {k : Nat} {f : Addr} {fd : FuncData} {ps : List Str}
/-- a def that lets nothing out keeps its promise where more may be let out -/
theorem lift {CX : CXT} {sp : Sp} (F : FnOk P w K mg base CX0 k f fd ps sp) : FnOk P w K mg base CX k f fd ps sp :=
  ⟨F.len, fun A outer s H args us vs Q E hr he hb hv hs => codeAny_mono (F.run A outer s H args us vs Q E hr he hb hv hs) fun r s' hq => by
    cases r with
    | error e => exact False.elim hq
    | ok fl => cases fl <;> exact hq⟩
theorem either {CX : CXT} {sp sp' : Sp} (F : FnOk P w K mg base CX k f fd ps sp) (G : FnOk P w K mg base CX k f fd ps sp') : FnOk P w K mg base CX k f fd ps (fun vs H Q E => sp vs H Q E ∨ sp' vs H Q E) :=
  ⟨fun vs H Q E h => h.elim (F.len vs H Q E) (G.len vs H Q E), fun A outer s H args us vs Q E hr he hb hv hs => hs.elim (F.run A outer s H args us vs Q E hr he hb hv) (G.run A outer s H args us vs Q E hr he hb hv)⟩
end
section
variable {X : Cx} {CX : CXT} {k : Nat} {f C : Addr} {fd : FuncData} {ps : List Str} {sp : Sp} {dvs : List V} {ds : List Value} {x : Str} {p pos : Pos} {e : Expr} {es : List Expr} {t : TA} {E : L2.St → XK}
/-- C(e, ..) in a body from which an error may come -/
def tMakeS (C : Addr) (sp : Sp) (dvs : List V) (E : L2.St → XK) (t : TA) : TE := fun σ H Q => t σ H fun vs H1 => ∀ x dx, H1 x = none → H1 dx = none → dx ≠ x →
  sp (.ref x :: (vs ++ dvs)) (upd (upd H1 dx (.own x)) x (.ins C dx [])) (fun v H2 => v = .non ∧ Q (.ref x) H2) (E σ)
theorem pe_makeS (M : Mk X.K C f) (F : FnOk X.prog X.w X.K X.mg X.base CX k f fd ps sp) (hr : Room (k + 1) X.A) (hg : Gl X x) (hm : X.mg x = some (.ref C)) (hb : Binds X.K fd ps ds) (hd : Vals dvs ds) (hx : ∀ σ, PassesAt CX X σ (E σ))
    (ha : PA X (e :: es) t) (hdb : (x == ("__debug__" : Str)) = false := by decide) (he : starEach (e :: es) X.env = (false, eval e X.env) :: starEach es X.env := by rfl) (hpl : (backTo pos (starEach es X.env)).any (·.1) = false := by rfl) :
    PE X (.Call (.Name x p) (e :: es) [] pos) (tMakeS C sp dvs E t) := by
  refine ⟨fun pins s0 σ H0 Q I0 h => ?_⟩
  refine wpAny_Call_Name_kw (ld_glob I0 hg hm ?_ hdb)
  refine PySem.W.callWith_K (h₀ := X.base) I0.ok.mod.kin M.kp (thn (ha.run pos pins s0 σ H0 _ I0 h) fun us s ⟨vs, H, I, r, q⟩ => ⟨I.kIn, ?_⟩) he hpl
  have hq := q (s.heap.objs.size + 1) s.heap.objs.size (I.hok.fresh (Nat.le_succ _)) (I.hok.fresh (Nat.le_refl _)) (Nat.ne_of_lt (Nat.lt_succ_self _))
  have I2 := Inv.made (C := C) I
  have r2 : Vals (V.ref (s.heap.objs.size + 1) :: (vs ++ dvs)) (Value.ref (s.heap.objs.size + 1) :: (us ++ ds)) := .cons rfl (r.append hd)
  have hl : (Value.ref (s.heap.objs.size + 1) :: us ++ ds).length = ps.length := by
    have z := r2.length
    rw [F.len _ _ _ _ hq] at z
    exact z.symm
  refine wpAny_call (make_map (f := f) I.kIn M.makes M.init (beq_iff_eq.mp M.fn) (codeAny_mono (F.run _ X.stack _ _ ⟨Value.ref (s.heap.objs.size + 1) :: us, []⟩ (Value.ref (s.heap.objs.size + 1) :: (us ++ ds)) _ _ (E σ) (hr.make C us [])
    (I2.env0.make C us []) (hb _ (Value.ref (s.heap.objs.size + 1) :: us) I2.kIn hl) r2 hq) fun r s' hq' => ?_))
  cases r with
  | error e => exact hx σ pins _ _ e s' I2 hq'
  | ok fl =>
    cases fl with
    | ret u =>
      obtain ⟨v, H', I3, rv, ev, q3⟩ := I2.after hq'
      subst ev
      exact ⟨rv, ⟨V.ref (s.heap.objs.size + 1), H', I3, rfl, q3⟩⟩
    | next => exact False.elim hq'
    | brk => exact False.elim hq'
    | cont => exact False.elim hq'
end
/-- isinstance(e, c) of the error that a suite holds, whatever it is -/
def rIsX (K : PySem.W.Frag) (cls : Value) (d : Option Addr) (a : Addr) : List V → Hp → VK → Prop := fun xs H Q => ∃ D, cls = .ref D ∧ d = none ∧ ExcC K D ∧ rIsE K D a xs H Q
theorem isX {X : Cx} {K : PySem.W.Frag} {a : Addr} {cls : Value} {d : Option Addr} {oe : Obj} {pn : List (Addr × Obj)} (hz : Zc cls d oe) (hf : ∃ vs, oe.data = .fields vs) (hK : X.K = K := by rfl) : CallR (X.suite a ((a, oe) :: pn)) (.builtin "isinstance") (rIsX K cls d a) := by
  subst hK
  intro pins s σ H xs us Q I r h
  obtain ⟨D, rfl, rfl, c, h⟩ := h
  exact call_isE c hz hf pins s σ H xs us Q I r h
def rIsXT (K : PySem.W.Frag) (cls : Value) (d : Option Addr) (a : Addr) : List V → Hp → VK → Prop := fun xs H Q => ∃ (D tp : Addr) (cs : List V) (us : List Value) (b : Bool), cls = .ref D ∧ d = none ∧ ExcC K D ∧ xs = [.ref a, .ref tp] ∧ H tp = some (.tup cs) ∧ Paired ClsV cs us ∧ PySem.W.kitAny K (.ref D) us = some b ∧ Q (.bl b) H
theorem isXT {X : Cx} {K : PySem.W.Frag} {a : Addr} {cls : Value} {d : Option Addr} {oe : Obj} {pn : List (Addr × Obj)} (hz : Zc cls d oe) (hf : ∃ vs, oe.data = .fields vs) (hK : X.K = K := by rfl) : CallR (X.suite a ((a, oe) :: pn)) (.builtin "isinstance") (rIsXT K cls d a) := by
  subst hK
  intro pins s σ H xs us Q I r h
  obtain ⟨D, tp, cs, ws, b, rfl, rfl, c, rfl, hT, kk, e, q⟩ := h
  obtain ⟨u1, u2, rfl, r1, r2⟩ := vals2 r
  cases (show u1 = Value.ref a from r1)
  cases (show u2 = Value.ref tp from r2)
  obtain ⟨hget, _⟩ := I.pin (a, oe) (List.mem_append.mpr (.inl List.mem_cons_self))
  obtain ⟨vs, hv⟩ := hf
  have J : PySem.W.InstAt s.heap a oe D none := by
    obtain ⟨oc, od, oda, osl⟩ := oe
    obtain ⟨h1, h2⟩ := hz
    dsimp only at h1 h2 hv
    subst h1 h2 hv
    exact ⟨hget, rfl, rfl, trivial⟩
  obtain ⟨_, its, rv, o, h1, h2, n, h3⟩ := (show ObjOk X.prog X.w H s.heap tp (.tup cs) from I.hok tp _ hT)
  have e3 := ClsV.all kk rv
  subst e3
  obtain ⟨oc, od, dt, sl⟩ := o
  simp only at h2 h3
  subst h2 h3
  exact PySem.W.kia_tup (PySem.W.handS_kitx_exc c.hg c.hk c.hs c.hd c.ha c.hn c.ht c.hm) I.kIn J h1 e (fun z => nomatch z) fun tk => ⟨.bl b, H, I.kept (t' := tk) fun _ _ z => z, rfl, q⟩
/-! ### several clauses, each with the error by the same name; nothing leaves -/
/-- behind a suite the name is gone -/
def endsAs (i : Nat) (D : Ends) : Ends where
  nx := fun τ G => D.nx (τ.set i none) G
  rt := D.rt
  bk := fun τ G => D.bk (τ.set i none) G
  ct := fun τ G => D.ct (τ.set i none) G
def wAll (K : PySem.W.Frag) (i : Nat) (D : Ends) : List (Value × (Addr → Value → Option Addr → TS)) → WX
  | [] => fun _ _ _ _ => False
  | (c, ts) :: r => fun cls d τ G => ∃ b, PySem.W.exmOne K cls c = some b ∧ (b = true → ∀ q, G q = none → ts q cls d (endsAs i D) (τ.set i (some (.ref q))) G) ∧ (b = false → wAll K i D r cls d τ G)
inductive Clauses (X : Cx) (n : Str) : List ExceptHandler → List (Value × (Addr → Value → Option Addr → TS)) → Prop
  | none : Clauses X n [] []
  | more {x : Str} {c : Value} {ts : Addr → Value → Option Addr → TS} {b : Stmt} {bs : List Stmt} {px ph : Pos} {hs : List ExceptHandler} {l : List (Value × (Addr → Value → Option Addr → TS))} (nm : Names X x c)
      (su : ∀ (q : Addr) (oq : Obj) (cls : Value) (d : Option Addr) (pn : List (Addr × Obj)), Zc cls d oq → (∃ vs, oq.data = .fields vs) → PSs (X.suite q ((q, oq) :: pn)) (b :: bs) (ts q cls d)) (r : Clauses X n hs l) :
      Clauses X n (.ExceptHandler (some (.Name x px)) (some n) (b :: bs) ph :: hs) ((c, ts) :: l)
theorem ps_tryAll {X : Cx} {n : Str} {i : Nat} {body : List Stmt} {h0 : ExceptHandler} {hs : List ExceptHandler} {l : List (Value × (Addr → Value → Option Addr → TS))} {pos : Pos} {tb : WX → TS}
    (stk : X.stack = X.env :: X.outer) (frm : X.env.frame = some X.env.locals) (nd : X.N.Nodup) (at_ : X.N[i]? = some n) (loc : X.env.kindOf n = some .local)
    (bd : ∀ (W : WX) (pn : List (Addr × Obj)) (xe : Value → Shared → Prop), Takes (X.tr pn xe) W → PassesOwn (model X.prog X.w) X.A X.env xe → PSs (X.tr pn xe) body (tb W)) (cl : Clauses X n (h0 :: hs) l) :
    PS X (.Try body (h0 :: hs) [] [] pos) (fun D σ H => tb (wAll X.K i D l) D σ H) := by
  refine ⟨fun pz s σ H D I hw => ?_⟩
  have okX := I.ok
  have frs_ : X.A.frames = some (X.env :: X.outer) := by rw [okX.frames, stk]
  have lc : Loc X.env.scope n := .inl loc
  refine wpAny_Try_except (wpAny_mono ((bd (wAll X.K i D l) (X.pn ++ pz) (fun e z => wpAny (model X.prog X.w) X.A (noteFrame e X.env) (fun _ z2 => wpAny (model X.prog X.w) X.A (setFlight e none)
    (fun _ z3 => wpAny (model X.prog X.w) X.A (handleBy e X.env (h0 :: hs)) (SP X pz D) X.xe z3) X.xe z2) X.xe z) (fun u z xx => ?_) PassesOwn.looking).run [] s σ H D (I.toTry _) hw) (fun fl z q => ?_) fun _ _ z => z)
  · obtain ⟨q, G0, sJ, pz', τ, G, cls, d, rfl, J', nb, up, sky, nq, os, ag, w⟩ := xx
    have J : Inv X pz τ G sJ := J'.ofTry okX
    have sk2 : Sky G0 (X.env :: X.outer) q (Zc cls d) X.env.locals z.heap := stk ▸ sky
    refine Sky.land Zc.steady frs_ frm sk2 fun g3 f3 u3 => ?_
    have J3 : Inv X pz τ G { z with heap := g3 } := J.landed nb f3.1 (up.trans u3) os ag
    obtain ⟨o3, v3, e3, z3, d3⟩ := f3.there
    have out : q ∉ frs (X.env :: X.outer) := fun hm => by
      obtain ⟨_, o', e', no⟩ := f3.2.2.1.mem hm
      rw [e3] at e'; cases e'; exact no _ d3
    have nL : q ≠ X.env.locals := fun e => out (List.mem_filterMap.mpr ⟨X.env, List.mem_cons_self, by rw [frm, e]⟩)
    have nF : q ∉ X.fs := fun hm => by
      obtain ⟨e, he, e2⟩ := List.mem_filterMap.mp hm; exact out (List.mem_filterMap.mpr ⟨e, List.mem_cons_of_mem _ he, e2⟩)
    have S3 := J3.suite e3 d3 nq nL nF
    have LT : PySem.W.Looks (model X.prog X.w) g3 (typeOf (.ref q)) cls := fun _ _ _ _ k r => wpAny_typeOf_ref (k _ _ e3) (by rw [z3.1]; exact r)
    have go : ∀ {hs2 : List ExceptHandler} {l2 : List (Value × (Addr → Value → Option Addr → TS))}, Clauses X n hs2 l2 → wAll X.K i D l2 cls d τ G → wpAny (model X.prog X.w) X.A (handleBy (.ref q) X.env hs2) (SP X pz D) X.xe { z with heap := g3 } := by
      intro hs2 l2 ck
      induction ck with
      | none => exact fun w => w.elim
      | @more x c ts b bs px ph hs3 l3 nm su r ih =>
        rintro ⟨ans, ea, yes, no⟩
        refine wpAny_handleBy_cons (codeAny_handlers_test ?_) (fun k => nomatch k)
        have LM := PySem.W.exm_one (M := model X.prog X.w) J3.kIn LT ea
        have nameIs : ∀ {R F : Value → Shared → Prop}, R c { z with heap := g3 } → wpAny (model X.prog X.w) (X.A.mark (some (.ref q))) (eval (.Name x px) X.env) R F { z with heap := g3 } := fun {R F} k => by
          obtain ⟨gl, db, m1 | ⟨m1, m2, m3⟩⟩ := nm
          · exact ld_glob (X := X.suite q ((q, o3) :: (X.pn ++ pz))) S3 gl m1 k db
          · exact ld_blt (X := X.suite q ((q, o3) :: (X.pn ++ pz))) S3 gl m1 m2 k m3 db
        refine nameIs (LM.here ?_)
        cases ans with
        | false => exact ih (no rfl)
        | true =>
          refine codeAny_handlers_suite_as (HandSPX.lands_againZ f3 fun g4 f4 u4 => ?_)
          have J4 : Inv X pz τ G { z with heap := g4 } := J.landed nb f4.1 ((up.trans u3).trans u4) os ag
          obtain ⟨o4, v4, e4, z4, d4⟩ := f4.there
          refine store_ok (X := X.suite q ((q, o4) :: (X.pn ++ pz))) (v := .ref q) (J4.suite e4 d4 nq nL nF) nd at_ lc rfl (fun s5 S5 => ?_) (.inr loc)
          refine wpAny_mono ((su q o4 cls d (X.pn ++ pz) z4 ⟨_, d4⟩).run [] s5 _ G _ S5 (yes rfl q nq)) (fun fl s6 k => ?_) fun _ _ k => k.elim
          have bye : ∀ {τ6 : L2.St} {G6 : Hp} {R : Shared → Prop}, Inv (X.suite q ((q, o4) :: (X.pn ++ pz))) [] τ6 G6 s6 → (∀ s7, Inv X pz (τ6.set i none) G6 s7 → R s7) →
              wpAny (model X.prog X.w) X.A (do bindName X.env n .none; unbindBehindTheSuite X.env n ph) (fun _ s7 => R s7) X.xe s6 := fun S6 k => gone_ok (S6.unsuite okX) nd at_ loc k
          cases fl with
          | next => obtain ⟨_, _, S6, k⟩ := k; exact bye S6 fun s7 J7 => ⟨_, _, J7, k⟩
          | brk => obtain ⟨_, _, S6, k⟩ := k; exact bye S6 fun s7 J7 => ⟨_, _, J7, k⟩
          | cont => obtain ⟨_, _, S6, k⟩ := k; exact bye S6 fun s7 J7 => ⟨_, _, J7, k⟩
          | ret u => obtain ⟨_, _, _, S6, r6, k⟩ := k; exact bye S6 fun s7 J7 => ⟨_, _, _, J7, r6, k⟩
    exact go cl w
  · cases fl with
    | next => obtain ⟨_, _, J', k⟩ := q; exact wpAny_execs_nil ⟨_, _, J'.ofTry okX, k⟩
    | brk => obtain ⟨_, _, J', k⟩ := q; exact ⟨_, _, J'.ofTry okX, k⟩
    | cont => obtain ⟨_, _, J', k⟩ := q; exact ⟨_, _, J'.ofTry okX, k⟩
    | ret u => obtain ⟨_, _, _, J', r, k⟩ := q; exact ⟨_, _, _, J'.ofTry okX, r, k⟩
/-! ### facts of error classes -/
def excCB (x : Str) : PySem.W.Frag → Bool := fun K => He.eqO (PySem.W.findIn K (.ref (He.ga K x)) "__getattribute__") (some (some (.builtin "BaseException.__getattribute__"))) && (He.eqO (PySem.W.findIn K (.ref (He.ga K x)) "__getattr__") (some none) &&
  (decide (PySem.W.subIn K (.ref (He.ga K x)) (.type "BaseException") = some true) && (PySem.W.hasDictIn K (He.ga K x) && isCB x K)))
theorem excC_ok {x : Str} {K : PySem.W.Frag} (c : excCB x K = true) : ExcC K (He.ga K x) := by
  obtain ⟨c1, c⟩ := He.ba c
  obtain ⟨c2, c⟩ := He.ba c
  obtain ⟨c3, c⟩ := He.ba c
  obtain ⟨c4, c5⟩ := He.ba c
  have z := isC_ok c5
  exact ⟨He.eqO_ok c1, He.eqO_ok c2, of_decide_eq_true c3, c4, z.ha, z.hn, z.htk, z.hm⟩
/-- an error class without an __init__ of its own, made and raised -/
structure ExcF (K : PySem.W.Frag) (C : Addr) (bm : List Value) (nw : String) : Prop where
  e : PySem.W.excIn K C bm nw = true
  k : PySem.W.keepIn K (.ref C) = true
  b : PySem.W.subIn K (.ref C) (.type "BaseException") = some true
  t : PySem.W.typeIn K (.ref C) = some (.type "type")
def excFB (x : Str) (bm : List Value) (nw : String) : PySem.W.Frag → Bool := fun K => PySem.W.excIn K (He.ga K x) bm nw && (PySem.W.keepIn K (.ref (He.ga K x)) && (decide (PySem.W.subIn K (.ref (He.ga K x)) (.type "BaseException") = some true) && decide (PySem.W.typeIn K (.ref (He.ga K x)) = some (.type "type"))))
theorem excF_ok {x : Str} {bm : List Value} {nw : String} {K : PySem.W.Frag} (c : excFB x bm nw K = true) : ExcF K (He.ga K x) bm nw := by
  obtain ⟨c1, c⟩ := He.ba c
  obtain ⟨c2, c⟩ := He.ba c
  obtain ⟨c3, c4⟩ := He.ba c
  exact ⟨c1, c2, of_decide_eq_true c3, of_decide_eq_true c4⟩
def exmB (x y : Str) (r : Bool) : PySem.W.Frag → Bool := fun K => decide (PySem.W.exmOne K (.ref (He.ga K x)) (.ref (He.ga K y)) = some r)
theorem exm_ok {x y : Str} {r : Bool} {K : PySem.W.Frag} (c : exmB x y r K = true) : PySem.W.exmOne K (.ref (He.ga K x)) (.ref (He.ga K y)) = some r := of_decide_eq_true c
/-! ### things of any kind -/
/-- a thing that is no Measure and no Stretch; h: not the hand -/
def Thing (h : Addr) (H : Hp) (v : V) : Prop := v = .non ∨ (∃ b, v = .bl b) ∨ (∃ i, v = .int i) ∨ (∃ z, v = .str z) ∨ (∃ a xs, v = .ref a ∧ a ≠ h ∧ H a = some (.lst xs)) ∨ (∃ a xs, v = .ref a ∧ H a = some (.tup xs)) ∨ (∃ a kvs, v = .ref a ∧ H a = some (.dK kvs))
theorem Thing.same {h : Addr} {H H' : Hp} {v : V} (t : Thing h H v) (s : Same H H') : Thing h H' v := by
  rcases t with t | t | t | t | ⟨a, xs, e, n, t⟩ | ⟨a, xs, e, t⟩ | ⟨a, xs, e, t⟩
  · exact .inl t
  · exact .inr (.inl t)
  · exact .inr (.inr (.inl t))
  · exact .inr (.inr (.inr (.inl t)))
  · exact .inr (.inr (.inr (.inr (.inl ⟨a, xs, e, n, s _ _ t⟩))))
  · exact .inr (.inr (.inr (.inr (.inr (.inl ⟨a, xs, e, s _ _ t⟩)))))
  · exact .inr (.inr (.inr (.inr (.inr (.inr ⟨a, xs, e, s _ _ t⟩)))))
theorem Thing.kp {h : Addr} {n : Nat} {H H' : Hp} {v : V} (t : Thing h H v) (hh : HandAt H h n) (s : Kp h H H') : Thing h H' v := by
  rcases t with t | t | t | t | ⟨a, xs, e, n, t⟩ | ⟨a, xs, e, t⟩ | ⟨a, xs, e, t⟩
  · exact .inl t
  · exact .inr (.inl t)
  · exact .inr (.inr (.inl t))
  · exact .inr (.inr (.inr (.inl t)))
  · exact .inr (.inr (.inr (.inr (.inl ⟨a, xs, e, n, s _ _ t n⟩))))
  · exact .inr (.inr (.inr (.inr (.inr (.inl ⟨a, xs, e, s.get hh t rfl⟩)))))
  · exact .inr (.inr (.inr (.inr (.inr (.inr ⟨a, xs, e, s.get hh t rfl⟩)))))
/-- its class, as isinstance asks it -/
theorem Thing.ty {K : PySem.W.Frag} {h : Addr} {H : Hp} {v : V} (t : Thing h H v) : ∃ n : String, TyX K H v (.type n) ∧ (n = "NoneType" ∨ n = "bool" ∨ n = "int" ∨ n = "str" ∨ n = "list" ∨ n = "tuple" ∨ n = "dict") := by
  rcases t with rfl | ⟨b, rfl⟩ | ⟨i, rfl⟩ | ⟨z, rfl⟩ | ⟨a, xs, rfl, n, t⟩ | ⟨a, xs, rfl, t⟩ | ⟨a, xs, rfl, t⟩
  · exact ⟨_, .base .non, .inl rfl⟩
  · exact ⟨_, .base (.bl b), .inr (.inl rfl)⟩
  · exact ⟨_, .base (.int i), .inr (.inr (.inl rfl))⟩
  · exact ⟨_, .base (.str z), .inr (.inr (.inr (.inl rfl)))⟩
  · exact ⟨_, .base (.lst t), .inr (.inr (.inr (.inr (.inl rfl))))⟩
  · exact ⟨_, .base (.tup t), .inr (.inr (.inr (.inr (.inr (.inl rfl)))))⟩
  · exact ⟨_, .base (.dK t), .inr (.inr (.inr (.inr (.inr (.inr rfl)))))⟩
theorem Thing.of_lst {h a : Addr} {H : Hp} {xs : List V} (n : a ≠ h) (e : H a = some (.lst xs)) : Thing h H (.ref a) := .inr (.inr (.inr (.inr (.inl ⟨a, xs, rfl, n, e⟩))))
theorem Thing.of_tup {h a : Addr} {H : Hp} {xs : List V} (e : H a = some (.tup xs)) : Thing h H (.ref a) := .inr (.inr (.inr (.inr (.inr (.inl ⟨a, xs, rfl, e⟩)))))
theorem Thing.of_dct {h a : Addr} {H : Hp} {xs : List (Key × V)} (e : H a = some (.dK xs)) : Thing h H (.ref a) := .inr (.inr (.inr (.inr (.inr (.inr ⟨a, xs, rfl, e⟩)))))
/-- nested: a list or a tuple, new -/
def sp_nest : Sp := fun vs H Q _ => ∃ n : Int, vs = [.int n] ∧ 1 ≤ n ∧ n ≤ 1000 ∧ ∀ (a : Addr) (xs : List V) (H' : Hp), Same H H' → H a = none → (H' a = some (.lst xs) ∨ H' a = some (.tup xs)) → Q (.ref a) H'
def sp_thing : Sp := fun vs H Q _ => ∃ (h : Addr) (n : Nat), vs = [.ref h] ∧ HandAt H h n ∧ n < 10000 ∧ ∀ (v : V) (H' : Hp), Thing h H' v → (∀ i, v ≠ .int i) → HandAt H' h (n + 2) → Kp h H H' → Q v H'
end My
namespace My
open PySem PySem.Spec PyProof.Rows L2
/-! ### == and != by an own __eq__, beside things of any kind -/
section
open AutoSeq1 (wpAny_loadPart')
theorem noEq_int (b : Int) (u : Tok) (l C dx : Addr) : Meets (Builtin.«int.__eq__» ⟨[.int b u, .ref l], []⟩) (fun _ R s => s.heap.get? l = some (PySem.W.instObj C dx) ∧ R (.ok (.ret .notImplemented)) s) :=
  .of_wp fun prog w A R s h => by
    obtain ⟨hp, g, d, tk, os⟩ := s
    obtain ⟨hl, h⟩ := h
    unfold PySem.W.instObj at hl
    wp_walk using wpAny_loadPart' hl, wpAny_load hl
    exact ⟨_, rfl, h⟩
theorem noEq_bool (b : Bool) (l C dx : Addr) : Meets (Builtin.«int.__eq__» ⟨[.bool b, .ref l], []⟩) (fun _ R s => s.heap.get? l = some (PySem.W.instObj C dx) ∧ R (.ok (.ret .notImplemented)) s) :=
  .of_wp fun prog w A R s h => by
    obtain ⟨hp, g, d, tk, os⟩ := s
    obtain ⟨hl, h⟩ := h
    unfold PySem.W.instObj at hl
    wp_walk using wpAny_loadPart' hl, wpAny_load hl
    exact ⟨_, rfl, h⟩
theorem noEq_str (b : Str) (u : Tok) (l C dx : Addr) : Meets (Builtin.«str.__eq__» ⟨[.str b u, .ref l], []⟩) (fun _ R s => s.heap.get? l = some (PySem.W.instObj C dx) ∧ R (.ok (.ret .notImplemented)) s) :=
  .of_wp fun prog w A R s h => by
    obtain ⟨hp, g, d, tk, os⟩ := s
    obtain ⟨hl, h⟩ := h
    unfold PySem.W.instObj at hl
    wp_walk using wpAny_loadPart' hl, wpAny_load hl
    exact ⟨_, rfl, h⟩
variable {prog : Program} {w : World} {A : Around} {E : Value → Shared → Prop} {s : Shared}
theorem noEq_list {l y : Addr} {R : Result → Shared → Prop} (L : PySem.W.Looks (model prog w) s.heap (isInstance (.ref y) (.type "list")) false) (h : R (.ok (.ret .notImplemented)) s) :
    wpAny (model prog w) A.in1 (Builtin.«list.__eq__» ⟨[.ref l, .ref y], []⟩) (GQ.FinOf prog w A R) (fun e s' => R (.error e) s') s := by
  obtain ⟨hp, g, d, tk, os⟩ := s
  wp_walk using L.at
  exact h
theorem noEq_tuple {l y : Addr} {R : Result → Shared → Prop} (L : PySem.W.Looks (model prog w) s.heap (isInstance (.ref y) (.type "tuple")) false) (h : R (.ok (.ret .notImplemented)) s) :
    wpAny (model prog w) A.in1 (Builtin.«tuple.__eq__» ⟨[.ref l, .ref y], []⟩) (GQ.FinOf prog w A R) (fun e s' => R (.error e) s') s := by
  obtain ⟨hp, g, d, tk, os⟩ := s
  wp_walk using L.at
  exact h
end
/-- a value of a built-in kind -/
inductive Bk (H : Hp) : V → String → Prop where
  | non : Bk H .non "NoneType"
  | bl (b : Bool) : Bk H (.bl b) "bool"
  | int (i : Int) : Bk H (.int i) "int"
  | str (z : Str) : Bk H (.str z) "str"
  | lst {a : Addr} {xs : List V} (e : H a = some (.lst xs)) : Bk H (.ref a) "list"
  | tup {a : Addr} {xs : List V} (e : H a = some (.tup xs)) : Bk H (.ref a) "tuple"
theorem Bk.ty {K : PySem.W.Frag} {H : Hp} {x : V} {T : String} (b : Bk H x T) : TyX K H x (.type T) := by
  cases b with
  | non => exact .base .non
  | bl b => exact .base (.bl b)
  | int i => exact .base (.int i)
  | str z => exact .base (.str z)
  | lst e => exact .base (.lst e)
  | tup e => exact .base (.tup e)
theorem Bk.same {H H' : Hp} {x : V} {T : String} (b : Bk H x T) (s : Same H H') : Bk H' x T := by
  cases b with
  | non => exact .non
  | bl b => exact .bl b
  | int i => exact .int i
  | str z => exact .str z
  | lst e => exact .lst (s _ _ e)
  | tup e => exact .tup (s _ _ e)
/-- the kinds that no own class stands under -/
def kinds : List String := ["NoneType", "bool", "int", "str", "list", "tuple"]
theorem Bk.mem {H : Hp} {x : V} {T : String} (b : Bk H x T) : T ∈ kinds := by
  cases b <;> simp [kinds]
/-- what == and != ask of a class with an own __eq__ and no own __ne__ -/
structure EqC (K : PySem.W.Frag) (C : Addr) : Prop where
  ne : PySem.W.findIn K (.ref C) "__ne__" = some (some (.builtin "object.__ne__"))
  ob : PySem.W.mroIn K C (.type "object") = some true
  sub : ∀ T, T ∈ kinds → PySem.W.subIn K (.ref C) (.type T) = some false
  nf : ∀ T, T ∈ kinds → PySem.W.notFirst K C (.type T) = true
  kit : ∀ T, T ∈ kinds → PySem.W.kitOne K (.type T) (.ref C) = some false
def eqCB (x : Str) : PySem.W.Frag → Bool := fun K => He.eqO (PySem.W.findIn K (.ref (He.ga K x)) "__ne__") (some (some (.builtin "object.__ne__"))) && (decide (PySem.W.mroIn K (He.ga K x) (.type "object") = some true) &&
  ((kinds.all fun T => decide (PySem.W.subIn K (.ref (He.ga K x)) (.type T) = some false)) && ((kinds.all fun T => PySem.W.notFirst K (He.ga K x) (.type T)) && (kinds.all fun T => decide (PySem.W.kitOne K (.type T) (.ref (He.ga K x)) = some false)))))
theorem eqC_ok {x : Str} {K : PySem.W.Frag} (c : eqCB x K = true) : EqC K (He.ga K x) := by
  obtain ⟨c1, c⟩ := He.ba c
  obtain ⟨c2, c⟩ := He.ba c
  obtain ⟨c3, c⟩ := He.ba c
  obtain ⟨c4, c5⟩ := He.ba c
  exact ⟨He.eqO_ok c1, of_decide_eq_true c2, fun T h => of_decide_eq_true (List.all_eq_true.mp c3 T h), fun T h => List.all_eq_true.mp c4 T h, fun T h => of_decide_eq_true (List.all_eq_true.mp c5 T h)⟩
/-- a first class beside a second one: the second is none below the first -/
def nfB (x y : Str) : PySem.W.Frag → Bool := fun K => PySem.W.notFirst K (He.ga K x) (.ref (He.ga K y))
theorem nf_ok {x y : Str} {K : PySem.W.Frag} (c : nfB x y K = true) : PySem.W.notFirst K (He.ga K x) (.ref (He.ga K y)) = true := c
section
variable {X : Cx} {pins : List (Addr × Obj)} {σ : L2.St} {H : Hp} {s : Shared} {A : Around} {E : Value → Shared → Prop}
theorem Bk.declines {x : V} {u : Value} {T : String} {y C dx : Addr} {fs : List (Str × V)} (b : Bk H x T) (I : Inv X pins σ H s) (rx : RelV x u) (hy : H y = some (.ins C dx fs)) (c : EqC X.K C) :
    s.TypeIs u T ∧ ∃ id, Slot T "__eq__" id ∧ ∀ Q' : Value → Shared → Prop, Q' .notImplemented s → wpAny (model X.prog X.w) A (call (.builtin id) [u, .ref y]) Q' E s := by
  obtain ⟨_, _, _, hg, _⟩ := (show ObjOk X.prog X.w H s.heap y (.ins C dx fs) from I.hok y _ hy)
  obtain ⟨mA, J, _⟩ := ins_get I.hok hy
  obtain ⟨od, J, _⟩ := J.look
  have sub : ∀ T, T ∈ kinds → PySem.W.Looks (model X.prog X.w) s.heap (isInstance (.ref y) (.type T)) false := fun T h => (J.type).andThen (PySem.W.looks_subIn I.kIn (c.sub T h))
  cases b with
  | non =>
    cases (show u = Value.none from rx)
    have t : s.TypeIs Value.none "NoneType" := by exact rfl
    exact ⟨t, _, F.slot_NoneType_eq, fun Q' q => call_gives F.slot_NoneType_eq t F.entry_NoneType_eq (F.args_NoneType_eq_2 _ _) (SeqAt.NoneType___eq___none_ref_0 y) q⟩
  | bl b =>
    cases (show u = Value.bool b from rx)
    have t : s.TypeIs (Value.bool b) "bool" := by exact rfl
    exact ⟨t, _, F.slot_bool_eq, fun Q' q => call_meets F.slot_bool_eq t F.entry_int_eq (F.args_int_eq_2 _ _) (noEq_bool b y C dx) ⟨hg, q⟩⟩
  | int i =>
    obtain ⟨t, e⟩ := (show ∃ t, u = Value.int i t from rx)
    subst e
    exact ⟨typeIs_int s i t, _, F.slot_int_eq, fun Q' q => call_meets F.slot_int_eq (typeIs_int s i t) F.entry_int_eq (F.args_int_eq_2 _ _) (noEq_int i t y C dx) ⟨hg, q⟩⟩
  | str z =>
    obtain ⟨t, e⟩ := (show ∃ t, u = Value.str z t from rx)
    subst e
    exact ⟨typeIs_str s z t, _, F.slot_str_eq, fun Q' q => call_meets F.slot_str_eq (typeIs_str s z t) F.entry_str_eq (F.args_str_eq_2 _ _) (noEq_str z t y C dx) ⟨hg, q⟩⟩
  | @lst a xs e =>
    cases (show u = Value.ref a from rx)
    obtain ⟨_, its, n, _, h1⟩ := (show ObjOk X.prog X.w H s.heap a (.lst xs) from I.hok a _ e)
    exact ⟨⟨_, h1, rfl⟩, _, F.slot_list_eq, fun Q' q => GQ.call_here F.slot_list_eq ⟨_, h1, rfl⟩ F.entry_list_eq (F.args_list_eq_2 _ _) (noEq_list (sub _ (by simp [kinds])) q)⟩
  | @tup a xs e =>
    cases (show u = Value.ref a from rx)
    obtain ⟨_, its, _, o, h1, h2, _⟩ := (show ObjOk X.prog X.w H s.heap a (.tup xs) from I.hok a _ e)
    exact ⟨⟨o, h1, h2⟩, _, F.slot_tuple_eq, fun Q' q => GQ.call_here F.slot_tuple_eq ⟨o, h1, h2⟩ F.entry_tuple_eq (F.args_tuple_eq_2 _ _) (noEq_tuple (sub _ (by simp [kinds])) q)⟩
end
/-- how == answers: x == y tells b, and nothing changes -/
abbrev Eqb := V → V → Hp → Bool → Prop
def RcB (X : Cx) (n : Nat) (D : Eqb) : Prop := ∀ (A : Around) (pins : List (Addr × Obj)) (s : Shared) (σ : L2.St) (H : Hp) (x y : V) (u v : Value) (b : Bool), Sub X n A → Inv X pins σ H s → RelV x u → RelV y v → D x y H b →
  wpAny (model X.prog X.w) A (richCompare .Eq u v) (fun r s' => r = .bool b ∧ Inv X pins σ H s') X.xe s
def EqB (X : Cx) (n : Nat) (D : Eqb) : Prop := ∀ (A : Around) (pins : List (Addr × Obj)) (s : Shared) (σ : L2.St) (H : Hp) (x y : V) (u v : Value) (b : Bool), Sub X n A → Inv X pins σ H s → RelV x u → RelV y v → D x y H b →
  wpAny (model X.prog X.w) A (eqBool u v) (fun r s' => r = b ∧ Inv X pins σ H s') X.xe s
def spEqB (R : Eqb) : Sp := fun vs H Q _ => ∃ x y b, vs = [x, y] ∧ R x y H b ∧ Q (.bl b) H
/-- the own object first -/
def DOwn (K : PySem.W.Frag) (C : Addr) (R : Eqb) : Eqb := fun x y H b => ∃ a dx fs tb, x = .ref a ∧ H a = some (.ins C dx fs) ∧ TyX K H y tb ∧ PySem.W.notFirst K C tb = true ∧ (x = y → b = true) ∧ R x y H b
/-- the own object behind a thing of a built-in kind -/
def DRef (C : Addr) (R : Eqb) : Eqb := fun x y H b => ∃ a dx fs T, y = .ref a ∧ H a = some (.ins C dx fs) ∧ Bk H x T ∧ (x = y → b = true) ∧ R y x H b
def DOr (D D' : Eqb) : Eqb := fun x y H b => D x y H b ∨ D' x y H b
theorem rel_ref {y : V} {a : Addr} (r : RelV y (.ref a)) : y = .ref a := by
  cases y with
  | ref b => exact congrArg V.ref (Value.ref.inj (show Value.ref a = Value.ref b from r)).symm
  | non => exact nomatch (show Value.ref a = Value.none from r)
  | bl b => exact nomatch (show Value.ref a = Value.bool b from r)
  | int i => obtain ⟨t, e⟩ := (show ∃ t, Value.ref a = Value.int i t from r); exact nomatch e
  | str z => obtain ⟨t, e⟩ := (show ∃ t, Value.ref a = Value.str z t from r); exact nomatch e
  | flt z => obtain ⟨t, e⟩ := (show ∃ t, Value.ref a = Value.float z t from r); exact nomatch e
  | byt z => obtain ⟨t, e⟩ := (show ∃ t, Value.ref a = Value.bytes z t from r); exact nomatch e
  | ty z => exact nomatch (show Value.ref a = Value.type z from r)
section
variable {X : Cx} {n : Nat} {CX : CXT} {C f : Addr} {fd : FuncData} {ps : List Str} {R D D' : Eqb} {E : XK}
theorem RcB.mono {m : Nat} (h : RcB X n D) (l : n ≤ m) : RcB X m D := fun A pins s σ H x y u v b sb I rx ry d => h A pins s σ H x y u v b (sb.mono l) I rx ry d
theorem EqB.mono {m : Nat} (h : EqB X n D) (l : n ≤ m) : EqB X m D := fun A pins s σ H x y u v b sb I rx ry d => h A pins s σ H x y u v b (sb.mono l) I rx ry d
theorem RcB.or (h : RcB X n D) (h' : RcB X n D') : RcB X n (DOr D D') := fun A pins s σ H x y u v b sb I rx ry d => d.elim (h A pins s σ H x y u v b sb I rx ry) (h' A pins s σ H x y u v b sb I rx ry)
theorem EqB.or (h : EqB X n D) (h' : EqB X n D') : EqB X n (DOr D D') := fun A pins s σ H x y u v b sb I rx ry d => d.elim (h A pins s σ H x y u v b sb I rx ry) (h' A pins s σ H x y u v b sb I rx ry)
theorem eqFn_at (F : FnOk X.prog X.w X.K X.mg X.base CX n f fd ps (spEqB R)) (hb : Binds X.K fd ps []) (hx : Passes CX X E) {A : Around} {pins : List (Addr × Obj)} {s : Shared} {σ : L2.St} {H : Hp} {x y : V} {u v : Value} {b : Bool}
    (sb : Sub X n A) (I : Inv X pins σ H s) (rx : RelV x u) (ry : RelV y v) (d : R x y H b) : wpAny (model X.prog X.w) A (call (.ref f) [u, v]) (fun r s' => r = .bool b ∧ Inv X pins σ H s') X.xe s := by
  have hsp : spEqB R [x, y] H (fun z H' => z = .bl b ∧ H' = H) E := ⟨x, y, b, rfl, d, rfl, rfl⟩
  have e := I.env0
  have e0 : Env0 X.prog X.w X.K X.mg X.base A X.stack s H := ⟨by rw [sb.fr]; exact e.frames, e.mod, e.bs, e.bsz, e.funs, e.frf, e.hok, e.bare⟩
  have hl := F.len _ _ _ _ hsp
  have r2 : Vals [x, y] [u, v] := .cons rx (.cons ry .nil)
  have hbs := hb s [u, v] I.kIn (by simpa using hl)
  rw [List.append_nil] at hbs
  refine wpAny_call (codeAny_mono (F.run A X.stack s H ⟨[u, v], []⟩ [u, v] [x, y] _ E sb.room e0 hbs r2 hsp) fun r s' hq => ?_)
  cases r with
  | error e => exact hx pins σ H s e s' I hq
  | ok fl =>
    cases fl with
    | ret w =>
      obtain ⟨z, H', I', rz, ez, eh⟩ := I.after hq
      subst ez eh
      exact ⟨rz, I'⟩
    | next => exact False.elim hq
    | brk => exact False.elim hq
    | cont => exact False.elim hq
theorem rcB_own (F : FnOk X.prog X.w X.K X.mg X.base CX n f fd ps (spEqB R)) (hm : Meth X.K C "__eq__" f) (hb : Binds X.K fd ps []) (hx : Passes CX X E) : RcB X n (DOwn X.K C R) := by
  intro A pins s σ H x y u v b sb I rx ry d
  obtain ⟨a, dx, fs, tb, rfl, ha, ty, nf, _, d⟩ := d
  cases rx
  obtain ⟨mA, J, _⟩ := ins_get I.hok ha
  obtain ⟨od, J, _⟩ := J.look
  obtain ⟨m, hF⟩ := I.fr
  obtain ⟨P, Z, p, _⟩ := kit_of I ry ty
  refine PySem.W.cmp_K (op := .Eq) (tb := tb) sb.room.units0 hF I.ok.mod.kin J (Z.ty _ _ I.kIn p) nf hm.at_ hm.fn ?_
  refine thn (eqFn_at F hb hx sb I (x := V.ref a) rfl ry d) fun r s' q => ?_
  obtain ⟨rfl, I'⟩ := q
  exact ⟨rfl, I'⟩
theorem rcB_ref (F : FnOk X.prog X.w X.K X.mg X.base CX n f fd ps (spEqB R)) (hm : Meth X.K C "__eq__" f) (c : EqC X.K C) (hb : Binds X.K fd ps []) (hx : Passes CX X E) : RcB X n (DRef C R) := by
  intro A pins s σ H x y u v b sb I rx ry d
  obtain ⟨a, dx, fs, T, rfl, ha, bk, _, d⟩ := d
  cases ry
  obtain ⟨mA, J, _⟩ := ins_get I.hok ha
  obtain ⟨od, J, _⟩ := J.look
  obtain ⟨ht, id, sl, dec⟩ := bk.declines (A := A) (E := X.xe) I rx ha c
  unfold richCompare
  simp only [ht.oneThing_none]
  refine wpAny_holding (wpAny_bind (wpAny_cRoomFor sb.room.units0 ?_))
  refine wpAny_bind (wpAny_typeOf ht (wpAny_bind (J.type.here ?_)))
  have e1 : (Value.type T != Value.ref C) = true := by rfl
  simp only [e1, if_true]
  refine wpAny_bind ((PySem.W.looks_subIn I.kIn (c.sub T bk.mem)).here ?_)
  simp only [Bool.false_eq_true, if_false, Bool.not_false, if_true]
  refine wpAny_bind (m := tryCompare u _ (.ref a)) (wpAny_tryCompare_declines ht sl (dec _ ⟨rfl, ?_⟩))
  refine wpAny_bind (m := tryCompare (.ref a) _ u) ?_
  unfold tryCompare
  refine wpAny_bind (PySem.W.ifBound_K I.kIn J hm.at_ hm.fn (thn (eqFn_at F hb hx sb I (x := V.ref a) rfl rx d) fun r s' q => ?_))
  obtain ⟨rfl, I'⟩ := q
  exact wpAny_pure (wpAny_pure ⟨rfl, I'⟩)
theorem eqB_own (h : RcB X n (DOwn X.K C R)) : EqB X n (DOwn X.K C R) := by
  intro A pins s σ H x y u v b sb I rx ry d
  have d0 := d
  obtain ⟨a, dx, fs, tb, rfl, ha, ty, nf, xy, _⟩ := d
  cases rx
  unfold eqBool
  refine wpAny_holding ?_
  refine wpAny_ite_split (fun e => ?_) (fun e => ?_)
  · have e : Value.ref a = v := eq_of_beq e
    subst e
    have e2 := rel_ref ry
    exact wpAny_bind (wpAny_rule (wpAny_pure ⟨(xy e2.symm).symm, I⟩))
  · refine wpAny_bind (thn (h A pins s σ H (.ref a) y _ v b sb I rfl ry d0) fun r s' q => ?_)
    obtain ⟨rfl, I'⟩ := q
    exact wpAny_truthy_bool ⟨rfl, I'⟩
theorem eqB_ref (h : RcB X n (DRef C R)) : EqB X n (DRef C R) := by
  intro A pins s σ H x y u v b sb I rx ry d
  have d0 := d
  obtain ⟨a, dx, fs, T, rfl, ha, bk, xy, _⟩ := d
  cases ry
  unfold eqBool
  refine wpAny_holding ?_
  refine wpAny_ite_split (fun e => ?_) (fun e => ?_)
  · have e : u = Value.ref a := eq_of_beq e
    subst e
    have e2 := rel_ref rx
    exact wpAny_bind (wpAny_rule (wpAny_pure ⟨(xy e2).symm, I⟩))
  · have go : wpAny (model X.prog X.w) A (richCompare .Eq u (.ref a) >>= fun r => truthOfDropped r) (fun r s' => r = b ∧ Inv X pins σ H s') X.xe s := by
      refine wpAny_bind (thn (h A pins s σ H x (.ref a) u _ b sb I rx rfl d0) fun r s' q => ?_)
      obtain ⟨rfl, I'⟩ := q
      exact wpAny_truthy_bool ⟨rfl, I'⟩
    cases u <;> exact go
def rEqB (D : Eqb) : R2 := fun x y H Q => ∃ b, D x y H b ∧ Q (.bl b) H
theorem op_eqB (h : RcB X n D) (hr : Room n X.A) : OpR X (compareOp .Eq) (rEqB D) := by
  intro pins s σ H x y u v Q I rx ry hq
  obtain ⟨b, d, q⟩ := hq
  show wpAny (model X.prog X.w) X.A (richCompare .Eq u v) (EP X pins σ Q) X.xe s
  refine thn (h X.A pins s σ H x y u v b ⟨hr, rfl⟩ I rx ry d) fun r s' z => ?_
  obtain ⟨rfl, I'⟩ := z
  exact ⟨.bl b, H, I', rfl, q⟩
/-- x != y, by the own == of x turned about -/
theorem op_neB (F : FnOk X.prog X.w X.K X.mg X.base CX n f fd ps (spEqB R)) (hm : Meth X.K C "__eq__" f) (c : EqC X.K C) (hb : Binds X.K fd ps []) (hx : Passes CX X E) (hr : Room (n + 1) X.A) :
    OpR X (compareOp .NotEq) (fun x y H Q => ∃ b, DOwn X.K C R x y H b ∧ Q (.bl (!b)) H) := by
  intro pins s σ H x y u v Q I rx ry hq
  obtain ⟨b, ⟨a, dx, fs, tb, rfl, ha, ty, nf, _, d⟩, q⟩ := hq
  cases rx
  show wpAny (model X.prog X.w) X.A (richCompare .NotEq (.ref a) v) (EP X pins σ Q) X.xe s
  obtain ⟨mA, J, _⟩ := ins_get I.hok ha
  obtain ⟨od, J, _⟩ := J.look
  obtain ⟨P, Z, p, _⟩ := kit_of I ry ty
  have sb : Sub X (n + 1) X.A := ⟨hr, rfl⟩
  have call1 : wpAny (model X.prog X.w) X.A (call (.builtin "object.__ne__") [.ref a, v]) (fun r s' => r = .bool (!b) ∧ Inv X pins σ H s') X.xe s := by
    refine wpAny_call (codeAny_call_builtin PySem.F.slot_object_ne.plain PySem.F.cmpEntry_ne (PySem.W.check_slot PySem.F.cmpKind_ne PySem.F.cmpSplit_ne (J.type.andThen (PySem.W.looks_mroIn I.kIn c.ob)) (PySem.F.cmpArgs_ne _ _) ?_))
    unfold Builtin.«object.__ne__»
    refine wpAny_bind (wpAny_pure ?_)
    refine wpAny_bind (wpAny_cRoomFor sb.in1.room.units0 ?_)
    refine wpAny_bind (PySem.W.ifBound_K I.kIn J hm.at_ hm.fn (thn (eqFn_at F hb hx sb.in1 I (x := V.ref a) rfl ry d) fun r s' q => ?_))
    obtain ⟨rfl, I'⟩ := q
    exact wpAny_bind (wpAny_truthy_bool (wpAny_pure ⟨rfl, I'⟩))
  have one : wpAny (model X.prog X.w) X.A (tryCompare (.ref a) (cmpInfo .NotEq).2.1 v) (fun r s' => r = some (.bool (!b)) ∧ Inv X pins σ H s') X.xe s := by
    unfold tryCompare
    refine wpAny_bind (m := callSpecialIfBound? (.ref a) _ [v]) ?_
    simp only [callSpecialIfBound?, bindSpecialIfBound?]
    refine wpAny_holding (wpAny_bind (wpAny_bind (wpAny_bind (J.type.here ((PySem.W.looks_findIn I.kIn c.ne).here ?_)))))
    refine wpAny_bind (wpAny_askSetting (wpAny_ite ?_))
    have fin : wpAny (model X.prog X.w) X.A (call (.builtin "object.__ne__") ([.ref a] ++ [v]) >>= fun z => pure (some z)) (fun o s1 => wpAny (model X.prog X.w) X.A (match o with | some .notImplemented | none => pure none | some z => pure (some z)) (fun r s' => r = some (.bool (!b)) ∧ Inv X pins σ H s') X.xe s1) X.xe s := by
      refine wpAny_bind (thn call1 fun r s' z => ?_)
      obtain ⟨rfl, I'⟩ := z
      exact wpAny_pure (wpAny_pure ⟨rfl, I'⟩)
    split
    · exact wpAny_bind ((PySem.W.Looks.of_pure (PySem.F.slot_object_ne.bind (.ref a))).here (wpAny_pure (by exact fin)))
    · exact wpAny_tryCatch (wpAny_bind ((PySem.W.Looks.of_pure (PySem.F.slot_object_ne.bind (.ref a))).here (wpAny_pure (by exact fin))))
  unfold richCompare
  simp only [oneThing_ref]
  refine wpAny_holding (wpAny_bind (wpAny_cRoomFor hr.units0 ?_))
  refine wpAny_bind (J.type.here (wpAny_bind ((Z.ty _ _ I.kIn p).here ?_)))
  have ends : ∀ s', Inv X pins σ H s' → EP X pins σ Q (.bool (!b)) s' := fun s' I' => ⟨.bl (!b), H, I', rfl, q⟩
  split
  · rename_i z
    have e : PySem.W.subIn X.K tb (.ref C) = some false := by
      rcases Bool.or_eq_true_iff.mp nf with e | e
      · rw [beq_iff_eq.mp e] at z; simp at z
      · exact beq_iff_eq.mp e
    refine wpAny_bind ((PySem.W.looks_subIn I.kIn e).here ?_)
    simp only [Bool.false_eq_true, if_false]
    refine wpAny_bind (thn one fun r s' z => ?_)
    obtain ⟨rfl, I'⟩ := z
    exact wpAny_pure (ends s' I')
  · refine wpAny_bind (wpAny_pure ?_)
    simp only [Bool.false_eq_true, if_false]
    refine wpAny_bind (thn one fun r s' z => ?_)
    obtain ⟨rfl, I'⟩ := z
    exact wpAny_pure (ends s' I')
/-! ### in, by an own == -/
def InB (D : Eqb) (x : V) (H : Hp) : List V → Bool → Prop
  | [], b => b = false
  | y :: r, b => (D y x H true ∧ b = true) ∨ (D y x H false ∧ InB D x H r b)
open AutoSeq1 (wpAny_loadPart') in
theorem inB_loop (h : EqB X n D) {A : Around} (sb : Sub X (n + 1) A) {pins : List (Addr × Obj)} {σ : L2.St} {H : Hp} {x : V} {u : Value} {l : Addr} {xs : List V} {R : Result → Shared → Prop} (hl : SqL X.K H l xs) (rx : RelV x u) (b : Bool)
    (fin : ∀ s, Inv X pins σ H s → R (.ok (.ret (.bool b))) s) (bad : ∀ e s, X.xe e s → R (.error e) s) : ∀ (ys : List V) (i : Nat), xs.drop i = ys → InB D x H ys b → ∀ s, Inv X pins σ H s →
      wpAny (model X.prog X.w) A.in1 (Builtin.«list.__contains__.loop» ⟨[.ref l, u, rawInt i], []⟩) (GQ.FinOf X.prog X.w A R) (fun e s' => R (.error e) s') s := by
  intro ys
  induction ys with
  | nil =>
    intro i hd q s I
    have q : b = false := q
    subst q
    obtain ⟨its, r, ⟨o, k, ho, hc, hs, hda⟩, _⟩ := I.list hl
    obtain ⟨oc, od, oda, osl⟩ := o
    dsimp only at hc hs hda
    subst hc hda
    have hlen : its.toArray.size ≤ i := by
      rw [List.size_toArray, ← r.length]
      exact List.drop_eq_nil_iff.mp hd
    have hi : its.toArray[((i : Nat) : Int).toNat]? = none := by
      rw [Array.getElem?_eq_none]
      simpa using hlen
    have hR := fin s I
    obtain ⟨hp, g, d, tk, os⟩ := s
    wp_walk using wpAny_loadPart' ho
    rw [hi]
    wp_walk
    exact hR
  | cons y r ih =>
    intro i hd q s I
    obtain ⟨its, rv, ⟨o, k, ho, hc, hs, hda⟩, _⟩ := I.list hl
    obtain ⟨oc, od, oda, osl⟩ := o
    dsimp only at hc hs hda
    subst hc hda
    have hx : xs[i]? = some y := by
      have e := congrArg List.head? hd
      rw [List.head?_drop] at e
      exact e
    obtain ⟨v, hv, ry⟩ := rv.get hx
    have hi : its.toArray[((i : Nat) : Int).toNat]? = some v := by simpa using hv
    have hd2 : xs.drop (i + 1) = r := by
      have e := congrArg List.tail hd
      rw [List.tail_drop] at e
      exact e
    have step : ∀ t, D y x H t → wpAny (model X.prog X.w) A.in1 (eqBool v u) (fun z s' => z = t ∧ Inv X pins σ H s') (fun e s' => R (.error e) s') s := fun t dt => wpAny_mono (h A.in1 pins s σ H y x v u t sb.in1 I ry rx dt) (fun _ _ z => z) bad
    have cc : ((i : Int) + 1) = ((i + 1 : Nat) : Int) := by omega
    rcases q with ⟨d, rfl⟩ | ⟨d, q⟩
    · have st := step _ d
      obtain ⟨hp, g, dd, tk, os⟩ := s
      wp_walk using wpAny_loadPart' ho
      rw [hi]
      refine wpAny_bind (thn st fun z s2 q2 => ?_)
      obtain ⟨rfl, I2⟩ := q2
      have hR := fin s2 I2
      wp_walk
      exact hR
    · have st := step _ d
      obtain ⟨hp, g, dd, tk, os⟩ := s
      wp_walk using wpAny_loadPart' ho
      rw [hi]
      refine wpAny_bind (thn st fun z s2 q2 => ?_)
      obtain ⟨rfl, I2⟩ := q2
      have go := ih (i + 1) hd2 q s2 I2
      wp_walk
      rw [cc]
      exact ⟨plainId_quiet MeetsSeq.plain_contains_loop _, codeAny_builtin MeetsSeq.entry_contains_loop (by
        rw [Around.under_plainId MeetsSeq.plain_contains_loop _]
        exact go)⟩
/-- x in [..] -/
theorem op_inBl (h : EqB X n D) (hr : Room (n + 1) X.A) : OpR X (compareOp .In) (fun x y H Q => ∃ p xs b, y = .ref p ∧ SqL X.K H p xs ∧ InB D x H xs b ∧ Q (.bl b) H) := by
  intro pins s σ H x y u v Q I rx ry hq
  obtain ⟨p, xs, b, rfl, hl, q, k⟩ := hq
  cases ry
  obtain ⟨its, r, ⟨o, m, ho, hc, hs, hda⟩, _⟩ := I.list hl
  have hT : s.TypeIs (.ref p) "list" := ⟨o, ho, hc⟩
  have sb : Sub X (n + 1) X.A := ⟨hr, rfl⟩
  show wpAny _ X.A (do return .bool (← contains (.ref p) u)) (EP X pins σ Q) X.xe s
  refine wpAny_bind (wpAny_contains_slot hT PySem.F.slot_list_contains (GQ.call_here PySem.F.slot_list_contains hT PySem.F.entry_list_contains (PySem.F.args_list_contains_2 _ _) ?_))
  have go := inB_loop (A := X.A) (R := wants (fun v s' => wpAny (model X.prog X.w) X.A (truthy v) (fun t s'' => wpAny (model X.prog X.w) X.A (pure (Value.bool t)) (EP X pins σ Q) X.xe s'') X.xe s') X.xe) h sb hl rx b
    (fun s' I' => wpAny_truthy_bool (wpAny_pure ⟨.bl b, H, I', rfl, k⟩)) (fun e s' z => z) xs 0 rfl q s I
  obtain ⟨hp, g, dd, tk, os⟩ := s
  wp_walk
  exact ⟨plainId_quiet MeetsSeq.plain_contains_loop _, codeAny_builtin MeetsSeq.entry_contains_loop (by
    rw [Around.under_plainId MeetsSeq.plain_contains_loop _]
    exact go)⟩
open AutoSeq1 (wpAny_loadPart') in
theorem inB_tup (h : EqB X n D) {A : Around} (sb : Sub X (n + 1) A) {pins : List (Addr × Obj)} {σ : L2.St} {H : Hp} {x : V} {u : Value} {l : Addr} {xs : List V} {R : Result → Shared → Prop} (hl : SqT X.K H l xs) (rx : RelV x u) (b : Bool)
    (fin : ∀ s, Inv X pins σ H s → R (.ok (.ret (.bool b))) s) (bad : ∀ e s, X.xe e s → R (.error e) s) (q : InB D x H xs b) (s : Shared) (I : Inv X pins σ H s) :
      wpAny (model X.prog X.w) A.in1 (Builtin.«tuple.__contains__» ⟨[.ref l, u], []⟩) (GQ.FinOf X.prog X.w A R) (fun e s' => R (.error e) s') s := by
  obtain ⟨its, rv, ⟨o, ho, hc, k, hda⟩, _⟩ := I.tuple hl
  obtain ⟨oc, od, oda, osl⟩ := o
  dsimp only at hc hda
  subst hc hda
  have I0 := I
  have rv2 : Vals xs its.toArray.toList := by simpa using rv
  generalize its.toArray = items at ho rv2
  obtain ⟨hp, g, d, tk, os⟩ := s
  wp_walk using wpAny_loadPart' ho, MeetsSeq2.wpAny_forIn_array _ (fun rest c s' => c.1 = none ∧ Inv X pins σ H s' ∧ ∃ ys, Vals ys rest ∧ InB D x H ys b) _
  case turn =>
    rintro v rest c s' ⟨hb, I1, ys, rr, qq⟩
    cases rr with
    | @cons y _ yr _ ry r2 =>
      have step : ∀ t, D y x H t → wpAny (model X.prog X.w) A.in1 (eqBool v u) (fun z s' => z = t ∧ Inv X pins σ H s') (fun e s' => R (.error e) s') s' := fun t dt => wpAny_mono (h A.in1 pins s' σ H y x v u t sb.in1 I1 ry rx dt) (fun _ _ z => z) bad
      rcases qq with ⟨dt, rfl⟩ | ⟨dt, qq⟩
      · refine wpAny_bind (thn (step _ dt) fun z s2 q2 => ?_)
        obtain ⟨rfl, I2⟩ := q2
        have hR := fin s2 I2
        wp_walk
        exact hR
      · refine wpAny_bind (thn (step _ dt) fun z s2 q2 => ?_)
        obtain ⟨rfl, I2⟩ := q2
        wp_walk
        exact ⟨rfl, I2, yr, r2, qq⟩
  case fin =>
    rintro ⟨b1, b2⟩ s' ⟨hb, I1, ys, rr, qq⟩
    simp only at hb
    subst hb
    cases rr
    have qq : b = false := qq
    subst qq
    have hR := fin s' I1
    wp_walk
    exact hR
  case h =>
    exact ⟨rfl, I0, xs, rv2, q⟩
theorem op_inBt (h : EqB X n D) (hr : Room (n + 1) X.A) : OpR X (compareOp .In) (fun x y H Q => ∃ p xs b, y = .ref p ∧ SqT X.K H p xs ∧ InB D x H xs b ∧ Q (.bl b) H) := by
  intro pins s σ H x y u v Q I rx ry hq
  obtain ⟨p, xs, b, rfl, hl, q, k⟩ := hq
  cases ry
  obtain ⟨its, r, ⟨o, ho, hc, m, hda⟩, _⟩ := I.tuple hl
  have hT : s.TypeIs (.ref p) "tuple" := ⟨o, ho, hc⟩
  have sb : Sub X (n + 1) X.A := ⟨hr, rfl⟩
  show wpAny _ X.A (do return .bool (← contains (.ref p) u)) (EP X pins σ Q) X.xe s
  refine wpAny_bind (wpAny_contains_slot hT PySem.F.slot_tuple_contains (GQ.call_here PySem.F.slot_tuple_contains hT PySem.F.entry_tuple_contains (PySem.F.args_tuple_contains_2 _ _) ?_))
  exact inB_tup (A := X.A) (R := wants (fun v s' => wpAny (model X.prog X.w) X.A (truthy v) (fun t s'' => wpAny (model X.prog X.w) X.A (pure (Value.bool t)) (EP X pins σ Q) X.xe s'') X.xe s') X.xe) h sb hl rx b
    (fun s' I' => wpAny_truthy_bool (wpAny_pure ⟨.bl b, H, I', rfl, k⟩)) (fun e s' z => z) q s I
/-- a text beside a thing of a built-in kind -/
def DTxt : Eqb := fun x y H b => ∃ (z : Str) (T : String), x = .str z ∧ Bk H y T ∧ b = decide (y = .str z)
theorem eqB_txt (hu : ∀ A, Sub X n A → A.units < cLine := fun _ z => z.room.units0) : EqB X n DTxt := by
  intro A pins s σ H x y u v b sb I rx ry d
  obtain ⟨z, T, rfl, bk, rfl⟩ := d
  obtain ⟨t, e⟩ := (show ∃ t, u = Value.str z t from rx)
  subst e
  have hu := hu A sb
  cases bk with
  | non =>
    cases (show v = Value.none from ry)
    exact SeqAt.EqAt.str_none z t X.prog X.w X.xe _ ⟨rfl, I⟩
  | bl c =>
    cases (show v = Value.bool c from ry)
    exact SeqAt.EqAt.str_bool z t c X.prog X.w X.xe _ ⟨rfl, I⟩
  | int i =>
    obtain ⟨t2, e⟩ := (show ∃ t, v = Value.int i t from ry)
    subst e
    exact SeqAt.EqAt.str_int z t i t2 X.prog X.w X.xe _ ⟨rfl, I⟩
  | str y =>
    obtain ⟨t2, e⟩ := (show ∃ t, v = Value.str y t from ry)
    subst e
    refine SeqAt.EqAt.str_str z t y t2 X.prog X.w X.xe _ ⟨?_, I⟩
    by_cases e : y = z
    · subst e; simp
    · have e2 : ¬ z = y := fun q => e q.symm
      have e3 : ¬ V.str y = V.str z := fun q => e (V.str.inj q)
      rw [decide_eq_false e3]
      exact beq_eq_false_iff_ne.mpr e2
  | @lst a xs e =>
    cases (show v = Value.ref a from ry)
    obtain ⟨_, its, k, _, h1⟩ := (show ObjOk X.prog X.w H s.heap a (.lst xs) from I.hok a _ e)
    exact SeqAt.EqAt.str_list z t ⟨_, h1, rfl, _, rfl⟩ hu X.prog X.w X.xe _ ⟨rfl, I⟩
  | @tup a xs e =>
    cases (show v = Value.ref a from ry)
    obtain ⟨_, its, _, h1⟩ := (show ObjOk X.prog X.w H s.heap a (.tup xs) from I.hok a _ e)
    exact SeqAt.EqAt.str_tuple z t h1 hu X.prog X.w X.xe _ ⟨rfl, I⟩
end
/-! ### Measures alike, beside Measures and things of built-in kinds -/
def REq (K : PySem.W.Frag) (C : Addr) : Eqb := fun x y H b => ∃ p t u, x = .ref p ∧ MAt C H p t u ∧ ((∃ q t' u', y = .ref q ∧ MAt C H q t' u' ∧ b = (decide (t = t') && decide (u = u'))) ∨ ∃ tv, TyX K H y tv ∧ PySem.W.kitOne K tv (.ref C) = some false ∧ b = false)
inductive Like (C : Addr) (H : Hp) (p : Addr) : V → Bool → Prop where
  | ms {q : Addr} {t u t' u' : Int} (a : MAt C H p t u) (b : MAt C H q t' u') : Like C H p (.ref q) (decide (t = t') && decide (u = u'))
  | kd {y : V} {T : String} {t u : Int} (a : MAt C H p t u) (b : Bk H y T) : Like C H p y false
theorem Like.same {C p : Addr} {H H' : Hp} {y : V} {b : Bool} (h : Like C H p y b) (s : Same H H') : Like C H' p y b := by
  cases h with
  | ms a b => exact .ms (a.same s) (b.same s)
  | kd a k => exact .kd (a.same s) (k.same s)
theorem mf_inj {t u t' u' : Int} (h : mf t u = mf t' u') : t = t' ∧ u = u' := by
  unfold mf at h
  injection h with h1 h2
  injection h2 with h3 _
  exact ⟨V.int.inj (congrArg Prod.snd h1), V.int.inj (congrArg Prod.snd h3)⟩
theorem MAt.uniq {C p : Addr} {H : Hp} {t u t' u' : Int} (a : MAt C H p t u) (b : MAt C H p t' u') : t = t' ∧ u = u' := by
  obtain ⟨d, a⟩ := a
  obtain ⟨d', b⟩ := b
  rw [a] at b
  have e := HO.ins.inj (Option.some.inj b)
  exact mf_inj e.2.2
theorem Bk.notIns {C p dx : Addr} {H : Hp} {T : String} {fs : List (Str × V)} (b : Bk H (.ref p) T) (e : H p = some (.ins C dx fs)) : False := by
  cases b with
  | lst z => rw [z] at e; cases e
  | tup z => rw [z] at e; cases e
section
variable {K : PySem.W.Frag} {C p : Addr} {H : Hp} {y : V} {b : Bool}
theorem nf_self : PySem.W.notFirst K C (.ref C) = true := by simp [PySem.W.notFirst]
theorem Like.fwd (cl : Cls K C) (ii : IsC K C) (ec : EqC K C) (h : Like C H p y b) : DOwn K C (REq K C) (.ref p) y H b := by
  cases h with
  | @ms q t u t' u' a b =>
    obtain ⟨da, ha⟩ := _root_.id a
    obtain ⟨db, hb⟩ := _root_.id b
    refine ⟨p, da, _, _, rfl, ha, tyM hb cl ii, nf_self, fun e => ?_, p, t, u, rfl, a, .inl ⟨q, t', u', rfl, b, rfl⟩⟩
    cases e
    obtain ⟨rfl, rfl⟩ := a.uniq b
    simp
  | @kd _ T t u a k =>
    obtain ⟨da, ha⟩ := _root_.id a
    refine ⟨p, da, _, _, rfl, ha, k.ty, ec.nf T k.mem, fun e => ?_, p, t, u, rfl, a, .inr ⟨_, k.ty, ec.kit T k.mem, rfl⟩⟩
    subst e
    exact (k.notIns ha).elim
theorem Like.bwd (cl : Cls K C) (ii : IsC K C) (ec : EqC K C) (h : Like C H p y b) : DOr (DOwn K C (REq K C)) (DRef C (REq K C)) y (.ref p) H b := by
  cases h with
  | @ms q t u t' u' a b =>
    obtain ⟨da, ha⟩ := _root_.id a
    obtain ⟨db, hb⟩ := _root_.id b
    have e2 : (decide (t = t') && decide (u = u')) = (decide (t' = t) && decide (u' = u)) := by
      rw [decide_eq_decide.mpr (eq_comm (a := t)), decide_eq_decide.mpr (eq_comm (a := u))]
    rw [e2]
    refine .inl ⟨q, db, _, _, rfl, hb, tyM ha cl ii, nf_self, fun e => ?_, q, t', u', rfl, b, .inl ⟨p, t, u, rfl, a, rfl⟩⟩
    cases e
    obtain ⟨rfl, rfl⟩ := a.uniq b
    simp
  | @kd _ T t u a k =>
    obtain ⟨da, ha⟩ := _root_.id a
    refine .inr ⟨p, da, _, T, rfl, ha, k, fun e => ?_, p, t, u, rfl, a, .inr ⟨_, k.ty, ec.kit T k.mem, rfl⟩⟩
    subst e
    exact (k.notIns ha).elim
theorem Like.non (ec : EqC K C) (h : Like C H p y b) : DOr (DOwn K C (REq K C)) (DRef C (REq K C)) .non (.ref p) H false := by
  have go : ∀ {t u : Int}, MAt C H p t u → DOr (DOwn K C (REq K C)) (DRef C (REq K C)) .non (.ref p) H false := fun {t u} a => by
    obtain ⟨da, ha⟩ := _root_.id a
    exact .inr ⟨p, da, _, _, rfl, ha, .non, (fun e => nomatch e), p, t, u, rfl, a, .inr ⟨_, (Bk.non (H := H)).ty, ec.kit _ (Bk.non (H := H)).mem, rfl⟩⟩
  cases h with
  | ms a _ => exact go a
  | kd a _ => exact go a
/-- one in [None, y] -/
theorem Like.inl (cl : Cls K C) (ii : IsC K C) (ec : EqC K C) (h : Like C H p y b) : InB (DOr (DOwn K C (REq K C)) (DRef C (REq K C))) (.ref p) H [.non, y] b := by
  refine .inr ⟨h.non ec, ?_⟩
  cases b with
  | true => exact .inl ⟨h.bwd cl ii ec, rfl⟩
  | false => exact .inr ⟨h.bwd cl ii ec, rfl⟩
/-- y in (one, z) -/
theorem Like.inr {z : Str} (cl : Cls K C) (ii : IsC K C) (ec : EqC K C) (h : Like C H p y b) (hz : y ≠ .str z) : InB (DOr (DOr (DOwn K C (REq K C)) (DRef C (REq K C))) DTxt) y H [.ref p, .str z] b := by
  have key : ∀ {c : Bool}, Like C H p y c → DOr (DOr (DOwn K C (REq K C)) (DRef C (REq K C))) DTxt (.str z) y H false := fun {c} h => by
    cases h with
    | @ms q t u t' u' a b =>
      obtain ⟨dq, hq⟩ := _root_.id b
      exact .inl (.inr ⟨q, dq, _, _, rfl, hq, .str z, (fun e => nomatch e), q, t', u', rfl, b, .inr ⟨_, (Bk.str (H := H) z).ty, ec.kit _ (Bk.str (H := H) z).mem, rfl⟩⟩)
    | @kd _ T t u a k => exact .inr ⟨z, T, rfl, k, (decide_eq_false hz).symm⟩
  cases b with
  | true => exact .inl ⟨.inl (.inl (h.fwd cl ii ec)), rfl⟩
  | false => exact .inr ⟨.inl (.inl (h.fwd cl ii ec)), .inr ⟨key h, rfl⟩⟩
end
end My
namespace My
open PySem PySem.Spec PyProof.Rows L2
/-! ### texts: str and repr of own objects, pieces of f-strings, divmod -/
section
variable {X : Cx} {n : Nat} {CX : CXT} {C f : Addr} {fd : FuncData} {ps : List Str} {sp : Sp} {E : XK}
/-- an own def is called from within a built-in one -/
theorem fn_at (F : FnOk X.prog X.w X.K X.mg X.base CX n f fd ps sp) (hb : Binds X.K fd ps []) (hx : Passes CX X E) {A : Around} {pins : List (Addr × Obj)} {s : Shared} {σ : L2.St} {H : Hp} {vs : List V} {us : List Value} {Q : VK}
    (sb : Sub X n A) (I : Inv X pins σ H s) (r : Vals vs us) (h : sp vs H Q E) : wpAny (model X.prog X.w) A (call (.ref f) us) (fun u s' => ∃ v H', Inv X pins σ H' s' ∧ RelV v u ∧ Q v H') X.xe s := by
  have e := I.env0
  have e0 : Env0 X.prog X.w X.K X.mg X.base A X.stack s H := ⟨by rw [sb.fr]; exact e.frames, e.mod, e.bs, e.bsz, e.funs, e.frf, e.hok, e.bare⟩
  have hl := F.len _ _ _ _ h
  have hbs := hb s us I.kIn (by rw [List.append_nil, ← r.length]; exact hl)
  rw [List.append_nil] at hbs
  refine wpAny_call (codeAny_mono (F.run A X.stack s H ⟨us, []⟩ us vs _ E sb.room e0 hbs r h) fun r s' hq => ?_)
  cases r with
  | error e => exact hx pins σ H s e s' I hq
  | ok fl =>
    cases fl with
    | ret w =>
      obtain ⟨z, H', I', rz, q⟩ := I.after hq
      exact ⟨z, H', I', rz, q⟩
    | next => exact False.elim hq
    | brk => exact False.elim hq
    | cont => exact False.elim hq
/-- what a text of an own object asks: the def tells a text -/
def tOwn (C : Addr) (sp : Sp) (E : XK) : V → Hp → VK → Prop := fun x H Q => ∃ a dx fs, x = .ref a ∧ H a = some (.ins C dx fs) ∧ sp [.ref a] H (fun v H' => ∃ z : Str, v = .str z ∧ Q (.str z) H') E
theorem call_strO (F : FnOk X.prog X.w X.K X.mg X.base CX n f fd ps sp) (hm : Meth X.K C "__str__" f) (hb : Binds X.K fd ps []) (hx : Passes CX X E) (hr : Room (n + 2) X.A) : CallR X (.type "str") (fun xs H Q => ∃ x, xs = [x] ∧ tOwn C sp E x H Q) := by
  intro pins s σ H xs us Q I r h
  obtain ⟨x, rfl, a, dx, fs, rfl, ha, h⟩ := h
  obtain ⟨u, rfl, r1⟩ := vals1 r
  cases (show u = Value.ref a from r1)
  obtain ⟨mA, J, _⟩ := ins_get I.hok ha
  obtain ⟨od, J, _⟩ := J.look
  have sb : Sub X (n + 2) X.A := ⟨hr, rfl⟩
  refine PySem.W.kso_call sb.in1.in1.room.units0 I.kIn J hm.at_ hm.fn ?_
  refine thn (fn_at F hb hx sb.in1.in1 I (vs := [.ref a]) (.cons rfl .nil) h) fun u s' q => ?_
  obtain ⟨v, H', I', rv, z, rfl, q⟩ := q
  obtain ⟨t, rfl⟩ := rv
  exact ⟨.str z, H', I', ⟨t, rfl⟩, q⟩
theorem call_reprO (F : FnOk X.prog X.w X.K X.mg X.base CX n f fd ps sp) (hm : Meth X.K C "__repr__" f) (hb : Binds X.K fd ps []) (hx : Passes CX X E) (hr : Room (n + 1) X.A) : CallR X (.builtin "repr") (fun xs H Q => ∃ x, xs = [x] ∧ ((x = .non ∧ Q (.str "None") H) ∨ tOwn C sp E x H Q)) := by
  intro pins s σ H xs us Q I r h
  obtain ⟨x, rfl, ⟨rfl, q⟩ | ⟨a, dx, fs, rfl, ha, h⟩⟩ := h
  · obtain ⟨u, rfl, r1⟩ := vals1 r
    cases (show u = Value.none from r1)
    exact PySem.P.repr_of_none ⟨.str "None", H, I.tok _, ⟨_, rfl⟩, q⟩
  obtain ⟨u, rfl, r1⟩ := vals1 r
  cases (show u = Value.ref a from r1)
  obtain ⟨mA, J, _⟩ := ins_get I.hok ha
  obtain ⟨od, J, _⟩ := J.look
  obtain ⟨m, hF⟩ := I.fr
  have sb : Sub X (n + 1) X.A := ⟨hr, rfl⟩
  refine PySem.W.repr_K sb.in1.room.units0 hF I.ok.mod.kin J hm.at_ hm.fn ?_
  refine thn (fn_at F hb hx sb.in1 I (vs := [.ref a]) (.cons rfl .nil) h) fun u s' q => ?_
  obtain ⟨v, H', I', rv, z, rfl, q⟩ := q
  obtain ⟨t, rfl⟩ := rv
  exact ⟨.str z, H', I', ⟨t, rfl⟩, q⟩
/-- {x!r}, x an own object or None -/
def tFmtRO (C : Addr) (sp : Sp) (E : XK) (te : TE) : TE := fun σ H Q => te σ H fun x H1 => (x = .non ∧ Q (.str "None") H1) ∨ tOwn C sp E x H1 (fun v H2 => (∃ z : Str, v = .str z ∧ z.length ≤ sizeLine) ∧ Q v H2)
theorem pe_fmtRO {e : Expr} {te : TE} {pos : Pos} (F : FnOk X.prog X.w X.K X.mg X.base CX n f fd ps sp) (hm : Meth X.K C "__repr__" f) (hb : Binds X.K fd ps []) (hx : Passes CX X E) (hr : Room n X.A) (he : PE X e te) : PE X (.FormattedValue e 114 none pos) (tFmtRO C sp E te) := by
  refine ⟨fun pins s σ H Q I h => ?_⟩
  refine wpAny_FormattedValue_repr (thn (he.run pins s σ H _ I h) fun v s1 hv => ?_)
  obtain ⟨x, H1, I1, r1, ⟨rfl, q⟩ | ⟨a, dx, fs, rfl, ha, q⟩⟩ := hv
  · cases (show v = Value.none from r1)
    exact pyReprObj_none (wpAny_formatField_str ⟨.str "None", H1, I1.tok _, ⟨_, rfl⟩, q⟩ ⟨.str "None", H1, I1.tok _, ⟨_, rfl⟩, q⟩ (by rw [sizeLine_eq]; decide))
  cases (show v = Value.ref a from r1)
  obtain ⟨mA, J, _⟩ := ins_get I1.hok ha
  obtain ⟨od, J, _⟩ := J.look
  have sb : Sub X n X.A := ⟨hr, rfl⟩
  unfold pyReprObj
  refine wpAny_bind (wpAny_cRoomFor sb.room.units0 ?_)
  refine wpAny_bind (wpAny_bind (J.type.here ((PySem.W.looks_findIn I1.kIn hm.at_).here ?_)))
  show wpAny _ _ (if (some (Value.ref f)).isNone = true then _ else _) _ _ _
  rw [if_neg (by simp)]
  refine wpAny_bind (PySem.W.ifBound_K I1.kIn J hm.at_ hm.fn (thn (fn_at F hb hx sb I1 (vs := [.ref a]) (.cons rfl .nil) q) fun u s2 q2 => ?_))
  obtain ⟨w, H2, I2, rw, z, rfl, ⟨z2, ez, hz⟩, q3⟩ := q2
  cases ez
  obtain ⟨t, rfl⟩ := rw
  refine wpAny_bind (wpAny_isInstance (typeIs_str _ _ _) isSubtype_str_str ?_)
  have go := wpAny_formatField_str (prog := X.prog) (w := X.w) (A := X.A) (E := X.xe) (s := s2) (x := z) (t := t) (Q := EP X pins σ Q) ⟨.str z, H2, I2, ⟨t, rfl⟩, q3⟩ ⟨.str z, H2, I2.tok _, ⟨_, rfl⟩, q3⟩ hz
  first
    | exact wpAny_pure go
    | (rw [if_pos rfl]; exact wpAny_pure go)
    | (simp only [if_true]; exact wpAny_pure go)
/-- {x}, x a truth -/
def bTxt (b : Bool) : Str := if b then "True" else "False"
def tFmtB (te : TE) : TE := fun σ H Q => te σ H fun x H1 => ∃ b, x = .bl b ∧ Q (.str (bTxt b)) H1
theorem pe_fmtB {e : Expr} {te : TE} {pos : Pos} (he : PE X e te) : PE X (.FormattedValue e (-1) none pos) (tFmtB te) := by
  refine ⟨fun pins s σ H Q I h => ?_⟩
  refine wpAny_FormattedValue_plain (thn (he.run pins s σ H _ I h) fun v s1 hv => ?_)
  obtain ⟨x, H1, I1, r1, b, rfl, q⟩ := hv
  cases (show v = Value.bool b from r1)
  exact wpAny_formatField_bool ⟨.str (bTxt b), H1, I1.tok _, ⟨_, by cases b <;> rfl⟩, q⟩
theorem call_str_bool : CallR X (.type "str") (fun xs H Q => ∃ b, xs = [.bl b] ∧ Q (.str (bTxt b)) H) := by
  intro pins s σ H xs us Q I r h
  obtain ⟨b, rfl, q⟩ := h
  obtain ⟨u, rfl, r1⟩ := vals1 r
  cases (show u = Value.bool b from r1)
  exact PySem.P.str_of_bool ⟨.str (bTxt b), H, I.tok _, ⟨_, by cases b <;> rfl⟩, q⟩
theorem call_dm : CallR X (.builtin "divmod") (fun xs H Q => ∃ i j, xs = [.int i, .int j] ∧ 0 < j ∧ j.natAbs.log2 < 9000 ∧ ∀ p, H p = none → Q (.ref p) (upd H p (.tup [.int (i / j), .int (i % j)]))) := by
  intro pins s σ H xs us Q I r h
  obtain ⟨i, j, rfl, h1, h2, q⟩ := h
  obtain ⟨u, w', rfl, ⟨t, rfl⟩, ⟨t', rfl⟩⟩ := vals2 r
  refine divmod_int (by omega) ?_ (.inl (PyProof.noPylong_of_log2 h2))
  rw [Int.fdiv_eq_ediv_of_nonneg i (by omega), Int.fmod_eq_emod_of_nonneg i (by omega)]
  have hn : H s.heap.objs.size = none := I.hok.fresh (Nat.le_refl _)
  refine ⟨.ref s.heap.objs.size, _, ?_, rfl, q _ hn⟩
  refine I.laid (fun b o e => Heap.get?_push_of_some _ e) (Nat.le_refl _) ⟨by show 2 ≤ sizeLine; rw [sizeLine_eq]; decide, [.int (i / j) s.toks, .int (i % j) (s.toks + 1)], .cons ⟨_, rfl⟩ (.cons ⟨_, rfl⟩ .nil), ?_⟩
  exact ⟨_, Heap.get?_push_size s.heap rfl, rfl, 0, rfl⟩
/-- a text so often -/
theorem op_repS : OpR X (binaryOp .Mult) (fun x y H Q => ∃ (a : Str) (b : Bool), x = .str a ∧ y = .int (if b then 1 else 0) ∧ a.length ≤ 1000 ∧ Q (.str (if b then a else "")) H) := by
  intro pins s σ H x y v u Q I rx ry h
  obtain ⟨a, b, rfl, rfl, hz, q⟩ := h
  obtain ⟨t, rfl⟩ := rx
  obtain ⟨t', rfl⟩ := ry
  cases b with
  | true => exact SB.mul (n := 1) ⟨by decide, fun _ z => (by simp at z), fun _ z => (by simp at z)⟩ fun _ _ => ⟨.str a, H, I.tok _, ⟨_, rfl⟩, q⟩
  | false => exact SB.mul (n := 0) ⟨by decide, fun z => absurd (by decide) z, fun z => absurd (by decide) z⟩ fun _ _ => ⟨.str "", H, I.tok _, ⟨_, rfl⟩, q⟩
theorem bnil {K : PySem.W.Frag} {fd : FuncData} {ps : List Str} {ds : List Value} (v : Vals [] ds) (b : Binds K fd ps ds) : Binds K fd ps [] := by
  cases v
  exact b
end
/-! ### the text of a number, of a Measure -/
def iT (i : Int) : Str := Str.ofString (toString i)
theorem Sz.log' {a : Nat} {x : Int} (h : Sz a x) (h0 : 0 < a) (l : a ≤ 1920) : x.natAbs.log2 < 1920 := Nat.lt_of_lt_of_le (PySem.Flt.log2_lt_of h0 h) l
theorem iT_len {i : Int} (h : Sz 1900 i) : (iT i).length ≤ 1921 := by
  have e := int_text_length_le (k := 1920) (by decide) (h.log' (by decide) (by decide))
  unfold iT
  rw [PySem.ofString_length]
  omega
def wTxt (a u : Int) : Str := if a % u = 0 then iT (a / u) else if a / u = 0 then Str.empty ++ iT (a % u) ++ "/" ++ iT u else Str.empty ++ iT (a / u) ++ " " ++ iT (a % u) ++ "/" ++ iT u
def mTxt (t u : Int) : Str := if t < 0 then Str.empty ++ "-" ++ wTxt (-t) u else wTxt t u
def mRep (t u : Int) : Str := Str.empty ++ "Measure(" ++ iT t ++ ", " ++ iT u ++ ")"
theorem Sz.ediv {k : Nat} {a u : Int} (h : Sz k a) (h0 : 0 ≤ a) (hu : 0 < u) : Sz k (a / u) := h.le (by
  have h1 := Int.ediv_nonneg h0 (Int.le_of_lt hu)
  have h2 := Int.ediv_le_self u h0
  omega)
theorem Sz.emod {k : Nat} {a u : Int} (h : Sz k u) (hu : 0 < u) : Sz k (a % u) := h.le (by
  have h1 := Int.emod_nonneg a (show u ≠ 0 by omega)
  have h2 := Int.emod_lt_of_pos a hu
  omega)
theorem wTxt_len {a u : Int} (ha : Sz 1900 a) (hu : Sz 1900 u) (h0 : 0 ≤ a) (h1 : 0 < u) : (wTxt a u).length ≤ 6000 := by
  have l1 := iT_len (ha.ediv h0 h1)
  have l2 := iT_len (hu.emod (a := a) h1)
  have l3 := iT_len hu
  have e0 : Str.empty.length = 0 := rfl
  have e1 : (Str.ofString "/").length = 1 := rfl
  have e2 : (Str.ofString " ").length = 1 := rfl
  unfold wTxt
  split
  · omega
  · split
    · simp only [Str.length_append]; omega
    · simp only [Str.length_append]; omega
theorem mTxt_len {t u : Int} (ha : Sz 1900 t) (hu : Sz 1900 u) (h1 : 0 < u) : (mTxt t u).length ≤ 6001 := by
  have e0 : Str.empty.length = 0 := rfl
  have e1 : (Str.ofString "-").length = 1 := rfl
  unfold mTxt
  split
  · have := wTxt_len ha.neg hu (by omega) h1
    simp only [Str.length_append]; omega
  · have := wTxt_len ha hu (by omega) h1
    omega
theorem mRep_len {t u : Int} (ha : Sz 1900 t) (hu : Sz 1900 u) : (mRep t u).length ≤ 4000 := by
  have l1 := iT_len ha
  have l2 := iT_len hu
  have e0 : Str.empty.length = 0 := rfl
  have e1 : (Str.ofString "Measure(").length = 8 := rfl
  have e2 : (Str.ofString ", ").length = 2 := rfl
  have e3 : (Str.ofString ")").length = 1 := rfl
  unfold mRep
  simp only [Str.length_append]; omega
theorem join_eq (sep : Str) (l : List Str) : Txt.join sep l = Str.join sep l := eq_of_beq (PyProof.Rows.join_plain_closes sep l)
theorem join_len (sep : Str) : ∀ l : List Str, (Txt.join sep l).length ≤ (l.map (·.length)).sum + l.length * sep.length := fun l => by
  rw [join_eq]
  induction l with
  | nil => exact Nat.zero_le _
  | cons x r ih =>
    cases r with
    | nil => show x.length ≤ x.length + 0 + 1 * sep.length; omega
    | cons y r =>
      have e : (Str.join sep (x :: y :: r)).length = x.length + sep.length + (Str.join sep (y :: r)).length := by
        show (x ++ sep ++ Str.join sep (y :: r)).length = _
        simp only [Str.length_append]
      have e2 : ((x :: y :: r).map (·.length)).sum = x.length + ((y :: r).map (·.length)).sum := rfl
      have e3 : (x :: y :: r).length * sep.length = (y :: r).length * sep.length + sep.length := by
        rw [List.length_cons, Nat.add_mul, Nat.one_mul]
      rw [e, e2, e3]
      omega
/-- the text as the laws write it: words, a blank between -/
theorem law_txt {t u : Int} (hu : 0 < u) : (if decide (t < 0) = true then ("-" : Str) else "") ++ Txt.join " " ((if u ≤ (t.natAbs : Int) ∨ (t.natAbs : Int) = 0 then [iT ((t.natAbs : Int) / u)] else []) ++ (if 0 < (t.natAbs : Int) % u then [iT ((t.natAbs : Int) % u) ++ "/" ++ iT u] else [])) = mTxt t u := by
  have w : ∀ A : Int, 0 ≤ A → Txt.join " " ((if u ≤ A ∨ A = 0 then [iT (A / u)] else []) ++ (if 0 < A % u then [iT (A % u) ++ "/" ++ iT u] else [])) = wTxt A u := fun A h0 => by
    have m0 := Int.emod_nonneg A (show u ≠ 0 by omega)
    have m1 := Int.emod_lt_of_pos A hu
    have de := Int.emod_add_mul_ediv A u
    have d0 := Int.ediv_nonneg h0 (Int.le_of_lt hu)
    rw [join_eq]
    unfold wTxt
    by_cases e : A % u = 0
    · have c : u ≤ A ∨ A = 0 := by
        rcases Int.lt_or_le 0 (A / u) with z | z
        · left
          have : u * 1 ≤ u * (A / u) := Int.mul_le_mul_of_nonneg_left (by omega) (by omega)
          omega
        · right
          have : A / u = 0 := by omega
          rw [this] at de
          omega
      rw [if_pos c, if_neg (by omega), if_pos e]
      rfl
    · rw [if_neg e, if_pos (show 0 < A % u by omega)]
      by_cases z : A / u = 0
      · have c : ¬ (u ≤ A ∨ A = 0) := by
          rw [z] at de
          omega
        rw [if_neg c, if_pos z, Str.empty_append]
        rfl
      · have c : u ≤ A ∨ A = 0 := by
          left
          have : u * 1 ≤ u * (A / u) := Int.mul_le_mul_of_nonneg_left (by omega) (by omega)
          omega
        rw [if_pos c, if_neg z, Str.empty_append]
        show iT (A / u) ++ " " ++ (iT (A % u) ++ "/" ++ iT u) = _
        simp only [Str.append_assoc]
  rw [w _ (by omega)]
  unfold mTxt
  by_cases e : t < 0
  · rw [if_pos e, if_pos (decide_eq_true e), Str.empty_append]
    have : (t.natAbs : Int) = -t := by omega
    rw [this]
  · rw [if_neg e, if_neg (by simpa using e)]
    have : (t.natAbs : Int) = t := by omega
    rw [this]
    exact Str.empty_append _
theorem iT_dig {n : Int} (h : 0 ≤ n) : ∀ c ∈ TL.tl (iT n), 48 ≤ c ∧ c ≤ 57 := by
  obtain ⟨m, rfl⟩ := Int.eq_ofNat_of_zero_le h
  have e : iT (m : Int) = ⟨((Nat.toDigits 10 m).map Char.toNat).toArray⟩ := PyProof.Rows.text_ofNat m
  intro c hc
  rw [e] at hc
  have hc : c ∈ (Nat.toDigits 10 m).map Char.toNat := by simpa [TL.tl] using hc
  obtain ⟨ch, h1, rfl⟩ := List.mem_map.mp hc
  exact PyProof.Rows.digit_range (Nat.isDigit_of_mem_toDigits (by decide) (by decide) h1)
theorem mTxt_x {t u : Int} (hu : 0 < u) : mTxt t u ≠ "x" := by
  intro e
  have key : ∀ (s : Str) (c : Nat), s = "x" → c ∈ TL.tl s → c = 120 := fun s c e1 e2 => by
    rw [e1] at e2
    have e3 : TL.tl (Str.ofString "x") = [120] := by decide +kernel
    rw [e3] at e2
    simpa using e2
  have wd : ∀ a : Int, 0 ≤ a → wTxt a u ≠ "x" := fun a h0 e => by
    unfold wTxt at e
    have sl : 47 ∈ TL.tl (Str.ofString "/") := by decide +kernel
    split at e
    · have d0 := Int.ediv_nonneg h0 (Int.le_of_lt hu)
      have h120 : 120 ∈ TL.tl (iT (a / u)) := by
        rw [e]
        decide +kernel
      have := iT_dig d0 _ h120
      omega
    · split at e
      · have := key _ 47 e (by simp only [TL.tl_append, List.mem_append]; exact .inl (.inr sl))
        omega
      · have := key _ 47 e (by simp only [TL.tl_append, List.mem_append]; exact .inl (.inr sl))
        omega
  unfold mTxt at e
  split at e
  · have := key _ 45 e (by simp only [TL.tl_append, List.mem_append]; exact .inl (.inr (by decide +kernel)))
    omega
  · exact wd t (by omega) e
theorem eqv_pair {a b c d : Int} : PyData.eqv (.tuple [.int a, .int b]) (.tuple [.int c, .int d]) = (decide (a = c) && decide (b = d)) := by
  show ((a == c) && ((b == d) && true)) = _
  rw [Bool.and_true, Bool.beq_eq_decide_eq, Bool.beq_eq_decide_eq]
theorem fr_uniq {t u t' u' a b : Int} (f : Fr t u a b) (g : Fr t' u' a b) (hb : b ≠ 0) (sa : Sz 4000 a) (sb : Sz 4000 b) : t = t' ∧ u = u' := by
  have e : t * u' = t' * u := f.of hb g.eq.symm
  have := low_eq (a := (t, u)) (b := (t', u')) ⟨f.pos, f.co, sa.le f.lt, sb.le f.lu⟩ ⟨g.pos, g.co, sa.le g.lt, sb.le g.lu⟩ e
  exact ⟨congrArg Prod.fst this, congrArg Prod.snd this⟩
end My
namespace My
open PySem PySem.Spec PyProof.Rows L2
/-! ### Stretches alike -/
def optEq : Option Q2 → Option Q2 → Bool
  | none, none => true
  | some a, some b => eqq a b
  | _, _ => false
theorem optEq_self (a : Option Q2) : optEq a a = true := by
  cases a with
  | none => rfl
  | some a => exact eqq_self a
theorem eqq_comm' (a b : Q2) : eqq a b = eqq b a := by
  unfold eqq
  exact decide_eq_decide.mpr eq_comm
theorem optEq_comm (a b : Option Q2) : optEq a b = optEq b a := by
  cases a with
  | none => cases b <;> rfl
  | some a =>
    cases b with
    | none => rfl
    | some b => exact eqq_comm' a b
def eqS (lo hi : Option Q2) (li hj : Bool) (lo' hi' : Option Q2) (li' hj' : Bool) : Bool := optEq lo lo' && (optEq hi hi' && (decide (V.bl li = V.bl li') && decide (V.bl hj = V.bl hj')))
theorem eqS_self (lo hi : Option Q2) (li hj : Bool) : eqS lo hi li hj lo hi li hj = true := by
  unfold eqS
  rw [optEq_self, optEq_self, decide_eq_true rfl, decide_eq_true rfl]
  rfl
theorem eqS_comm (lo hi : Option Q2) (li hj : Bool) (lo' hi' : Option Q2) (li' hj' : Bool) : eqS lo hi li hj lo' hi' li' hj' = eqS lo' hi' li' hj' lo hi li hj := by
  unfold eqS
  rw [optEq_comm lo, optEq_comm hi, decide_eq_decide.mpr (eq_comm (a := V.bl li)), decide_eq_decide.mpr (eq_comm (a := V.bl hj))]
/-- None beside None -/
def DNn : Eqb := fun x y _ b => x = .non ∧ y = .non ∧ b = true
theorem rcB_nn {X : Cx} {n : Nat} : RcB X n DNn := by
  intro A pins s σ H x y u v b sb I rx ry d
  obtain ⟨rfl, rfl, rfl⟩ := d
  cases (show u = Value.none from rx)
  cases (show v = Value.none from ry)
  exact SeqAt.RcAt.none_none X.prog X.w X.xe _ ⟨rfl, I⟩
section
variable {K : PySem.W.Frag} {CM CS p : Addr} {H : Hp}
/-- two ends of Stretches -/
def DMs (K : PySem.W.Frag) (CM : Addr) : Eqb := DOr (DOr (DOwn K CM (REq K CM)) (DRef CM (REq K CM))) DNn
theorem ms_eq {v w : V} {e f : Option Q2} (cl : Cls K CM) (ii : IsC K CM) (ec : EqC K CM) (a : MsV CM H v e) (b : MsV CM H w f) (l1 : LowO e) (l2 : LowO f) : DMs K CM v w H (optEq e f) := by
  cases e with
  | none =>
    cases f with
    | none => exact .inr ⟨a, b, rfl⟩
    | some y =>
      cases a
      obtain ⟨q, rfl, hq⟩ := b
      exact .inl (Like.bwd cl ii ec (.kd hq .non))
  | some x =>
    obtain ⟨p, rfl, hp⟩ := a
    cases f with
    | none =>
      cases b
      exact .inl (.inl (Like.fwd cl ii ec (.kd hp .non)))
    | some y =>
      obtain ⟨q, rfl, hq⟩ := b
      have := Like.fwd (K := K) cl ii ec (.ms hp hq)
      rw [low_eqq l1 l2] at this
      exact .inl (.inl this)
def REqS (K : PySem.W.Frag) (CM CS : Addr) : Eqb := fun x y H b => ∃ p lo hi li hj, x = .ref p ∧ StAt CM CS H p lo hi li hj ∧ ((∃ q lo' hi' li' hj', y = .ref q ∧ StAt CM CS H q lo' hi' li' hj' ∧ b = eqS lo hi li hj lo' hi' li' hj') ∨
  ∃ tv, TyX K H y tv ∧ PySem.W.kitOne K tv (.ref CS) = some false ∧ b = false)
inductive LikeS (CM CS : Addr) (H : Hp) (p : Addr) : V → Bool → Prop where
  | st {q : Addr} {lo hi lo' hi' : Option Q2} {li hj li' hj' : Bool} (a : StAt CM CS H p lo hi li hj) (b : StAt CM CS H q lo' hi' li' hj') : LikeS CM CS H p (.ref q) (eqS lo hi li hj lo' hi' li' hj')
  | kd {y : V} {T : String} {lo hi : Option Q2} {li hj : Bool} (a : StAt CM CS H p lo hi li hj) (b : Bk H y T) : LikeS CM CS H p y false
  | ms {q : Addr} {t u : Int} {lo hi : Option Q2} {li hj : Bool} (a : StAt CM CS H p lo hi li hj) (b : MAt CM H q t u) : LikeS CM CS H p (.ref q) false
theorem LikeS.same {H' : Hp} {y : V} {b : Bool} (h : LikeS CM CS H p y b) (s : Same H H') : LikeS CM CS H' p y b := by
  cases h with
  | st a b => exact .st (a.same s) (b.same s)
  | kd a k => exact .kd (a.same s) (k.same s)
  | ms a m => exact .ms (a.same s) (m.same s)
theorem MsV.uniq {v : V} {e f : Option Q2} (a : MsV CM H v e) (b : MsV CM H v f) : e = f := by
  cases e with
  | none =>
    cases a
    cases f with
    | none => rfl
    | some y => obtain ⟨q, z, _⟩ := b; exact nomatch z
  | some x =>
    obtain ⟨p, rfl, hp⟩ := a
    cases f with
    | none => exact nomatch (show V.ref p = V.non from b)
    | some y =>
      obtain ⟨q, z, hq⟩ := b
      cases z
      obtain ⟨h1, h2⟩ := hp.uniq hq
      rw [show x = (x.1, x.2) from rfl, show y = (y.1, y.2) from rfl, h1, h2]
theorem sf_inj {l h l' h' : V} {i j i' j' : Bool} (e : sf l h i j = sf l' h' i' j') : l = l' ∧ h = h' ∧ i = i' ∧ j = j' := by
  have g : ∀ m : Str, (sf l h i j).lookup m = (sf l' h' i' j').lookup m := fun m => by rw [e]
  have g1 := g "low"
  have g2 := g "high"
  have g3 := g "low_in"
  have g4 := g "high_in"
  rw [sf_low, sf_low] at g1
  rw [sf_high, sf_high] at g2
  rw [sf_low_in, sf_low_in] at g3
  rw [sf_high_in, sf_high_in] at g4
  exact ⟨Option.some.inj g1, Option.some.inj g2, V.bl.inj (Option.some.inj g3), V.bl.inj (Option.some.inj g4)⟩
theorem StAt.uniq {lo hi lo' hi' : Option Q2} {li hj li' hj' : Bool} (a : StAt CM CS H p lo hi li hj) (b : StAt CM CS H p lo' hi' li' hj') : lo = lo' ∧ hi = hi' ∧ li = li' ∧ hj = hj' := by
  obtain ⟨⟨d, l, h, h1, h2, h3⟩, _⟩ := a
  obtain ⟨⟨d', l', h', k1, k2, k3⟩, _⟩ := b
  rw [h1] at k1
  have e := HO.ins.inj (Option.some.inj k1)
  obtain ⟨rfl, rfl, rfl, rfl⟩ := sf_inj e.2.2
  exact ⟨h2.uniq k2, h3.uniq k3, rfl, rfl⟩
theorem st_notM {q : Addr} {lo hi : Option Q2} {li hj : Bool} {t u : Int} (a : StAt CM CS H p lo hi li hj) (m : MAt CM H p t u) : False := by
  obtain ⟨⟨d, l, hh, h1, _⟩, _⟩ := a
  obtain ⟨dm, hm⟩ := m
  rw [h1] at hm
  have e := (HO.ins.inj (Option.some.inj hm)).2.2
  have e2 := congrArg (fun fs : List (Str × V) => fs.lookup ("top" : Str)) e
  have e3 : (sf l hh li hj).lookup ("top" : Str) = none := sf_no _ _ _ _ (by decide +kernel) (by decide +kernel) (by decide +kernel) (by decide +kernel)
  have e4 := mf_top t u
  rw [show (sf l hh li hj).lookup ("top" : Str) = (mf t u).lookup ("top" : Str) from e2, e4] at e3
  cases e3
/-- what is asked of the two classes -/
structure Two (K : PySem.W.Frag) (CM CS : Addr) : Prop where
  clM : Cls K CM
  iiM : IsC K CM
  ecM : EqC K CM
  clS : Cls K CS
  iiS : IsC K CS
  ecS : EqC K CS
  nMS : PySem.W.notFirst K CM (.ref CS) = true
  nSM : PySem.W.notFirst K CS (.ref CM) = true
  kMS : PySem.W.kitOne K (.ref CM) (.ref CS) = some false
  kSM : PySem.W.kitOne K (.ref CS) (.ref CM) = some false
def DAllS (K : PySem.W.Frag) (CM CS : Addr) : Eqb := DOr (DOr (DOwn K CS (REqS K CM CS)) (DRef CS (REqS K CM CS))) (DOwn K CM (REq K CM))
theorem LikeS.fwd {y : V} {b : Bool} (T : Two K CM CS) (h : LikeS CM CS H p y b) : DOwn K CS (REqS K CM CS) (.ref p) y H b := by
  cases h with
  | @st q lo hi lo' hi' li hj li' hj' a b =>
    obtain ⟨⟨d, l, hh, h1, _⟩, _⟩ := _root_.id a
    obtain ⟨⟨d', l', hh', k1, _⟩, _⟩ := _root_.id b
    refine ⟨p, d, _, _, rfl, h1, tyM k1 T.clS T.iiS, nf_self, fun e => ?_, p, lo, hi, li, hj, rfl, a, .inl ⟨q, lo', hi', li', hj', rfl, b, rfl⟩⟩
    cases e
    obtain ⟨rfl, rfl, rfl, rfl⟩ := a.uniq b
    exact eqS_self _ _ _ _
  | @kd _ Ty lo hi li hj a k =>
    obtain ⟨⟨d, l, hh, h1, _⟩, _⟩ := _root_.id a
    refine ⟨p, d, _, _, rfl, h1, k.ty, T.ecS.nf Ty k.mem, fun e => ?_, p, lo, hi, li, hj, rfl, a, .inr ⟨_, k.ty, T.ecS.kit Ty k.mem, rfl⟩⟩
    subst e
    exact (k.notIns h1).elim
  | @ms q t u lo hi li hj a m =>
    obtain ⟨⟨d, l, hh, h1, _⟩, _⟩ := _root_.id a
    obtain ⟨dm, hm⟩ := _root_.id m
    have ty := tyM hm T.clM T.iiM
    refine ⟨p, d, _, _, rfl, h1, ty, T.nSM, fun e => ?_, p, lo, hi, li, hj, rfl, a, .inr ⟨_, ty, T.kMS, rfl⟩⟩
    cases e
    exact (st_notM (q := p) a m).elim
theorem LikeS.bwd {y : V} {b : Bool} (T : Two K CM CS) (h : LikeS CM CS H p y b) : DAllS K CM CS y (.ref p) H b := by
  cases h with
  | @st q lo hi lo' hi' li hj li' hj' a b =>
    rw [eqS_comm]
    exact .inl (.inl (LikeS.fwd T (.st b a)))
  | @kd _ Ty lo hi li hj a k =>
    obtain ⟨⟨d, l, hh, h1, _⟩, _⟩ := _root_.id a
    refine .inl (.inr ⟨p, d, _, Ty, rfl, h1, k, fun e => ?_, p, lo, hi, li, hj, rfl, a, .inr ⟨_, k.ty, T.ecS.kit Ty k.mem, rfl⟩⟩)
    subst e
    exact (k.notIns h1).elim
  | @ms q t u lo hi li hj a m =>
    obtain ⟨⟨d, l, hh, h1, _⟩, _⟩ := _root_.id a
    obtain ⟨dm, hm⟩ := _root_.id m
    have ty := tyM h1 T.clS T.iiS
    refine .inr ⟨q, dm, _, _, rfl, hm, ty, T.nMS, fun e => ?_, q, t, u, rfl, m, .inr ⟨_, ty, T.kSM, rfl⟩⟩
    cases e
    exact (st_notM (q := p) a m).elim
theorem LikeS.inl {y : V} {b : Bool} (T : Two K CM CS) (h : LikeS CM CS H p y b) : InB (DAllS K CM CS) (.ref p) H [.non, y] b := by
  have go : ∀ {lo hi li hj}, StAt CM CS H p lo hi li hj → DAllS K CM CS .non (.ref p) H false := fun {lo hi li hj} a => LikeS.bwd T (.kd a .non)
  have nn : DAllS K CM CS .non (.ref p) H false := by
    cases h with
    | st a _ => exact go a
    | kd a _ => exact go a
    | ms a _ => exact go a
  refine .inr ⟨nn, ?_⟩
  cases b with
  | true => exact .inl ⟨h.bwd T, rfl⟩
  | false => exact .inr ⟨h.bwd T, rfl⟩
end
/-! ### texts of Stretches -/
def eT : Option Q2 → Str
  | none => ".."
  | some a => mTxt a.1 a.2
def rT : Option Q2 → Str
  | none => "None"
  | some a => mRep a.1 a.2
def sTxt (lo hi : Option Q2) (li hj : Bool) : Str := Txt.join "" [if li then "[" else "(", eT lo, ", ", eT hi, if hj then "]" else ")"]
def sRep (lo hi : Option Q2) (li hj : Bool) : Str := Str.empty ++ "Stretch(" ++ rT lo ++ ", " ++ rT hi ++ ", " ++ bTxt li ++ ", " ++ bTxt hj ++ ")"
/-- of at most so many bits -/
def SzO (k : Nat) : Option Q2 → Prop
  | none => True
  | some a => Sz k a.1 ∧ Sz k a.2
theorem eT_len {e : Option Q2} (h : LowO e) (s : SzO 1900 e) : (eT e).length ≤ 6001 := by
  cases e with
  | none => show (Str.ofString "..").length ≤ 6001; decide
  | some a => exact mTxt_len s.1 s.2 h.pos
theorem rT_len {e : Option Q2} (s : SzO 1900 e) : (rT e).length ≤ 6001 := by
  cases e with
  | none => show (Str.ofString "None").length ≤ 6001; decide
  | some a => exact Nat.le_trans (mRep_len s.1 s.2) (by decide)
theorem bTxt_len (b : Bool) : (bTxt b).length ≤ 5 := by cases b <;> decide
theorem sTxt_eq (lo hi : Option Q2) (li hj : Bool) : sTxt lo hi li hj = (if li then ("[" : Str) else "(") ++ eT lo ++ ", " ++ eT hi ++ (if hj then ("]" : Str) else ")") := by
  unfold sTxt
  rw [join_eq]
  have e : (Str.ofString "" : Str) = Str.empty := rfl
  show (if li then ("[" : Str) else "(") ++ "" ++ (eT lo ++ "" ++ (", " ++ "" ++ (eT hi ++ "" ++ (if hj then ("]" : Str) else ")")))) = _
  rw [e]
  simp only [Str.append_empty, Str.append_assoc]
/-- a comprehension without a test: as many as there were -/
theorem lcqT {K : PySem.W.Frag} {a : Addr} {xs : List V} {g : TG} {tt : TT} {te : TE} {vs : List Nat} {σ : L2.St} {H1 : Hp} {D : Addr} {Qd : Hp → Prop} (R : Hp → V → Prop) (hR : ∀ H H' y, R H y → Nl H H' → R H' y) (hz : xs.length < sizeLine) (hS : SqT K H1 a xs) (hD : H1 D = none)
    (hs : ∀ (i : Nat) (x : V) (H : Hp) (N : VK) (M : Hp → Prop), xs[i]? = some x → Same H1 H → (∀ y H4, Same H H4 → R H4 y → N y H4) → g x (wipe σ vs) H fun σ2 H2 => wipe σ2 vs = wipe σ vs ∧ tt σ2 H2 fun b H3 => if b = true then te σ2 H3 N else M H3)
    (hd : ∀ H ys, Same H1 H → H D = some (.lst ys) → ys.length = xs.length → (∀ y ∈ ys, R H y) → Qd H) :
    ∃ W : Nat → Nat → Hp → Prop, (∃ m, W 0 m (upd H1 D (.lst []))) ∧ ∀ i m H, W i m H →
      ((Itt K a).stop i H ∧ Qd H) ∨ ((Itt K a).go i H ∧ ∃ Nx : Hp → Prop, (∀ H', Nx H' → ∃ m', m' < m ∧ W (i + 1) m' H') ∧ ∀ x H', (Itt K a).yld i H x H' → g x (wipe σ vs) H' fun σ2 H2 => wipe σ2 vs = wipe σ vs ∧ tt σ2 H2 fun b H3 =>
        if b = true then te σ2 H3 fun y H4 => ∃ acc, H4 D = some (.lst acc) ∧ acc.length < sizeLine ∧ Nx (upd H4 D (.lst (acc ++ [y]))) else Nx H3) := by
  refine lc_tup (fun i H => Same H1 H ∧ ∃ ys, H D = some (.lst ys) ∧ ys.length = i ∧ ∀ y ∈ ys, R H y) ⟨same1 hD, [], upd_same, rfl, fun y hy => nomatch hy⟩ (fun i H _ p => p.1.sqt hS) (fun i x H hx p => ?_) (fun H p => ?_)
  · have hi : i < xs.length := (List.getElem?_eq_some_iff.mp hx).1
    obtain ⟨s1, ys, h1, h2, h3⟩ := p
    refine hs i x H _ _ hx s1 (fun y H4 s4 r4 => ⟨ys, s4 _ _ h1, by omega, ?_, ys ++ [y], upd_same, ?_, ?_⟩)
    · intro c o e
      rw [upd_ne (ne_of_none e hD)]
      exact s4 _ _ (s1 _ _ e)
    · rw [List.length_append, List.length_singleton]; omega
    · intro z hz
      have n4 : Nl H4 (upd H4 D (.lst (ys ++ [y]))) := Nl.put (s4 _ _ h1)
      rcases List.mem_append.mp hz with hz | hz
      · exact hR _ _ _ (hR _ _ _ (h3 z hz) (Nl.of s4)) n4
      · have : z = y := by simpa using hz
        subst this
        exact hR _ _ _ r4 n4
  · obtain ⟨s1, ys, h1, h2, h3⟩ := p
    exact hd H ys s1 h1 h2 h3
/-- the tuple of two ends and two truths -/
def EndsK (k : Nat) (H : Hp) (v : V) (ea eb : Option Q2) (ia ib : Bool) : Prop := ∃ p va vb, v = .ref p ∧ H p = some (.tup [va, vb, .bl ia, .bl ib]) ∧ EndV k H va ea ∧ EndV k H vb eb
theorem EndsK.nl {k : Nat} {H H' : Hp} {v : V} {ea eb : Option Q2} {ia ib : Bool} (a : EndsK k H v ea eb ia ib) (s : Nl H H') : EndsK k H' v ea eb ia ib := by
  obtain ⟨p, va, vb, h0, h1, h2, h3⟩ := a
  exact ⟨p, va, vb, h0, s _ _ h1 rfl, h2.nl s, h3.nl s⟩
theorem EndsK.same {k : Nat} {H H' : Hp} {v : V} {ea eb : Option Q2} {ia ib : Bool} (a : EndsK k H v ea eb ia ib) (s : Same H H') : EndsK k H' v ea eb ia ib := a.nl (Nl.of s)
theorem EndsAt.k {H : Hp} {p : Addr} {ea eb : Option Q2} {ia ib : Bool} (a : EndsAt H p ea eb ia ib) : EndsK 150 H (.ref p) ea eb ia ib := by
  obtain ⟨⟨va, vb, h1, h2, h3⟩, _⟩ := a
  exact ⟨p, va, vb, rfl, h1, h2.mono (by decide), h3.mono (by decide)⟩
/-- what the law holds of two tuples of ends -/
def endsEq (ea eb : Option Q2) (ia ib : Bool) (fa fb : Option Q2) (ja jb : Bool) : Bool := optEq ea fa && (optEq eb fb && ((!ea.isSome || decide (V.bl ia = V.bl ja)) && (!eb.isSome || decide (V.bl ib = V.bl jb))))
theorem optEq_re {a b c d : Option Q2} (h : ReO a c) (g : ReO b d) : optEq a b = optEq c d := by
  cases a with
  | none =>
    cases c with
    | some _ => exact h.elim
    | none =>
      cases b with
      | none => cases d with
        | none => rfl
        | some _ => exact g.elim
      | some _ => cases d with
        | none => exact g.elim
        | some _ => rfl
  | some a =>
    cases c with
    | none => exact h.elim
    | some c =>
      cases b with
      | none => cases d with
        | none => rfl
        | some _ => exact g.elim
      | some b => cases d with
        | none => exact g.elim
        | some d => exact eqq_congr h g
theorem dB {a b : Bool} : decide (V.bl a = V.bl b) = (a == b) := by cases a <;> cases b <;> rfl
theorem eqS_ends {m1 m2 n1 n2 ea eb fa fb : Option Q2} {ia ib ja jb : Bool} (a : ReO m1 ea) (b : ReO m2 eb) (c : ReO n1 fa) (d : ReO n2 fb) :
    eqS m1 m2 (ia && ea.isSome) (ib && eb.isSome) n1 n2 (ja && fa.isSome) (jb && fb.isSome) = endsEq ea eb ia ib fa fb ja jb := by
  unfold eqS endsEq
  rw [optEq_re a c, optEq_re b d, dB, dB, dB, dB]
  cases ea <;> cases fa <;> cases eb <;> cases fb <;> simp [optEq]
theorem re_low {m a : Q2} (h : Re m a) (l : Low m) : m.1.natAbs ≤ a.1.natAbs ∧ m.2.natAbs ≤ a.2.natAbs := by
  obtain ⟨h1, h2, e⟩ := h
  have co : Int.gcd m.2 m.1 = 1 := by rw [Int.gcd_comm]; exact l.co
  have d2 : m.2 ∣ a.2 := dvd_co (b := m.1) ⟨a.1, by rw [e, Int.mul_comm]⟩ co
  obtain ⟨k, hk⟩ := d2
  have k0 : 0 < k := by
    rcases Int.lt_or_le 0 k with z | z
    · exact z
    · have := Int.mul_nonneg_of_nonpos_of_nonpos (show -m.2 ≤ 0 by omega) z
      have e2 : -m.2 * k = -(m.2 * k) := Int.neg_mul ..
      omega
  have e1 : a.1 = m.1 * k := by
    have : a.1 * m.2 = (m.1 * k) * m.2 := by
      rw [← e, hk]
      simp only [Int.mul_assoc, Int.mul_comm, Int.mul_left_comm]
    exact Int.eq_of_mul_eq_mul_right (by omega) this
  constructor
  · rw [e1, Int.natAbs_mul]
    exact Nat.le_mul_of_pos_right _ (by omega)
  · rw [hk, Int.natAbs_mul]
    exact Nat.le_mul_of_pos_right _ (by omega)
theorem fr_low {t u : Int} {m a : Q2} (f : Fr t u a.1 a.2) (h : Re m a) (l : Low m) (s1 : Sz 4000 a.1) (s2 : Sz 4000 a.2) : m = (t, u) := by
  have ha := h.2.1
  have e : t * m.2 = m.1 * u := f.of (by omega) h.2.2.symm
  exact low_eq l ⟨f.pos, f.co, s1.le f.lt, s2.le f.lu⟩ e.symm
end My
namespace My
open PySem PySem.Spec PyProof.Rows L2
/-! ### cuts of three stretches -/
theorem opR_or {X : Cx} {f : Value → Value → Sem Value} {r r' : R2} (h : OpR X f r) (h' : OpR X f r') : OpR X f (fun x y H Q => r x y H Q ∨ r' x y H Q) := by
  intro pins s σ H x y v u Q I rx ry hq
  rcases hq with hq | hq
  · exact h pins s σ H x y v u Q I rx ry hq
  · exact h' pins s σ H x y v u Q I rx ry hq
theorem lt_w {x y w : Int} (hw : 0 < w) : x < y ↔ x * w < y * w := ⟨fun h => Int.mul_lt_mul_of_pos_right h hw, fun h => Int.lt_of_mul_lt_mul_right h (Int.le_of_lt hw)⟩
theorem eq_w {x y w : Int} (hw : 0 < w) : x = y ↔ x * w = y * w := ⟨fun h => by rw [h], fun h => Int.eq_of_mul_eq_mul_right (by omega) h⟩
/-- three fractions by three whole numbers -/
structure Ord3 (a b c : Q2) (A B C : Int) : Prop where
  ab : ltq a b = decide (A < B)
  ba : ltq b a = decide (B < A)
  eab : eqq a b = decide (A = B)
  eba : eqq b a = decide (B = A)
  bc : ltq b c = decide (B < C)
  cb : ltq c b = decide (C < B)
  ebc : eqq b c = decide (B = C)
  ecb : eqq c b = decide (C = B)
  ac : ltq a c = decide (A < C)
  ca : ltq c a = decide (C < A)
  eac : eqq a c = decide (A = C)
  eca : eqq c a = decide (C = A)
theorem ltw {a b : Q2} {w : Int} (hw : 0 < w) {A B : Int} (h1 : A = a.1 * b.2 * w) (h2 : B = b.1 * a.2 * w) : ltq a b = decide (A < B) := by
  unfold ltq; rw [h1, h2]; exact decide_eq_decide.mpr (lt_w hw)
theorem eqw {a b : Q2} {w : Int} (hw : 0 < w) {A B : Int} (h1 : A = a.1 * b.2 * w) (h2 : B = b.1 * a.2 * w) : eqq a b = decide (A = B) := by
  unfold eqq; rw [h1, h2]; exact decide_eq_decide.mpr (eq_w hw)
theorem ord3 {a b c : Q2} (ha : 0 < a.2) (hb : 0 < b.2) (hc : 0 < c.2) : Ord3 a b c (a.1 * b.2 * c.2) (b.1 * a.2 * c.2) (c.1 * a.2 * b.2) := by
  have z1 : b.1 * a.2 * c.2 = b.1 * c.2 * a.2 := by rw [Int.mul_assoc, Int.mul_comm a.2, Int.mul_assoc]
  have z2 : c.1 * a.2 * b.2 = c.1 * b.2 * a.2 := by rw [Int.mul_assoc, Int.mul_comm a.2, Int.mul_assoc]
  have z3 : a.1 * b.2 * c.2 = a.1 * c.2 * b.2 := by rw [Int.mul_assoc, Int.mul_comm b.2, Int.mul_assoc]
  exact ⟨ltw hc rfl rfl, ltw hc rfl rfl, eqw hc rfl rfl, eqw hc rfl rfl, ltw ha z1 z2, ltw ha z2 z1, eqw ha z1 z2, eqw ha z2 z1, ltw hb z3 rfl, ltw hb rfl z3, eqw hb z3 rfl, eqw hb rfl z3⟩
theorem Alike.of {x y : Q2} {i j : Bool} (h : Re x y) (e : i = j) : Alike (some x, i) (some y, j) := ⟨h, fun _ => e⟩
theorem Alike.refl {x : Option Q2 × Bool} (h : PosO x.1) : Alike x x := ⟨ReO.refl h, fun _ => rfl⟩
theorem Alike.symm {x y : Option Q2 × Bool} (h : Alike x y) : Alike y x := ⟨h.1.symm, fun e => (h.2 (by rw [h.1.isS]; exact e)).symm⟩

theorem cutLo_noneR {x : Option Q2 × Bool} {j : Bool} (h : PosO x.1) : Alike (cutLo x.1 x.2 none j) x := by
  obtain ⟨x, i⟩ := x
  cases x with
  | none => exact ⟨trivial, fun e => nomatch e⟩
  | some a => exact Alike.refl h
theorem cutLo_pos {a b : Option Q2} {i j : Bool} (ha : PosO a) (hb : PosO b) : PosO (cutLo a i b j).1 := by
  cases a with
  | none => exact hb
  | some a => cases b with
    | none => exact ha
    | some b =>
      show PosO (if ltq a b then (some b, j) else if eqq a b then (some a, i && j) else (some a, i)).1
      split
      · exact hb
      · split <;> exact ha
theorem cutLo_sz {k : Nat} {a b : Option Q2} {i j : Bool} (ha : SzO k a) (hb : SzO k b) : SzO k (cutLo a i b j).1 := by
  cases a with
  | none => exact hb
  | some a => cases b with
    | none => exact ha
    | some b =>
      show SzO k (if ltq a b then (some b, j) else if eqq a b then (some a, i && j) else (some a, i)).1
      split
      · exact hb
      · split <;> exact ha
theorem cutLo_rot {a b c : Option Q2} {i j k : Bool} (ha : PosO a) (hb : PosO b) (hc : PosO c) :
    Alike (cutLo (cutLo a i b j).1 (cutLo a i b j).2 c k) (cutLo (cutLo c k a i).1 (cutLo c k a i).2 b j) := by
  cases a with
  | none =>
    show Alike (cutLo b j c k) _
    cases c with
    | none => exact cutLo_noneR (x := (b, j)) hb
    | some c => exact cutLo_comm (a := some c) hc hb
  | some a =>
    cases b with
    | none =>
      show Alike (cutLo (some a) i c k) _
      have h1 := cutLo_noneR (x := cutLo c k (some a) i) (j := j) (cutLo_pos hc ha)
      exact (cutLo_comm (a := c) hc ha).trans h1.symm
    | some b =>
      cases c with
      | none => exact cutLo_noneR (x := cutLo (some a) i (some b) j) (cutLo_pos ha hb)
      | some c =>
        have ha : 0 < a.2 := ha
        have hb : 0 < b.2 := hb
        have hc : 0 < c.2 := hc
        have o := ord3 ha hb hc
        revert o
        generalize a.1 * b.2 * c.2 = A
        generalize b.1 * a.2 * c.2 = B
        generalize c.1 * a.2 * b.2 = C
        intro o
        have ro : ∀ {x y : Q2}, 0 < x.2 → 0 < y.2 → eqq x y = true → Re x y := fun h1 h2 e => eqq_re h1 h2 e
        rcases Int.lt_trichotomy A B with h1 | h1 | h1 <;> rcases Int.lt_trichotomy B C with h2 | h2 | h2 <;> rcases Int.lt_trichotomy A C with h3 | h3 | h3
        all_goals first
          | (exfalso; omega)
          | (have x1 := o.ab; have x2 := o.ba; have x3 := o.eab; have x4 := o.eba; have x5 := o.bc; have x6 := o.cb; have x7 := o.ebc; have x8 := o.ecb; have x9 := o.ac; have x10 := o.ca; have x11 := o.eac; have x12 := o.eca
             have y1 : decide (A < B) = _ := rfl
             first
               | rw [decide_eq_true (by omega : A < B)] at x1
               | rw [decide_eq_false (by omega : ¬ A < B)] at x1
             first
               | rw [decide_eq_true (by omega : B < A)] at x2
               | rw [decide_eq_false (by omega : ¬ B < A)] at x2
             first
               | rw [decide_eq_true (by omega : A = B)] at x3
               | rw [decide_eq_false (by omega : ¬ A = B)] at x3
             first
               | rw [decide_eq_true (by omega : B = A)] at x4
               | rw [decide_eq_false (by omega : ¬ B = A)] at x4
             first
               | rw [decide_eq_true (by omega : B < C)] at x5
               | rw [decide_eq_false (by omega : ¬ B < C)] at x5
             first
               | rw [decide_eq_true (by omega : C < B)] at x6
               | rw [decide_eq_false (by omega : ¬ C < B)] at x6
             first
               | rw [decide_eq_true (by omega : B = C)] at x7
               | rw [decide_eq_false (by omega : ¬ B = C)] at x7
             first
               | rw [decide_eq_true (by omega : C = B)] at x8
               | rw [decide_eq_false (by omega : ¬ C = B)] at x8
             first
               | rw [decide_eq_true (by omega : A < C)] at x9
               | rw [decide_eq_false (by omega : ¬ A < C)] at x9
             first
               | rw [decide_eq_true (by omega : C < A)] at x10
               | rw [decide_eq_false (by omega : ¬ C < A)] at x10
             first
               | rw [decide_eq_true (by omega : A = C)] at x11
               | rw [decide_eq_false (by omega : ¬ A = C)] at x11
             first
               | rw [decide_eq_true (by omega : C = A)] at x12
               | rw [decide_eq_false (by omega : ¬ C = A)] at x12
             simp only [cutLo, x1, x2, x3, x4, x5, x6, x7, x8, x9, x10, x11, x12, if_true, Bool.false_eq_true, if_false]
             first
               | exact Alike.of (Re.refl ha) (by cases i <;> cases j <;> cases k <;> rfl)
               | exact Alike.of (Re.refl hb) (by cases i <;> cases j <;> cases k <;> rfl)
               | exact Alike.of (Re.refl hc) (by cases i <;> cases j <;> cases k <;> rfl)
               | exact Alike.of (ro ha hb x3) (by cases i <;> cases j <;> cases k <;> rfl)
               | exact Alike.of (ro hb ha x4) (by cases i <;> cases j <;> cases k <;> rfl)
               | exact Alike.of (ro hb hc x7) (by cases i <;> cases j <;> cases k <;> rfl)
               | exact Alike.of (ro hc hb x8) (by cases i <;> cases j <;> cases k <;> rfl)
               | exact Alike.of (ro ha hc x11) (by cases i <;> cases j <;> cases k <;> rfl)
               | exact Alike.of (ro hc ha x12) (by cases i <;> cases j <;> cases k <;> rfl))
theorem cutLo_abs {a b : Option Q2} {i j : Bool} (ha : PosO a) (hb : PosO b) : Alike (cutLo (cutLo a i b j).1 (cutLo a i b j).2 a i) (cutLo a i b j) := by
  have h1 := cutLo_rot (k := i) (i := i) (j := j) ha hb ha
  have h2 := cutLo_alike (cutLo_self (i := i) ha) (Alike.refl (x := (b, j)) hb)
  exact h1.trans h2

theorem cutHi_noneR {x : Option Q2 × Bool} {j : Bool} (h : PosO x.1) : Alike (cutHi x.1 x.2 none j) x := by
  obtain ⟨x, i⟩ := x
  cases x with
  | none => exact ⟨trivial, fun e => nomatch e⟩
  | some a => exact Alike.refl h
theorem cutHi_pos {a b : Option Q2} {i j : Bool} (ha : PosO a) (hb : PosO b) : PosO (cutHi a i b j).1 := by
  cases a with
  | none => exact hb
  | some a => cases b with
    | none => exact ha
    | some b =>
      show PosO (if ltq b a then (some b, j) else if eqq a b then (some a, i && j) else (some a, i)).1
      split
      · exact hb
      · split <;> exact ha
theorem cutHi_sz {k : Nat} {a b : Option Q2} {i j : Bool} (ha : SzO k a) (hb : SzO k b) : SzO k (cutHi a i b j).1 := by
  cases a with
  | none => exact hb
  | some a => cases b with
    | none => exact ha
    | some b =>
      show SzO k (if ltq b a then (some b, j) else if eqq a b then (some a, i && j) else (some a, i)).1
      split
      · exact hb
      · split <;> exact ha
theorem cutHi_rot {a b c : Option Q2} {i j k : Bool} (ha : PosO a) (hb : PosO b) (hc : PosO c) :
    Alike (cutHi (cutHi a i b j).1 (cutHi a i b j).2 c k) (cutHi (cutHi c k a i).1 (cutHi c k a i).2 b j) := by
  cases a with
  | none =>
    show Alike (cutHi b j c k) _
    cases c with
    | none => exact cutHi_noneR (x := (b, j)) hb
    | some c => exact cutHi_comm (a := some c) hc hb
  | some a =>
    cases b with
    | none =>
      show Alike (cutHi (some a) i c k) _
      have h1 := cutHi_noneR (x := cutHi c k (some a) i) (j := j) (cutHi_pos hc ha)
      exact (cutHi_comm (a := c) hc ha).trans h1.symm
    | some b =>
      cases c with
      | none => exact cutHi_noneR (x := cutHi (some a) i (some b) j) (cutHi_pos ha hb)
      | some c =>
        have ha : 0 < a.2 := ha
        have hb : 0 < b.2 := hb
        have hc : 0 < c.2 := hc
        have o := ord3 ha hb hc
        revert o
        generalize a.1 * b.2 * c.2 = A
        generalize b.1 * a.2 * c.2 = B
        generalize c.1 * a.2 * b.2 = C
        intro o
        have ro : ∀ {x y : Q2}, 0 < x.2 → 0 < y.2 → eqq x y = true → Re x y := fun h1 h2 e => eqq_re h1 h2 e
        rcases Int.lt_trichotomy A B with h1 | h1 | h1 <;> rcases Int.lt_trichotomy B C with h2 | h2 | h2 <;> rcases Int.lt_trichotomy A C with h3 | h3 | h3
        all_goals first
          | (exfalso; omega)
          | (have x1 := o.ab; have x2 := o.ba; have x3 := o.eab; have x4 := o.eba; have x5 := o.bc; have x6 := o.cb; have x7 := o.ebc; have x8 := o.ecb; have x9 := o.ac; have x10 := o.ca; have x11 := o.eac; have x12 := o.eca
             have y1 : decide (A < B) = _ := rfl
             first
               | rw [decide_eq_true (by omega : A < B)] at x1
               | rw [decide_eq_false (by omega : ¬ A < B)] at x1
             first
               | rw [decide_eq_true (by omega : B < A)] at x2
               | rw [decide_eq_false (by omega : ¬ B < A)] at x2
             first
               | rw [decide_eq_true (by omega : A = B)] at x3
               | rw [decide_eq_false (by omega : ¬ A = B)] at x3
             first
               | rw [decide_eq_true (by omega : B = A)] at x4
               | rw [decide_eq_false (by omega : ¬ B = A)] at x4
             first
               | rw [decide_eq_true (by omega : B < C)] at x5
               | rw [decide_eq_false (by omega : ¬ B < C)] at x5
             first
               | rw [decide_eq_true (by omega : C < B)] at x6
               | rw [decide_eq_false (by omega : ¬ C < B)] at x6
             first
               | rw [decide_eq_true (by omega : B = C)] at x7
               | rw [decide_eq_false (by omega : ¬ B = C)] at x7
             first
               | rw [decide_eq_true (by omega : C = B)] at x8
               | rw [decide_eq_false (by omega : ¬ C = B)] at x8
             first
               | rw [decide_eq_true (by omega : A < C)] at x9
               | rw [decide_eq_false (by omega : ¬ A < C)] at x9
             first
               | rw [decide_eq_true (by omega : C < A)] at x10
               | rw [decide_eq_false (by omega : ¬ C < A)] at x10
             first
               | rw [decide_eq_true (by omega : A = C)] at x11
               | rw [decide_eq_false (by omega : ¬ A = C)] at x11
             first
               | rw [decide_eq_true (by omega : C = A)] at x12
               | rw [decide_eq_false (by omega : ¬ C = A)] at x12
             simp only [cutHi, x1, x2, x3, x4, x5, x6, x7, x8, x9, x10, x11, x12, if_true, Bool.false_eq_true, if_false]
             first
               | exact Alike.of (Re.refl ha) (by cases i <;> cases j <;> cases k <;> rfl)
               | exact Alike.of (Re.refl hb) (by cases i <;> cases j <;> cases k <;> rfl)
               | exact Alike.of (Re.refl hc) (by cases i <;> cases j <;> cases k <;> rfl)
               | exact Alike.of (ro ha hb x3) (by cases i <;> cases j <;> cases k <;> rfl)
               | exact Alike.of (ro hb ha x4) (by cases i <;> cases j <;> cases k <;> rfl)
               | exact Alike.of (ro hb hc x7) (by cases i <;> cases j <;> cases k <;> rfl)
               | exact Alike.of (ro hc hb x8) (by cases i <;> cases j <;> cases k <;> rfl)
               | exact Alike.of (ro ha hc x11) (by cases i <;> cases j <;> cases k <;> rfl)
               | exact Alike.of (ro hc ha x12) (by cases i <;> cases j <;> cases k <;> rfl))
theorem cutHi_abs {a b : Option Q2} {i j : Bool} (ha : PosO a) (hb : PosO b) : Alike (cutHi (cutHi a i b j).1 (cutHi a i b j).2 a i) (cutHi a i b j) := by
  have h1 := cutHi_rot (k := i) (i := i) (j := j) ha hb ha
  have h2 := cutHi_alike (cutHi_self (i := i) ha) (Alike.refl (x := (b, j)) hb)
  exact h1.trans h2

theorem in_some {lo hi : Option Q2} {li hj : Bool} {x : Q2} (h1 : PosO lo) (h2 : PosO hi) (hx : 0 < x.2) (a : loIn lo li x = true) (b : hiIn hi hj x = true) : someB lo hi li hj = true := by
  cases lo with
  | none => rfl
  | some l =>
    cases hi with
    | none => rfl
    | some h =>
      have o := ord3 (a := l) (b := h) (c := x) h1 h2 hx
      revert o
      generalize l.1 * h.2 * x.2 = A
      generalize h.1 * l.2 * x.2 = B
      generalize x.1 * l.2 * h.2 = C
      intro o
      have a : (ltq l x || (li && eqq l x)) = true := a
      have b : (ltq x h || (hj && eqq x h)) = true := b
      show (ltq l h || (eqq l h && li && hj)) = true
      rw [o.ac, o.eac] at a
      rw [o.cb, o.ecb] at b
      rw [o.ab, o.eab]
      simp only [Bool.or_eq_true, Bool.and_eq_true, decide_eq_true_eq] at a b ⊢
      rcases a with a | ⟨a1, a2⟩ <;> rcases b with b | ⟨b1, b2⟩
      · exact .inl (by omega)
      · exact .inl (by omega)
      · exact .inl (by omega)
      · exact .inr ⟨⟨by omega, a1⟩, b1⟩
theorem some_in {lo hi : Option Q2} {li hj : Bool} (h1 : PosO lo) (h2 : PosO hi) (h : someB lo hi li hj = true) : ∃ x : Q2, 0 < x.2 ∧ loIn lo li x = true ∧ hiIn hi hj x = true := by
  cases lo with
  | none =>
    cases hi with
    | none => exact ⟨(0, 1), by decide, rfl, rfl⟩
    | some b =>
      have h2 : 0 < b.2 := h2
      refine ⟨(b.1 - b.2, b.2), h2, rfl, ?_⟩
      show (ltq (b.1 - b.2, b.2) b || (hj && eqq (b.1 - b.2, b.2) b)) = true
      have : ltq (b.1 - b.2, b.2) b = true := by
        unfold ltq
        exact decide_eq_true ((lt_w h2).mp (by omega))
      rw [this]; rfl
  | some a =>
    have h1 : 0 < a.2 := h1
    cases hi with
    | none =>
      refine ⟨(a.1 + a.2, a.2), h1, ?_, rfl⟩
      show (ltq a (a.1 + a.2, a.2) || (li && eqq a (a.1 + a.2, a.2))) = true
      have : ltq a (a.1 + a.2, a.2) = true := by
        unfold ltq
        exact decide_eq_true ((lt_w h1).mp (by omega))
      rw [this]; rfl
    | some b =>
      have h2 : 0 < b.2 := h2
      have h : (ltq a b || (eqq a b && li && hj)) = true := h
      simp only [Bool.or_eq_true, Bool.and_eq_true] at h
      rcases h with h | ⟨⟨h, e1⟩, e2⟩
      · have h0 : a.1 * b.2 < b.1 * a.2 := of_decide_eq_true h
        have p2 : 0 < a.2 * b.2 := Int.mul_pos h1 h2
        refine ⟨(a.1 * b.2 + b.1 * a.2, 2 * (a.2 * b.2)), by show 0 < 2 * (a.2 * b.2); omega, ?_, ?_⟩
        · show (ltq a _ || (li && eqq a _)) = true
          have : ltq a (a.1 * b.2 + b.1 * a.2, 2 * (a.2 * b.2)) = true := by
            unfold ltq
            refine decide_eq_true ?_
            show a.1 * (2 * (a.2 * b.2)) < (a.1 * b.2 + b.1 * a.2) * a.2
            have e1 : a.1 * (2 * (a.2 * b.2)) = (2 * (a.1 * b.2)) * a.2 := by grind
            rw [e1]
            exact (lt_w h1).mp (by omega)
          rw [this]; rfl
        · show (ltq _ b || (hj && eqq _ b)) = true
          have : ltq (a.1 * b.2 + b.1 * a.2, 2 * (a.2 * b.2)) b = true := by
            unfold ltq
            refine decide_eq_true ?_
            show (a.1 * b.2 + b.1 * a.2) * b.2 < b.1 * (2 * (a.2 * b.2))
            have e1 : b.1 * (2 * (a.2 * b.2)) = (2 * (b.1 * a.2)) * b.2 := by grind
            rw [e1]
            exact (lt_w h2).mp (by omega)
          rw [this]; rfl
      · refine ⟨a, h1, ?_, ?_⟩
        · show (ltq a a || (li && eqq a a)) = true
          rw [e1, eqq_self]; simp
        · show (ltq a b || (hj && eqq a b)) = true
          rw [e2, h]; simp
/-- nothing is in two: nothing in three -/
theorem some3 {a b c x y z : Option Q2} {i j k u v w : Bool} (ha : PosO a) (hb : PosO b) (hc : PosO c) (hx : PosO x) (hy : PosO y) (hz : PosO z)
    (h : someB (cutLo (cutLo a i b j).1 (cutLo a i b j).2 c k).1 (cutHi (cutHi x u y v).1 (cutHi x u y v).2 z w).1 (cutLo (cutLo a i b j).1 (cutLo a i b j).2 c k).2 (cutHi (cutHi x u y v).1 (cutHi x u y v).2 z w).2 = true) :
    someB (cutLo a i b j).1 (cutHi x u y v).1 (cutLo a i b j).2 (cutHi x u y v).2 = true := by
  have p1 := cutLo_pos (i := i) (j := j) ha hb
  have p2 := cutHi_pos (i := u) (j := v) hx hy
  obtain ⟨q, hq, h1, h2⟩ := some_in (cutLo_pos p1 hc) (cutHi_pos p2 hz) h
  rw [cutLo_in p1 hc hq, Bool.and_eq_true] at h1
  rw [cutHi_in p2 hz hq, Bool.and_eq_true] at h2
  exact in_some p1 p2 hq h1.1 h2.1
theorem alike_eq {x y : Option Q2 × Bool} (h : Alike x y) (l1 : LowO x.1) (l2 : LowO y.1) : x.1 = y.1 := by
  obtain ⟨x, i⟩ := x
  obtain ⟨y, j⟩ := y
  obtain ⟨h, _⟩ := h
  cases x with
  | none => cases y with
    | none => rfl
    | some _ => exact h.elim
  | some a => cases y with
    | none => exact h.elim
    | some b =>
      show some a = some b
      rw [low_eq l1 l2 h.2.2]
/-- two that are told alike: None both, or Stretches of the same ends -/
theorem cutV_two {CM CS : Addr} {H : Hp} {v w : V} {x y z t : Option Q2 × Bool} (c : CutV CM CS H v x z) (d : CutV CM CS H w y t) (h1 : Alike x y) (h2 : Alike z t) :
    (someB x.1 z.1 x.2 z.2 = false ∧ v = .non ∧ w = .non) ∨ (someB x.1 z.1 x.2 z.2 = true ∧ ∃ p q, v = .ref p ∧ w = .ref q ∧ StAt CM CS H p x.1 z.1 (x.2 && x.1.isSome) (z.2 && z.1.isSome) ∧ StAt CM CS H q x.1 z.1 (x.2 && x.1.isSome) (z.2 && z.1.isSome)) := by
  have e := h1.someB h2
  rcases c with ⟨c1, p, rfl, sp⟩ | ⟨c1, rfl⟩
  · rcases d with ⟨d1, q, rfl, sq⟩ | ⟨d1, rfl⟩
    · refine .inr ⟨c1, p, q, rfl, rfl, sp, ?_⟩
      rw [h1.flag, h2.flag, alike_eq h1 sp.l1 sq.l1, alike_eq h2 sp.l2 sq.l2]
      exact sq
    · rw [c1, d1] at e; cases e
  · rcases d with ⟨d1, q, rfl, sq⟩ | ⟨d1, rfl⟩
    · rw [c1, d1] at e; cases e
    · exact .inl ⟨c1, rfl, rfl⟩
theorem loIn_flag {x : Option Q2 × Bool} {q : Q2} : loIn x.1 (x.2 && x.1.isSome) q = loIn x.1 x.2 q := by
  obtain ⟨c, i⟩ := x
  cases c with
  | none => rfl
  | some a => show (ltq a q || ((i && true) && eqq a q)) = _; rw [Bool.and_true]; rfl
theorem hiIn_flag {x : Option Q2 × Bool} {q : Q2} : hiIn x.1 (x.2 && x.1.isSome) q = hiIn x.1 x.2 q := by
  obtain ⟨c, i⟩ := x
  cases c with
  | none => rfl
  | some a => show (ltq q a || ((i && true) && eqq q a)) = _; rw [Bool.and_true]; rfl
theorem st_like {CM CS p q : Addr} {H : Hp} {lo hi lo' hi' : Option Q2} {li hj li' hj' : Bool} (a : StAt CM CS H p lo hi li hj) (b : StAt CM CS H q lo' hi' li' hj') (h1 : Alike (lo, li) (lo', li')) (h2 : Alike (hi, hj) (hi', hj')) : LikeS CM CS H p (.ref q) true := by
  have e1 : lo = lo' := alike_eq h1 a.l1 b.l1
  have e2 : hi = hi' := alike_eq h2 a.l2 b.l2
  have f1 : li = li' := by
    cases z : lo with
    | none => rw [a.n1 z, b.n1 (e1 ▸ z)]
    | some x => exact h1.2 (by show lo.isSome = true; rw [z]; rfl)
  have f2 : hj = hj' := by
    cases z : hi with
    | none => rw [a.n2 z, b.n2 (e2 ▸ z)]
    | some x => exact h2.2 (by show hi.isSome = true; rw [z]; rfl)
  subst e1 e2 f1 f2
  have := LikeS.st a b
  rw [eqS_self] at this
  exact this
/-- a Measure whose numbers are not too great -/
def PtM (CM : Addr) (H : Hp) (y : V) : Prop := ∃ (q : Addr) (x : Q2), y = .ref q ∧ MAt CM H q x.1 x.2 ∧ 0 < x.2 ∧ Sz 20000 x.1 ∧ Sz 20000 x.2
theorem PtM.nl {CM : Addr} {H H' : Hp} {y : V} (h : PtM CM H y) (s : Nl H H') : PtM CM H' y := by
  obtain ⟨q, x, e, ⟨d, m⟩, r⟩ := h
  exact ⟨q, x, e, ⟨d, s _ _ m rfl⟩, r⟩
theorem PtM.same {CM : Addr} {H H' : Hp} {y : V} (h : PtM CM H y) (s : Same H H') : PtM CM H' y := h.nl (Nl.of s)
end My
namespace K12
open PySem PySem.Spec PyProof.Rows L2 My
local macro_rules | `(tactic| walk_at "c") => `(tactic| first | exact Eq.refl _ | ((with_reducible show (_ : Int) ≤ _); omega) | ((with_reducible show (_ : Int) < _); omega) | ((with_reducible show (_ : Nat) ≤ _); omega) | ((with_reducible show (_ : Nat) < _); omega) | assumption | with_reducible exact lf_marks _ _ _ _ | with_reducible exact lf_rule _ _ _ _ | with_reducible exact lf_least _ _ _ _ | with_reducible exact lf_most _ _ _ _ | with_reducible exact mf_top _ _ | with_reducible exact mf_bottom _ _ | with_reducible exact sf_low _ _ _ _ | with_reducible exact sf_high _ _ _ _ | with_reducible exact sf_low_in _ _ _ _ | with_reducible exact sf_high_in _ _ _ _ | exact SqL.of (by assumption) | exact SqT.of (by assumption) | exact Or.inl (SqL.of (by assumption)) | exact Or.inr (SqT.of (by assumption)) | exact Or.inr (by assumption) | exact Or.inl (by assumption) | omega | exact atI_nat (by assumption) | exact atI_of (n := 0) rfl (by assumption) | exact logS (by omega) | exact Or.inl (Or.inl ⟨by omega, by omega⟩) | exact Or.inl (Or.inr ⟨by omega, by omega⟩) | exact szb rfl | exact szs (by omega) | exact szl (by omega) | exact Or.inl ⟨Eq.refl _, _, SqL.of (by assumption)⟩ | exact ⟨_, SqT.of (by assumption)⟩ | exact ⟨_, SqL.of (by assumption)⟩ | exact ⟨by omega, by omega, by omega, by omega⟩)
local macro_rules | `(tactic| walk_at "e") => `(tactic| first | rfl | exact ⟨rfl, rfl⟩ | exact ⟨rfl, rfl, rfl⟩ | assumption | exact trivial)
local macro_rules | `(tactic| walk_at "w1") => `(tactic| first
  | refine q_belowT (by assumption) (by assumption) (by omega) (by omega) ?_ | refine q_belowA (by assumption) (by assumption) (by omega) (by omega) ?_ | refine q_subT (by assumption) (by assumption) (by omega) (by omega) (by omega) ?_
  | refine meth_q (by assumption) (by decide +kernel) (by decide +kernel) ?_ | refine meth_l (by assumption) (by decide +kernel) (by decide +kernel) (by decide +kernel) (by decide +kernel) ?_ | refine meth_s (by assumption) (by decide +kernel) (by decide +kernel) (by decide +kernel) (by decide +kernel) ?_
  | apply @Exists.intro V | apply @Exists.intro Int | apply @Exists.intro Addr | apply @Exists.intro Bool | apply @Exists.intro (List V) | apply @Exists.intro Str | apply @Exists.intro Nat | apply @Exists.intro (List (Str × V))
  | refine And.intro (by walk_at "c") ?_ | refine iteT ?_ | refine iteF ?_ | refine iteDT (by omega) ?_ | refine iteDF (by omega) ?_ | refine iteNS (by omega) ?_ | refine iteNT (by omega) ?_)
local macro_rules | `(tactic| walk_at "w") => `(tactic| repeat (walk_at "w1"))
local macro_rules | `(tactic| walk_at "hand") => `(tactic| first | assumption | exact HandAt.up (by walk_at "hand") (by assumption))
local macro_rules | `(tactic| walk_at "hp") => `(tactic| first | assumption | exact upd_same | exact up1 (by assumption) (by walk_at "hp") | exact Kp.get (by assumption) (by walk_at "hand") (by walk_at "hp") (by rfl) | exact L2.Same.get (by assumption) (by walk_at "hp") | exact up2 (by assumption) (by walk_at "hp") (by rfl))

/-! ### the text by places -/
def topS (i : Nat) : Stmt := PySem.Challenge.pw_sizeladders_k12_whole_points_of_stretche.main.body.getD i (.Pass ⟨0, 0, 0, 0⟩)
abbrev s_is_whole : Stmt := (topS 7)
abbrev s_common_part : Stmt := (topS 9)
abbrev s_written : Stmt := (topS 10)
abbrev s_Measure_init : Stmt := (inClass (topS 11) 0)
abbrev s_Measure_eq : Stmt := (inClass (topS 11) 1)
abbrev s_Measure_str : Stmt := (inClass (topS 11) 2)
abbrev s_Measure_repr : Stmt := (inClass (topS 11) 3)
abbrev s_Measure_plus : Stmt := (inClass (topS 11) 4)
abbrev s_Measure_minus : Stmt := (inClass (topS 11) 5)
abbrev s_Measure_parted : Stmt := (inClass (topS 11) 7)
abbrev s_Measure_is_below : Stmt := (inClass (topS 11) 8)
abbrev s_is_measure_or_none : Stmt := (topS 12)
abbrev s_is_empty : Stmt := (topS 14)
abbrev s_end_text : Stmt := (topS 15)
abbrev s_cut_low : Stmt := (topS 16)
abbrev s_cut_high : Stmt := (topS 17)
abbrev s_some_measure : Stmt := (topS 18)
abbrev s_Stretch_init : Stmt := (inClass (topS 19) 0)
abbrev s_Stretch_eq : Stmt := (inClass (topS 19) 1)
abbrev s_Stretch_str : Stmt := (inClass (topS 19) 2)
abbrev s_Stretch_repr : Stmt := (inClass (topS 19) 3)
abbrev s_Stretch_holds : Stmt := (inClass (topS 19) 4)
abbrev s_Stretch_meets : Stmt := (inClass (topS 19) 5)
abbrev s_Stretch_shared : Stmt := (inClass (topS 19) 6)
abbrev s_Stretch_cut : Stmt := (inClass (topS 19) 7)
abbrev s_l_hand_of : Stmt := (topS 21)
abbrev s_l_take : Stmt := (topS 22)
abbrev s_l_end_of : Stmt := (topS 23)
abbrev s_l_below : Stmt := (topS 24)
abbrev s_l_same : Stmt := (topS 25)
abbrev s_l_measure : Stmt := (topS 26)
abbrev s_l_some : Stmt := (topS 27)
abbrev s_l_ends_of : Stmt := (topS 28)
abbrev s_l_made : Stmt := (topS 29)
abbrev s_l_pair_of : Stmt := (topS 30)
abbrev s_l_beside : Stmt := (topS 31)
abbrev s_l_points : Stmt := (topS 32)
abbrev s_l_truth : Stmt := (topS 33)
abbrev s_l_both_right : Stmt := (topS 34)
abbrev s_l_thrice : Stmt := (topS 35)
abbrev s_law : Stmt := (topS 36)
abbrev N_is_whole : List Str := ["thing"]
abbrev p_is_whole : List Str := ["thing"]
theorem sc_is_whole : FnScope N_is_whole p_is_whole (defScope s_is_whole) := ⟨rfl, rfl, rfl, by decide +kernel, rfl, by decide +kernel, by decide +kernel⟩
abbrev N_common_part : List Str := ["one", "other", "great", "small"]
abbrev p_common_part : List Str := ["one", "other"]
theorem sc_common_part : FnScope N_common_part p_common_part (defScope s_common_part) := ⟨rfl, rfl, rfl, by decide +kernel, rfl, by decide +kernel, by decide +kernel⟩
abbrev N_written : List Str := ["top", "bottom", "whole", "rest"]
abbrev p_written : List Str := ["top", "bottom"]
theorem sc_written : FnScope N_written p_written (defScope s_written) := ⟨rfl, rfl, rfl, by decide +kernel, rfl, by decide +kernel, by decide +kernel⟩
abbrev N_Measure_init : List Str := ["self", "top", "bottom", "common"]
abbrev p_Measure_init : List Str := ["self", "top", "bottom"]
theorem sc_Measure_init : FnScope N_Measure_init p_Measure_init (defScope s_Measure_init) := ⟨rfl, rfl, rfl, by decide +kernel, rfl, by decide +kernel, by decide +kernel⟩
abbrev N_Measure_eq : List Str := ["self", "other"]
abbrev p_Measure_eq : List Str := ["self", "other"]
theorem sc_Measure_eq : FnScope N_Measure_eq p_Measure_eq (defScope s_Measure_eq) := ⟨rfl, rfl, rfl, by decide +kernel, rfl, by decide +kernel, by decide +kernel⟩
abbrev N_Measure_str : List Str := ["self"]
abbrev p_Measure_str : List Str := ["self"]
theorem sc_Measure_str : FnScope N_Measure_str p_Measure_str (defScope s_Measure_str) := ⟨rfl, rfl, rfl, by decide +kernel, rfl, by decide +kernel, by decide +kernel⟩
abbrev N_Measure_repr : List Str := ["self"]
abbrev p_Measure_repr : List Str := ["self"]
theorem sc_Measure_repr : FnScope N_Measure_repr p_Measure_repr (defScope s_Measure_repr) := ⟨rfl, rfl, rfl, by decide +kernel, rfl, by decide +kernel, by decide +kernel⟩
abbrev N_Measure_plus : List Str := ["self", "other"]
abbrev p_Measure_plus : List Str := ["self", "other"]
theorem sc_Measure_plus : FnScope N_Measure_plus p_Measure_plus (defScope s_Measure_plus) := ⟨rfl, rfl, rfl, by decide +kernel, rfl, by decide +kernel, by decide +kernel⟩
abbrev N_Measure_minus : List Str := ["self", "other"]
abbrev p_Measure_minus : List Str := ["self", "other"]
theorem sc_Measure_minus : FnScope N_Measure_minus p_Measure_minus (defScope s_Measure_minus) := ⟨rfl, rfl, rfl, by decide +kernel, rfl, by decide +kernel, by decide +kernel⟩
abbrev N_Measure_parted : List Str := ["self", "many"]
abbrev p_Measure_parted : List Str := ["self", "many"]
theorem sc_Measure_parted : FnScope N_Measure_parted p_Measure_parted (defScope s_Measure_parted) := ⟨rfl, rfl, rfl, by decide +kernel, rfl, by decide +kernel, by decide +kernel⟩
abbrev N_Measure_is_below : List Str := ["self", "other", "alike", "here", "there"]
abbrev p_Measure_is_below : List Str := ["self", "other", "alike"]
theorem sc_Measure_is_below : FnScope N_Measure_is_below p_Measure_is_below (defScope s_Measure_is_below) := ⟨rfl, rfl, rfl, by decide +kernel, rfl, by decide +kernel, by decide +kernel⟩
abbrev N_is_measure_or_none : List Str := ["thing"]
abbrev p_is_measure_or_none : List Str := ["thing"]
theorem sc_is_measure_or_none : FnScope N_is_measure_or_none p_is_measure_or_none (defScope s_is_measure_or_none) := ⟨rfl, rfl, rfl, by decide +kernel, rfl, by decide +kernel, by decide +kernel⟩
abbrev N_is_empty : List Str := ["low", "high", "low_in", "high_in"]
abbrev p_is_empty : List Str := ["low", "high", "low_in", "high_in"]
theorem sc_is_empty : FnScope N_is_empty p_is_empty (defScope s_is_empty) := ⟨rfl, rfl, rfl, by decide +kernel, rfl, by decide +kernel, by decide +kernel⟩
abbrev N_end_text : List Str := ["end"]
abbrev p_end_text : List Str := ["end"]
theorem sc_end_text : FnScope N_end_text p_end_text (defScope s_end_text) := ⟨rfl, rfl, rfl, by decide +kernel, rfl, by decide +kernel, by decide +kernel⟩
abbrev N_cut_low : List Str := ["one", "other"]
abbrev p_cut_low : List Str := ["one", "other"]
theorem sc_cut_low : FnScope N_cut_low p_cut_low (defScope s_cut_low) := ⟨rfl, rfl, rfl, by decide +kernel, rfl, by decide +kernel, by decide +kernel⟩
abbrev N_cut_high : List Str := ["one", "other"]
abbrev p_cut_high : List Str := ["one", "other"]
theorem sc_cut_high : FnScope N_cut_high p_cut_high (defScope s_cut_high) := ⟨rfl, rfl, rfl, by decide +kernel, rfl, by decide +kernel, by decide +kernel⟩
abbrev N_some_measure : List Str := ["stretch"]
abbrev p_some_measure : List Str := ["stretch"]
theorem sc_some_measure : FnScope N_some_measure p_some_measure (defScope s_some_measure) := ⟨rfl, rfl, rfl, by decide +kernel, rfl, by decide +kernel, by decide +kernel⟩
abbrev N_Stretch_init : List Str := ["self", "low", "high", "low_in", "high_in"]
abbrev p_Stretch_init : List Str := ["self", "low", "high", "low_in", "high_in"]
theorem sc_Stretch_init : FnScope N_Stretch_init p_Stretch_init (defScope s_Stretch_init) := ⟨rfl, rfl, rfl, by decide +kernel, rfl, by decide +kernel, by decide +kernel⟩
abbrev N_Stretch_eq : List Str := ["self", "other"]
abbrev p_Stretch_eq : List Str := ["self", "other"]
theorem sc_Stretch_eq : FnScope N_Stretch_eq p_Stretch_eq (defScope s_Stretch_eq) := ⟨rfl, rfl, rfl, by decide +kernel, rfl, by decide +kernel, by decide +kernel⟩
abbrev N_Stretch_str : List Str := ["self"]
abbrev p_Stretch_str : List Str := ["self"]
theorem sc_Stretch_str : FnScope N_Stretch_str p_Stretch_str (defScope s_Stretch_str) := ⟨rfl, rfl, rfl, by decide +kernel, rfl, by decide +kernel, by decide +kernel⟩
abbrev N_Stretch_repr : List Str := ["self"]
abbrev p_Stretch_repr : List Str := ["self"]
theorem sc_Stretch_repr : FnScope N_Stretch_repr p_Stretch_repr (defScope s_Stretch_repr) := ⟨rfl, rfl, rfl, by decide +kernel, rfl, by decide +kernel, by decide +kernel⟩
abbrev N_Stretch_holds : List Str := ["self", "measure"]
abbrev p_Stretch_holds : List Str := ["self", "measure"]
theorem sc_Stretch_holds : FnScope N_Stretch_holds p_Stretch_holds (defScope s_Stretch_holds) := ⟨rfl, rfl, rfl, by decide +kernel, rfl, by decide +kernel, by decide +kernel⟩
abbrev N_Stretch_meets : List Str := ["self", "other"]
abbrev p_Stretch_meets : List Str := ["self", "other"]
theorem sc_Stretch_meets : FnScope N_Stretch_meets p_Stretch_meets (defScope s_Stretch_meets) := ⟨rfl, rfl, rfl, by decide +kernel, rfl, by decide +kernel, by decide +kernel⟩
abbrev N_Stretch_shared : List Str := ["self", "other", "both"]
abbrev p_Stretch_shared : List Str := ["self", "other"]
theorem sc_Stretch_shared : FnScope N_Stretch_shared p_Stretch_shared (defScope s_Stretch_shared) := ⟨rfl, rfl, rfl, by decide +kernel, rfl, by decide +kernel, by decide +kernel⟩
abbrev N_Stretch_cut : List Str := ["self", "other", "low", "low_in", "high", "high_in"]
abbrev p_Stretch_cut : List Str := ["self", "other"]
theorem sc_Stretch_cut : FnScope N_Stretch_cut p_Stretch_cut (defScope s_Stretch_cut) := ⟨rfl, rfl, rfl, by decide +kernel, rfl, by decide +kernel, by decide +kernel⟩
abbrev N_l_hand_of : List Str := ["_law_script", "_law_k", "_law_cell", "_law_seed"]
abbrev p_l_hand_of : List Str := ["_law_script", "_law_k"]
theorem sc_l_hand_of : FnScope N_l_hand_of p_l_hand_of (defScope s_l_hand_of) := ⟨rfl, rfl, rfl, by decide +kernel, rfl, by decide +kernel, by decide +kernel⟩
abbrev N_l_take : List Str := ["_law_hand", "_law_many", "_law_digit", "_law_stirred"]
abbrev p_l_take : List Str := ["_law_hand", "_law_many"]
theorem sc_l_take : FnScope N_l_take p_l_take (defScope s_l_take) := ⟨rfl, rfl, rfl, by decide +kernel, rfl, by decide +kernel, by decide +kernel⟩
abbrev N_l_end_of : List Str := ["_law_hand", "_law_bottom"]
abbrev p_l_end_of : List Str := ["_law_hand"]
theorem sc_l_end_of : FnScope N_l_end_of p_l_end_of (defScope s_l_end_of) := ⟨rfl, rfl, rfl, by decide +kernel, rfl, by decide +kernel, by decide +kernel⟩
abbrev N_l_below : List Str := ["_law_one", "_law_two"]
abbrev p_l_below : List Str := ["_law_one", "_law_two"]
theorem sc_l_below : FnScope N_l_below p_l_below (defScope s_l_below) := ⟨rfl, rfl, rfl, by decide +kernel, rfl, by decide +kernel, by decide +kernel⟩
abbrev N_l_same : List Str := ["_law_one", "_law_two"]
abbrev p_l_same : List Str := ["_law_one", "_law_two"]
theorem sc_l_same : FnScope N_l_same p_l_same (defScope s_l_same) := ⟨rfl, rfl, rfl, by decide +kernel, rfl, by decide +kernel, by decide +kernel⟩
abbrev N_l_measure : List Str := ["_law_end"]
abbrev p_l_measure : List Str := ["_law_end"]
theorem sc_l_measure : FnScope N_l_measure p_l_measure (defScope s_l_measure) := ⟨rfl, rfl, rfl, by decide +kernel, rfl, by decide +kernel, by decide +kernel⟩
abbrev N_l_some : List Str := ["_law_a", "_law_b", "_law_ia", "_law_ib"]
abbrev p_l_some : List Str := ["_law_a", "_law_b", "_law_ia", "_law_ib"]
theorem sc_l_some : FnScope N_l_some p_l_some (defScope s_l_some) := ⟨rfl, rfl, rfl, by decide +kernel, rfl, by decide +kernel, by decide +kernel⟩
abbrev N_l_ends_of : List Str := ["_law_hand", "_law_form", "_law_a", "_law_b", "_law_ia", "_law_ib"]
abbrev p_l_ends_of : List Str := ["_law_hand"]
theorem sc_l_ends_of : FnScope N_l_ends_of p_l_ends_of (defScope s_l_ends_of) := ⟨rfl, rfl, rfl, by decide +kernel, rfl, by decide +kernel, by decide +kernel⟩
abbrev N_l_made : List Str := ["_law_ends"]
abbrev p_l_made : List Str := ["_law_ends"]
theorem sc_l_made : FnScope N_l_made p_l_made (defScope s_l_made) := ⟨rfl, rfl, rfl, by decide +kernel, rfl, by decide +kernel, by decide +kernel⟩
abbrev N_l_pair_of : List Str := ["_law_hand", "_law_form", "_law_one", "_law_two"]
abbrev p_l_pair_of : List Str := ["_law_hand"]
theorem sc_l_pair_of : FnScope N_l_pair_of p_l_pair_of (defScope s_l_pair_of) := ⟨rfl, rfl, rfl, by decide +kernel, rfl, by decide +kernel, by decide +kernel⟩
abbrev N_l_beside : List Str := ["_law_end", "_law_size"]
abbrev p_l_beside : List Str := ["_law_end", "_law_size"]
theorem sc_l_beside : FnScope N_l_beside p_l_beside (defScope s_l_beside) := ⟨rfl, rfl, rfl, by decide +kernel, rfl, by decide +kernel, by decide +kernel⟩
abbrev N_l_points : List Str := ["_law_hand", "_law_all_ends", "_law_ends", "_law_size", "_law_found", "_law_end", "_law_other"]
abbrev p_l_points : List Str := ["_law_hand", "_law_all_ends"]
theorem sc_l_points : FnScope N_l_points p_l_points (defScope s_l_points) := ⟨rfl, rfl, rfl, by decide +kernel, rfl, by decide +kernel, by decide +kernel⟩
abbrev N_l_truth : List Str := ["_law_found", "_law_due"]
abbrev p_l_truth : List Str := ["_law_found", "_law_due"]
theorem sc_l_truth : FnScope N_l_truth p_l_truth (defScope s_l_truth) := ⟨rfl, rfl, rfl, by decide +kernel, rfl, by decide +kernel, by decide +kernel⟩
abbrev N_l_both_right : List Str := ["_law_here", "_law_there", "_law_points_here", "_law_both", "_law_shared", "_law_point", "_law_held", "_law_turned"]
abbrev p_l_both_right : List Str := ["_law_here", "_law_there", "_law_points_here"]
theorem sc_l_both_right : FnScope N_l_both_right p_l_both_right (defScope s_l_both_right) := ⟨rfl, rfl, rfl, by decide +kernel, rfl, by decide +kernel, by decide +kernel⟩
abbrev N_l_thrice : List Str := ["_law_one", "_law_two", "_law_three", "_law_both"]
abbrev p_l_thrice : List Str := ["_law_one", "_law_two", "_law_three"]
theorem sc_l_thrice : FnScope N_l_thrice p_l_thrice (defScope s_l_thrice) := ⟨rfl, rfl, rfl, by decide +kernel, rfl, by decide +kernel, by decide +kernel⟩
abbrev N_law : List Str := ["_law_script", "_law_k", "_law_hand", "_law_one", "_law_two", "_law_three", "_law_points_here", "_law_made_here", "_law_here", "_law_there", "_law_found", "_law_point"]
abbrev p_law : List Str := ["_law_script"]
theorem sc_law : FnScope N_law p_law (defScope s_law) := ⟨rfl, rfl, rfl, by decide +kernel, rfl, by decide +kernel, by decide +kernel⟩
/-! ### what the top has written -/
structure Fds where
  is_whole : FuncData
  common_part : FuncData
  written : FuncData
  Measure_init : FuncData
  Measure_eq : FuncData
  Measure_str : FuncData
  Measure_repr : FuncData
  Measure_plus : FuncData
  Measure_minus : FuncData
  Measure_parted : FuncData
  Measure_is_below : FuncData
  is_measure_or_none : FuncData
  is_empty : FuncData
  end_text : FuncData
  cut_low : FuncData
  cut_high : FuncData
  some_measure : FuncData
  Stretch_init : FuncData
  Stretch_eq : FuncData
  Stretch_str : FuncData
  Stretch_repr : FuncData
  Stretch_holds : FuncData
  Stretch_meets : FuncData
  Stretch_shared : FuncData
  Stretch_cut : FuncData
  l_hand_of : FuncData
  l_take : FuncData
  l_end_of : FuncData
  l_below : FuncData
  l_same : FuncData
  l_measure : FuncData
  l_some : FuncData
  l_ends_of : FuncData
  l_made : FuncData
  l_pair_of : FuncData
  l_beside : FuncData
  l_points : FuncData
  l_truth : FuncData
  l_both_right : FuncData
  l_thrice : FuncData
  law : FuncData
structure Txt (K : PySem.W.Frag) (mg : Str → Option Value) (φ : Fds) : Prop where
  g_is_whole : mg "is_whole" = some (.ref (He.ga K "is_whole"))
  g_common_part : mg "common_part" = some (.ref (He.ga K "common_part"))
  g_written : mg "written" = some (.ref (He.ga K "written"))
  g_is_measure_or_none : mg "is_measure_or_none" = some (.ref (He.ga K "is_measure_or_none"))
  g_is_empty : mg "is_empty" = some (.ref (He.ga K "is_empty"))
  g_end_text : mg "end_text" = some (.ref (He.ga K "end_text"))
  g_cut_low : mg "cut_low" = some (.ref (He.ga K "cut_low"))
  g_cut_high : mg "cut_high" = some (.ref (He.ga K "cut_high"))
  g_some_measure : mg "some_measure" = some (.ref (He.ga K "some_measure"))
  g_l_hand_of : mg "_law_hand_of" = some (.ref (He.ga K "_law_hand_of"))
  g_l_take : mg "_law_take" = some (.ref (He.ga K "_law_take"))
  g_l_end_of : mg "_law_end_of" = some (.ref (He.ga K "_law_end_of"))
  g_l_below : mg "_law_below" = some (.ref (He.ga K "_law_below"))
  g_l_same : mg "_law_same" = some (.ref (He.ga K "_law_same"))
  g_l_measure : mg "_law_measure" = some (.ref (He.ga K "_law_measure"))
  g_l_some : mg "_law_some" = some (.ref (He.ga K "_law_some"))
  g_l_ends_of : mg "_law_ends_of" = some (.ref (He.ga K "_law_ends_of"))
  g_l_made : mg "_law_made" = some (.ref (He.ga K "_law_made"))
  g_l_pair_of : mg "_law_pair_of" = some (.ref (He.ga K "_law_pair_of"))
  g_l_beside : mg "_law_beside" = some (.ref (He.ga K "_law_beside"))
  g_l_points : mg "_law_points" = some (.ref (He.ga K "_law_points"))
  g_l_truth : mg "_law_truth" = some (.ref (He.ga K "_law_truth"))
  g_l_both_right : mg "_law_both_right" = some (.ref (He.ga K "_law_both_right"))
  g_l_thrice : mg "_law_thrice" = some (.ref (He.ga K "_law_thrice"))
  g_law : mg "law" = some (.ref (He.ga K "law"))
  g_Measure : mg "Measure" = some (.ref (He.ga K "Measure"))
  g_Stretch : mg "Stretch" = some (.ref (He.ga K "Stretch"))
  z_abs : mg "abs" = none
  z_bool : mg "bool" = none
  z_divmod : mg "divmod" = none
  z_int : mg "int" = none
  z_isinstance : mg "isinstance" = none
  z_len : mg "len" = none
  z_list : mg "list" = none
  z_min : mg "min" = none
  z_range : mg "range" = none
  z_repr : mg "repr" = none
  z_str : mg "str" = none
  cl_Measure : Cls K (He.ga K "Measure")
  na_Measure_top : NoAttr K (He.ga K "Measure") "top"
  na_Measure_bottom : NoAttr K (He.ga K "Measure") "bottom"
  me_Measure_eq : Meth K (He.ga K "Measure") "__eq__" (He.ma K (He.ga K "Measure") "__eq__")
  me_Measure_str : Meth K (He.ga K "Measure") "__str__" (He.ma K (He.ga K "Measure") "__str__")
  me_Measure_repr : Meth K (He.ga K "Measure") "__repr__" (He.ma K (He.ga K "Measure") "__repr__")
  me_Measure_plus : Meth K (He.ga K "Measure") "plus" (He.ma K (He.ga K "Measure") "plus")
  me_Measure_minus : Meth K (He.ga K "Measure") "minus" (He.ma K (He.ga K "Measure") "minus")
  me_Measure_parted : Meth K (He.ga K "Measure") "parted" (He.ma K (He.ga K "Measure") "parted")
  me_Measure_is_below : Meth K (He.ga K "Measure") "is_below" (He.ma K (He.ga K "Measure") "is_below")
  mk_Measure : Mk K (He.ga K "Measure") (He.ma K (He.ga K "Measure") "__init__")
  cl_Stretch : Cls K (He.ga K "Stretch")
  na_Stretch_low : NoAttr K (He.ga K "Stretch") "low"
  na_Stretch_high : NoAttr K (He.ga K "Stretch") "high"
  na_Stretch_low_in : NoAttr K (He.ga K "Stretch") "low_in"
  na_Stretch_high_in : NoAttr K (He.ga K "Stretch") "high_in"
  me_Stretch_eq : Meth K (He.ga K "Stretch") "__eq__" (He.ma K (He.ga K "Stretch") "__eq__")
  me_Stretch_str : Meth K (He.ga K "Stretch") "__str__" (He.ma K (He.ga K "Stretch") "__str__")
  me_Stretch_repr : Meth K (He.ga K "Stretch") "__repr__" (He.ma K (He.ga K "Stretch") "__repr__")
  me_Stretch_holds : Meth K (He.ga K "Stretch") "holds" (He.ma K (He.ga K "Stretch") "holds")
  me_Stretch_meets : Meth K (He.ga K "Stretch") "meets" (He.ma K (He.ga K "Stretch") "meets")
  me_Stretch_shared : Meth K (He.ga K "Stretch") "shared" (He.ma K (He.ga K "Stretch") "shared")
  me_Stretch_cut : Meth K (He.ga K "Stretch") "cut" (He.ma K (He.ga K "Stretch") "cut")
  mk_Stretch : Mk K (He.ga K "Stretch") (He.ma K (He.ga K "Stretch") "__init__")
  ii_Measure : IsC K (He.ga K "Measure")
  ii_Stretch : IsC K (He.ga K "Stretch")
  ec_Measure : EqC K (He.ga K "Measure")
  ec_Stretch : EqC K (He.ga K "Stretch")
  nf_Measure_Stretch : PySem.W.notFirst K (He.ga K "Measure") (.ref (He.ga K "Stretch")) = true
  nf_Stretch_Measure : PySem.W.notFirst K (He.ga K "Stretch") (.ref (He.ga K "Measure")) = true
  k_Measure_Measure : PySem.W.kitOne K (.ref (He.ga K "Measure")) (.ref (He.ga K "Measure")) = some true
  k_Stretch_Stretch : PySem.W.kitOne K (.ref (He.ga K "Stretch")) (.ref (He.ga K "Stretch")) = some true
  k_Measure_Stretch : PySem.W.kitOne K (.ref (He.ga K "Measure")) (.ref (He.ga K "Stretch")) = some false
  k_Stretch_Measure : PySem.W.kitOne K (.ref (He.ga K "Stretch")) (.ref (He.ga K "Measure")) = some false
  f_is_whole : FunD K "is_whole" "is_whole" (defArgs s_is_whole) (defBody s_is_whole) (defScope s_is_whole) [] [] (He.fAd K ("is_whole", none)) φ.is_whole
  f_common_part : FunD K "common_part" "common_part" (defArgs s_common_part) (defBody s_common_part) (defScope s_common_part) [] [] (He.fAd K ("common_part", none)) φ.common_part
  f_written : FunD K "written" "written" (defArgs s_written) (defBody s_written) (defScope s_written) [] [] (He.fAd K ("written", none)) φ.written
  f_Measure_init : FunD K "__init__" "Measure.__init__" (defArgs s_Measure_init) (defBody s_Measure_init) (defScope s_Measure_init) [V.int 1] [] (He.fAd K ("Measure", some "__init__")) φ.Measure_init
  f_Measure_eq : FunD K "__eq__" "Measure.__eq__" (defArgs s_Measure_eq) (defBody s_Measure_eq) (defScope s_Measure_eq) [] [] (He.fAd K ("Measure", some "__eq__")) φ.Measure_eq
  f_Measure_str : FunD K "__str__" "Measure.__str__" (defArgs s_Measure_str) (defBody s_Measure_str) (defScope s_Measure_str) [] [] (He.fAd K ("Measure", some "__str__")) φ.Measure_str
  f_Measure_repr : FunD K "__repr__" "Measure.__repr__" (defArgs s_Measure_repr) (defBody s_Measure_repr) (defScope s_Measure_repr) [] [] (He.fAd K ("Measure", some "__repr__")) φ.Measure_repr
  f_Measure_plus : FunD K "plus" "Measure.plus" (defArgs s_Measure_plus) (defBody s_Measure_plus) (defScope s_Measure_plus) [] [] (He.fAd K ("Measure", some "plus")) φ.Measure_plus
  f_Measure_minus : FunD K "minus" "Measure.minus" (defArgs s_Measure_minus) (defBody s_Measure_minus) (defScope s_Measure_minus) [] [] (He.fAd K ("Measure", some "minus")) φ.Measure_minus
  f_Measure_parted : FunD K "parted" "Measure.parted" (defArgs s_Measure_parted) (defBody s_Measure_parted) (defScope s_Measure_parted) [V.int 2] [] (He.fAd K ("Measure", some "parted")) φ.Measure_parted
  f_Measure_is_below : FunD K "is_below" "Measure.is_below" (defArgs s_Measure_is_below) (defBody s_Measure_is_below) (defScope s_Measure_is_below) [V.bl false] [] (He.fAd K ("Measure", some "is_below")) φ.Measure_is_below
  f_is_measure_or_none : FunD K "is_measure_or_none" "is_measure_or_none" (defArgs s_is_measure_or_none) (defBody s_is_measure_or_none) (defScope s_is_measure_or_none) [] [] (He.fAd K ("is_measure_or_none", none)) φ.is_measure_or_none
  f_is_empty : FunD K "is_empty" "is_empty" (defArgs s_is_empty) (defBody s_is_empty) (defScope s_is_empty) [] [] (He.fAd K ("is_empty", none)) φ.is_empty
  f_end_text : FunD K "end_text" "end_text" (defArgs s_end_text) (defBody s_end_text) (defScope s_end_text) [] [] (He.fAd K ("end_text", none)) φ.end_text
  f_cut_low : FunD K "cut_low" "cut_low" (defArgs s_cut_low) (defBody s_cut_low) (defScope s_cut_low) [] [] (He.fAd K ("cut_low", none)) φ.cut_low
  f_cut_high : FunD K "cut_high" "cut_high" (defArgs s_cut_high) (defBody s_cut_high) (defScope s_cut_high) [] [] (He.fAd K ("cut_high", none)) φ.cut_high
  f_some_measure : FunD K "some_measure" "some_measure" (defArgs s_some_measure) (defBody s_some_measure) (defScope s_some_measure) [] [] (He.fAd K ("some_measure", none)) φ.some_measure
  f_Stretch_init : FunD K "__init__" "Stretch.__init__" (defArgs s_Stretch_init) (defBody s_Stretch_init) (defScope s_Stretch_init) [V.bl false, V.bl true] [] (He.fAd K ("Stretch", some "__init__")) φ.Stretch_init
  f_Stretch_eq : FunD K "__eq__" "Stretch.__eq__" (defArgs s_Stretch_eq) (defBody s_Stretch_eq) (defScope s_Stretch_eq) [] [] (He.fAd K ("Stretch", some "__eq__")) φ.Stretch_eq
  f_Stretch_str : FunD K "__str__" "Stretch.__str__" (defArgs s_Stretch_str) (defBody s_Stretch_str) (defScope s_Stretch_str) [] [] (He.fAd K ("Stretch", some "__str__")) φ.Stretch_str
  f_Stretch_repr : FunD K "__repr__" "Stretch.__repr__" (defArgs s_Stretch_repr) (defBody s_Stretch_repr) (defScope s_Stretch_repr) [] [] (He.fAd K ("Stretch", some "__repr__")) φ.Stretch_repr
  f_Stretch_holds : FunD K "holds" "Stretch.holds" (defArgs s_Stretch_holds) (defBody s_Stretch_holds) (defScope s_Stretch_holds) [] [] (He.fAd K ("Stretch", some "holds")) φ.Stretch_holds
  f_Stretch_meets : FunD K "meets" "Stretch.meets" (defArgs s_Stretch_meets) (defBody s_Stretch_meets) (defScope s_Stretch_meets) [] [] (He.fAd K ("Stretch", some "meets")) φ.Stretch_meets
  f_Stretch_shared : FunD K "shared" "Stretch.shared" (defArgs s_Stretch_shared) (defBody s_Stretch_shared) (defScope s_Stretch_shared) [] [] (He.fAd K ("Stretch", some "shared")) φ.Stretch_shared
  f_Stretch_cut : FunD K "cut" "Stretch.cut" (defArgs s_Stretch_cut) (defBody s_Stretch_cut) (defScope s_Stretch_cut) [] [] (He.fAd K ("Stretch", some "cut")) φ.Stretch_cut
  f_l_hand_of : FunD K "_law_hand_of" "_law_hand_of" (defArgs s_l_hand_of) (defBody s_l_hand_of) (defScope s_l_hand_of) [] [] (He.fAd K ("_law_hand_of", none)) φ.l_hand_of
  f_l_take : FunD K "_law_take" "_law_take" (defArgs s_l_take) (defBody s_l_take) (defScope s_l_take) [] [] (He.fAd K ("_law_take", none)) φ.l_take
  f_l_end_of : FunD K "_law_end_of" "_law_end_of" (defArgs s_l_end_of) (defBody s_l_end_of) (defScope s_l_end_of) [] [] (He.fAd K ("_law_end_of", none)) φ.l_end_of
  f_l_below : FunD K "_law_below" "_law_below" (defArgs s_l_below) (defBody s_l_below) (defScope s_l_below) [] [] (He.fAd K ("_law_below", none)) φ.l_below
  f_l_same : FunD K "_law_same" "_law_same" (defArgs s_l_same) (defBody s_l_same) (defScope s_l_same) [] [] (He.fAd K ("_law_same", none)) φ.l_same
  f_l_measure : FunD K "_law_measure" "_law_measure" (defArgs s_l_measure) (defBody s_l_measure) (defScope s_l_measure) [] [] (He.fAd K ("_law_measure", none)) φ.l_measure
  f_l_some : FunD K "_law_some" "_law_some" (defArgs s_l_some) (defBody s_l_some) (defScope s_l_some) [] [] (He.fAd K ("_law_some", none)) φ.l_some
  f_l_ends_of : FunD K "_law_ends_of" "_law_ends_of" (defArgs s_l_ends_of) (defBody s_l_ends_of) (defScope s_l_ends_of) [] [] (He.fAd K ("_law_ends_of", none)) φ.l_ends_of
  f_l_made : FunD K "_law_made" "_law_made" (defArgs s_l_made) (defBody s_l_made) (defScope s_l_made) [] [] (He.fAd K ("_law_made", none)) φ.l_made
  f_l_pair_of : FunD K "_law_pair_of" "_law_pair_of" (defArgs s_l_pair_of) (defBody s_l_pair_of) (defScope s_l_pair_of) [] [] (He.fAd K ("_law_pair_of", none)) φ.l_pair_of
  f_l_beside : FunD K "_law_beside" "_law_beside" (defArgs s_l_beside) (defBody s_l_beside) (defScope s_l_beside) [] [] (He.fAd K ("_law_beside", none)) φ.l_beside
  f_l_points : FunD K "_law_points" "_law_points" (defArgs s_l_points) (defBody s_l_points) (defScope s_l_points) [] [] (He.fAd K ("_law_points", none)) φ.l_points
  f_l_truth : FunD K "_law_truth" "_law_truth" (defArgs s_l_truth) (defBody s_l_truth) (defScope s_l_truth) [] [] (He.fAd K ("_law_truth", none)) φ.l_truth
  f_l_both_right : FunD K "_law_both_right" "_law_both_right" (defArgs s_l_both_right) (defBody s_l_both_right) (defScope s_l_both_right) [] [] (He.fAd K ("_law_both_right", none)) φ.l_both_right
  f_l_thrice : FunD K "_law_thrice" "_law_thrice" (defArgs s_l_thrice) (defBody s_l_thrice) (defScope s_l_thrice) [] [] (He.fAd K ("_law_thrice", none)) φ.l_thrice
  f_law : FunD K "law" "law" (defArgs s_law) (defBody s_law) (defScope s_law) [] [] (He.fAd K ("law", none)) φ.law
def sp_belowW (C : Addr) : Sp := fun vs H Q _ => ∃ (p q : Addr) (t u t' u' : Int) (al : Bool), vs = [.ref p, .ref q, .bl al] ∧ MAt C H p t u ∧ MAt C H q t' u' ∧ Sz 20000 t ∧ Sz 20000 u ∧ Sz 20000 t' ∧ Sz 20000 u' ∧ Q (.bl (lessA t u t' u' al)) H
def sp_holdsW (CM CS : Addr) : Sp := fun vs H Q _ => ∃ (p q : Addr) (x : Q2) (lo hi : Option Q2) (li hj : Bool), vs = [.ref p, .ref q] ∧ StAt CM CS H p lo hi li hj ∧ MAt CM H q x.1 x.2 ∧ 0 < x.2 ∧ Sz 20000 x.1 ∧ Sz 20000 x.2 ∧ Q (.bl (loIn lo li x && hiIn hi hj x)) H

def sp_written : Sp := fun vs H Q _ => ∃ a u : Int, vs = [.int a, .int u] ∧ 0 ≤ a ∧ 0 < u ∧ Sz 1900 a ∧ Sz 1900 u ∧ ∀ H', Same H H' → Q (.str (wTxt a u)) H'
def sp_mstr (C : Addr) : Sp := fun vs H Q _ => ∃ (p : Addr) (t u : Int), vs = [.ref p] ∧ MAt C H p t u ∧ 0 < u ∧ Sz 1900 t ∧ Sz 1900 u ∧ ∀ H', Same H H' → Q (.str (mTxt t u)) H'
def sp_mrep (C : Addr) : Sp := fun vs H Q _ => ∃ (p : Addr) (t u : Int), vs = [.ref p] ∧ MAt C H p t u ∧ Sz 1900 t ∧ Sz 1900 u ∧ Q (.str (mRep t u)) H

def sp_endt (CM : Addr) : Sp := fun vs H Q _ => ∃ (v : V) (e : Option Q2), vs = [v] ∧ MsV CM H v e ∧ LowO e ∧ SzO 1900 e ∧ ∀ H', Same H H' → Q (.str (eT e)) H'
def sp_sstr (CM CS : Addr) : Sp := fun vs H Q _ => ∃ (p : Addr) (lo hi : Option Q2) (li hj : Bool), vs = [.ref p] ∧ StAt CM CS H p lo hi li hj ∧ SzO 1900 lo ∧ SzO 1900 hi ∧ ∀ H', Same H H' → Q (.str (sTxt lo hi li hj)) H'
def sp_srep (CM CS : Addr) : Sp := fun vs H Q _ => ∃ (p : Addr) (lo hi : Option Q2) (li hj : Bool), vs = [.ref p] ∧ StAt CM CS H p lo hi li hj ∧ SzO 1900 lo ∧ SzO 1900 hi ∧ Q (.str (sRep lo hi li hj)) H
theorem two {K : PySem.W.Frag} {mg : Str → Option Value} {φ : Fds} (T : Txt K mg φ) : Two K (He.ga K "Measure") (He.ga K "Stretch") := ⟨T.cl_Measure, T.ii_Measure, T.ec_Measure, T.cl_Stretch, T.ii_Stretch, T.ec_Stretch, T.nf_Measure_Stretch, T.nf_Stretch_Measure, T.k_Measure_Stretch, T.k_Stretch_Measure⟩

def sp_thrice (CM CS : Addr) : Sp := fun vs H Q _ => ∃ (P P' P'' : Addr) (m1 m2 n1 n2 r1 r2 : Option Q2) (i1 i2 j1 j2 k1 k2 : Bool), vs = [.ref P, .ref P', .ref P''] ∧ StAt CM CS H P m1 m2 i1 i2 ∧ StAt CM CS H P' n1 n2 j1 j2 ∧ StAt CM CS H P'' r1 r2 k1 k2 ∧ SzO 1900 m1 ∧ SzO 1900 m2 ∧ SzO 1900 n1 ∧ SzO 1900 n2 ∧ SzO 1900 r1 ∧ SzO 1900 r2 ∧
  ∀ (v : V) (H' : Hp) (lo hi : Option Q2 × Bool), Same H H' → CutV CM CS H' v lo hi → Alike lo (cutLo (cutLo m1 i1 n1 j1).1 (cutLo m1 i1 n1 j1).2 r1 k1) → Alike hi (cutHi (cutHi m2 i2 n2 j2).1 (cutHi m2 i2 n2 j2).2 r2 k2) → SzO 1900 lo.1 → SzO 1900 hi.1 → Q v H'
def sp_bothr (CM CS : Addr) : Sp := fun vs H Q _ => ∃ (P P' l : Addr) (ys : List V) (m1 m2 n1 n2 : Option Q2) (i1 i2 j1 j2 : Bool), vs = [.ref P, .ref P', .ref l] ∧ StAt CM CS H P m1 m2 i1 i2 ∧ StAt CM CS H P' n1 n2 j1 j2 ∧ SzO 1900 m1 ∧ SzO 1900 m2 ∧ SzO 1900 n1 ∧ SzO 1900 n2 ∧ H l = some (.lst ys) ∧ (∀ y ∈ ys, PtM CM H y) ∧ ∀ H', Same H H' → Q (.bl true) H'

theorem szE {H : Hp} {v : V} {e m : Option Q2} (h : EndV 140 H v e) (r : ReO m e) (l : LowO m) : SzO 1900 m := by
  cases m with
  | none => trivial
  | some a =>
    cases e with
    | none => exact r.elim
    | some b =>
      obtain ⟨p, _, _, _, s1, s2⟩ := h
      obtain ⟨h1, h2⟩ := re_low r l
      exact ⟨(s1.le h1).mono (by decide), (s2.le h2).mono (by decide)⟩

def sp_law (K : PySem.W.Frag) : Sp := fun vs H Q _ => ∃ (a : Addr) (ns : List Int), vs = [.ref a] ∧ SqL K H a (ns.map V.int) ∧ ns.length ≤ 63 ∧ ∀ H', Q (.bl true) H'

theorem b_is_whole_1 {K : PySem.W.Frag} {mg : Str → Option Value} {φ : Fds} (T : Txt K mg φ) : ∃ ds, Vals ([] : List V) ds ∧ Binds K φ.is_whole p_is_whole ds :=
  ⟨[], .nil, T.f_is_whole.bindsN fun _ _ _ _ _ _ us hl => match us, hl with | [_], _ => rfl⟩
theorem b_common_part_2 {K : PySem.W.Frag} {mg : Str → Option Value} {φ : Fds} (T : Txt K mg φ) : ∃ ds, Vals ([] : List V) ds ∧ Binds K φ.common_part p_common_part ds :=
  ⟨[], .nil, T.f_common_part.bindsN fun _ _ _ _ _ _ us hl => match us, hl with | [_, _], _ => rfl⟩
theorem b_Measure_eq_2 {K : PySem.W.Frag} {mg : Str → Option Value} {φ : Fds} (T : Txt K mg φ) : ∃ ds, Vals ([] : List V) ds ∧ Binds K φ.Measure_eq p_Measure_eq ds :=
  ⟨[], .nil, T.f_Measure_eq.bindsN fun _ _ _ _ _ _ us hl => match us, hl with | [_, _], _ => rfl⟩
theorem b_Measure_is_below_2 {K : PySem.W.Frag} {mg : Str → Option Value} {φ : Fds} (T : Txt K mg φ) : ∃ ds, Vals ([V.bl false] : List V) ds ∧ Binds K φ.Measure_is_below p_Measure_is_below ds :=
  T.f_Measure_is_below.binds1 2 0 (by simp) rfl fun _ _ _ _ _ _ _ us its h1 h2 => match us, its, h1, h2 with | [_, _], [_], _, _ => ⟨_, rfl, rfl⟩
theorem b_is_measure_or_none_1 {K : PySem.W.Frag} {mg : Str → Option Value} {φ : Fds} (T : Txt K mg φ) : ∃ ds, Vals ([] : List V) ds ∧ Binds K φ.is_measure_or_none p_is_measure_or_none ds :=
  ⟨[], .nil, T.f_is_measure_or_none.bindsN fun _ _ _ _ _ _ us hl => match us, hl with | [_], _ => rfl⟩
theorem b_is_empty_4 {K : PySem.W.Frag} {mg : Str → Option Value} {φ : Fds} (T : Txt K mg φ) : ∃ ds, Vals ([] : List V) ds ∧ Binds K φ.is_empty p_is_empty ds :=
  ⟨[], .nil, T.f_is_empty.bindsN fun _ _ _ _ _ _ us hl => match us, hl with | [_, _, _, _], _ => rfl⟩
theorem b_l_take_2 {K : PySem.W.Frag} {mg : Str → Option Value} {φ : Fds} (T : Txt K mg φ) : ∃ ds, Vals ([] : List V) ds ∧ Binds K φ.l_take p_l_take ds :=
  ⟨[], .nil, T.f_l_take.bindsN fun _ _ _ _ _ _ us hl => match us, hl with | [_, _], _ => rfl⟩
theorem b_Measure_init_3 {K : PySem.W.Frag} {mg : Str → Option Value} {φ : Fds} (T : Txt K mg φ) : ∃ ds, Vals ([] : List V) ds ∧ Binds K φ.Measure_init p_Measure_init ds :=
  T.f_Measure_init.binds1 3 1 (by simp) rfl fun _ _ _ _ _ _ _ us its h1 h2 => match us, its, h1, h2 with | [_, _, _], [_], _, _ => ⟨_, rfl, rfl⟩
theorem b_l_same_2 {K : PySem.W.Frag} {mg : Str → Option Value} {φ : Fds} (T : Txt K mg φ) : ∃ ds, Vals ([] : List V) ds ∧ Binds K φ.l_same p_l_same ds :=
  ⟨[], .nil, T.f_l_same.bindsN fun _ _ _ _ _ _ us hl => match us, hl with | [_, _], _ => rfl⟩
theorem b_l_below_2 {K : PySem.W.Frag} {mg : Str → Option Value} {φ : Fds} (T : Txt K mg φ) : ∃ ds, Vals ([] : List V) ds ∧ Binds K φ.l_below p_l_below ds :=
  ⟨[], .nil, T.f_l_below.bindsN fun _ _ _ _ _ _ us hl => match us, hl with | [_, _], _ => rfl⟩
theorem b_l_end_of_1 {K : PySem.W.Frag} {mg : Str → Option Value} {φ : Fds} (T : Txt K mg φ) : ∃ ds, Vals ([] : List V) ds ∧ Binds K φ.l_end_of p_l_end_of ds :=
  ⟨[], .nil, T.f_l_end_of.bindsN fun _ _ _ _ _ _ us hl => match us, hl with | [_], _ => rfl⟩
theorem b_l_some_4 {K : PySem.W.Frag} {mg : Str → Option Value} {φ : Fds} (T : Txt K mg φ) : ∃ ds, Vals ([] : List V) ds ∧ Binds K φ.l_some p_l_some ds :=
  ⟨[], .nil, T.f_l_some.bindsN fun _ _ _ _ _ _ us hl => match us, hl with | [_, _, _, _], _ => rfl⟩
theorem b_Stretch_init_5 {K : PySem.W.Frag} {mg : Str → Option Value} {φ : Fds} (T : Txt K mg φ) : ∃ ds, Vals ([] : List V) ds ∧ Binds K φ.Stretch_init p_Stretch_init ds :=
  T.f_Stretch_init.binds1 5 2 (by simp) rfl fun _ _ _ _ _ _ _ us its h1 h2 => match us, its, h1, h2 with | [_, _, _, _, _], [_, _], _, _ => ⟨_, rfl, rfl⟩
theorem b_l_measure_1 {K : PySem.W.Frag} {mg : Str → Option Value} {φ : Fds} (T : Txt K mg φ) : ∃ ds, Vals ([] : List V) ds ∧ Binds K φ.l_measure p_l_measure ds :=
  ⟨[], .nil, T.f_l_measure.bindsN fun _ _ _ _ _ _ us hl => match us, hl with | [_], _ => rfl⟩
theorem b_cut_low_2 {K : PySem.W.Frag} {mg : Str → Option Value} {φ : Fds} (T : Txt K mg φ) : ∃ ds, Vals ([] : List V) ds ∧ Binds K φ.cut_low p_cut_low ds :=
  ⟨[], .nil, T.f_cut_low.bindsN fun _ _ _ _ _ _ us hl => match us, hl with | [_, _], _ => rfl⟩
theorem b_cut_high_2 {K : PySem.W.Frag} {mg : Str → Option Value} {φ : Fds} (T : Txt K mg φ) : ∃ ds, Vals ([] : List V) ds ∧ Binds K φ.cut_high p_cut_high ds :=
  ⟨[], .nil, T.f_cut_high.bindsN fun _ _ _ _ _ _ us hl => match us, hl with | [_, _], _ => rfl⟩
theorem b_l_ends_of_1 {K : PySem.W.Frag} {mg : Str → Option Value} {φ : Fds} (T : Txt K mg φ) : ∃ ds, Vals ([] : List V) ds ∧ Binds K φ.l_ends_of p_l_ends_of ds :=
  ⟨[], .nil, T.f_l_ends_of.bindsN fun _ _ _ _ _ _ us hl => match us, hl with | [_], _ => rfl⟩
theorem b_Measure_init_2 {K : PySem.W.Frag} {mg : Str → Option Value} {φ : Fds} (T : Txt K mg φ) : ∃ ds, Vals ([V.int 1] : List V) ds ∧ Binds K φ.Measure_init p_Measure_init ds :=
  T.f_Measure_init.binds1 2 0 (by simp) rfl fun _ _ _ _ _ _ _ us its h1 h2 => match us, its, h1, h2 with | [_, _], [_], _, _ => ⟨_, rfl, rfl⟩
theorem b_Measure_minus_2 {K : PySem.W.Frag} {mg : Str → Option Value} {φ : Fds} (T : Txt K mg φ) : ∃ ds, Vals ([] : List V) ds ∧ Binds K φ.Measure_minus p_Measure_minus ds :=
  ⟨[], .nil, T.f_Measure_minus.bindsN fun _ _ _ _ _ _ us hl => match us, hl with | [_, _], _ => rfl⟩
theorem b_Measure_plus_2 {K : PySem.W.Frag} {mg : Str → Option Value} {φ : Fds} (T : Txt K mg φ) : ∃ ds, Vals ([] : List V) ds ∧ Binds K φ.Measure_plus p_Measure_plus ds :=
  ⟨[], .nil, T.f_Measure_plus.bindsN fun _ _ _ _ _ _ us hl => match us, hl with | [_, _], _ => rfl⟩
theorem b_Measure_parted_1 {K : PySem.W.Frag} {mg : Str → Option Value} {φ : Fds} (T : Txt K mg φ) : ∃ ds, Vals ([V.int 2] : List V) ds ∧ Binds K φ.Measure_parted p_Measure_parted ds :=
  T.f_Measure_parted.binds1 1 0 (by simp) rfl fun _ _ _ _ _ _ _ us its h1 h2 => match us, its, h1, h2 with | [_], [_], _, _ => ⟨_, rfl, rfl⟩
theorem b_Stretch_cut_2 {K : PySem.W.Frag} {mg : Str → Option Value} {φ : Fds} (T : Txt K mg φ) : ∃ ds, Vals ([] : List V) ds ∧ Binds K φ.Stretch_cut p_Stretch_cut ds :=
  ⟨[], .nil, T.f_Stretch_cut.bindsN fun _ _ _ _ _ _ us hl => match us, hl with | [_, _], _ => rfl⟩
theorem b_some_measure_1 {K : PySem.W.Frag} {mg : Str → Option Value} {φ : Fds} (T : Txt K mg φ) : ∃ ds, Vals ([] : List V) ds ∧ Binds K φ.some_measure p_some_measure ds :=
  ⟨[], .nil, T.f_some_measure.bindsN fun _ _ _ _ _ _ us hl => match us, hl with | [_], _ => rfl⟩
theorem b_l_beside_2 {K : PySem.W.Frag} {mg : Str → Option Value} {φ : Fds} (T : Txt K mg φ) : ∃ ds, Vals ([] : List V) ds ∧ Binds K φ.l_beside p_l_beside ds :=
  ⟨[], .nil, T.f_l_beside.bindsN fun _ _ _ _ _ _ us hl => match us, hl with | [_, _], _ => rfl⟩
theorem b_Measure_is_below_3 {K : PySem.W.Frag} {mg : Str → Option Value} {φ : Fds} (T : Txt K mg φ) : ∃ ds, Vals ([] : List V) ds ∧ Binds K φ.Measure_is_below p_Measure_is_below ds :=
  T.f_Measure_is_below.binds1 3 1 (by simp) rfl fun _ _ _ _ _ _ _ us its h1 h2 => match us, its, h1, h2 with | [_, _, _], [_], _, _ => ⟨_, rfl, rfl⟩
theorem b_written_2 {K : PySem.W.Frag} {mg : Str → Option Value} {φ : Fds} (T : Txt K mg φ) : ∃ ds, Vals ([] : List V) ds ∧ Binds K φ.written p_written ds :=
  ⟨[], .nil, T.f_written.bindsN fun _ _ _ _ _ _ us hl => match us, hl with | [_, _], _ => rfl⟩
theorem b_Measure_str_1 {K : PySem.W.Frag} {mg : Str → Option Value} {φ : Fds} (T : Txt K mg φ) : ∃ ds, Vals ([] : List V) ds ∧ Binds K φ.Measure_str p_Measure_str ds :=
  ⟨[], .nil, T.f_Measure_str.bindsN fun _ _ _ _ _ _ us hl => match us, hl with | [_], _ => rfl⟩
theorem b_end_text_1 {K : PySem.W.Frag} {mg : Str → Option Value} {φ : Fds} (T : Txt K mg φ) : ∃ ds, Vals ([] : List V) ds ∧ Binds K φ.end_text p_end_text ds :=
  ⟨[], .nil, T.f_end_text.bindsN fun _ _ _ _ _ _ us hl => match us, hl with | [_], _ => rfl⟩
theorem b_Measure_repr_1 {K : PySem.W.Frag} {mg : Str → Option Value} {φ : Fds} (T : Txt K mg φ) : ∃ ds, Vals ([] : List V) ds ∧ Binds K φ.Measure_repr p_Measure_repr ds :=
  ⟨[], .nil, T.f_Measure_repr.bindsN fun _ _ _ _ _ _ us hl => match us, hl with | [_], _ => rfl⟩
theorem b_Stretch_shared_2 {K : PySem.W.Frag} {mg : Str → Option Value} {φ : Fds} (T : Txt K mg φ) : ∃ ds, Vals ([] : List V) ds ∧ Binds K φ.Stretch_shared p_Stretch_shared ds :=
  ⟨[], .nil, T.f_Stretch_shared.bindsN fun _ _ _ _ _ _ us hl => match us, hl with | [_, _], _ => rfl⟩
theorem b_l_truth_2 {K : PySem.W.Frag} {mg : Str → Option Value} {φ : Fds} (T : Txt K mg φ) : ∃ ds, Vals ([] : List V) ds ∧ Binds K φ.l_truth p_l_truth ds :=
  ⟨[], .nil, T.f_l_truth.bindsN fun _ _ _ _ _ _ us hl => match us, hl with | [_, _], _ => rfl⟩
theorem b_Stretch_meets_2 {K : PySem.W.Frag} {mg : Str → Option Value} {φ : Fds} (T : Txt K mg φ) : ∃ ds, Vals ([] : List V) ds ∧ Binds K φ.Stretch_meets p_Stretch_meets ds :=
  ⟨[], .nil, T.f_Stretch_meets.bindsN fun _ _ _ _ _ _ us hl => match us, hl with | [_, _], _ => rfl⟩
theorem b_Stretch_holds_2 {K : PySem.W.Frag} {mg : Str → Option Value} {φ : Fds} (T : Txt K mg φ) : ∃ ds, Vals ([] : List V) ds ∧ Binds K φ.Stretch_holds p_Stretch_holds ds :=
  ⟨[], .nil, T.f_Stretch_holds.bindsN fun _ _ _ _ _ _ us hl => match us, hl with | [_, _], _ => rfl⟩
theorem b_Stretch_str_1 {K : PySem.W.Frag} {mg : Str → Option Value} {φ : Fds} (T : Txt K mg φ) : ∃ ds, Vals ([] : List V) ds ∧ Binds K φ.Stretch_str p_Stretch_str ds :=
  ⟨[], .nil, T.f_Stretch_str.bindsN fun _ _ _ _ _ _ us hl => match us, hl with | [_], _ => rfl⟩
theorem b_Stretch_eq_2 {K : PySem.W.Frag} {mg : Str → Option Value} {φ : Fds} (T : Txt K mg φ) : ∃ ds, Vals ([] : List V) ds ∧ Binds K φ.Stretch_eq p_Stretch_eq ds :=
  ⟨[], .nil, T.f_Stretch_eq.bindsN fun _ _ _ _ _ _ us hl => match us, hl with | [_, _], _ => rfl⟩
theorem b_l_hand_of_2 {K : PySem.W.Frag} {mg : Str → Option Value} {φ : Fds} (T : Txt K mg φ) : ∃ ds, Vals ([] : List V) ds ∧ Binds K φ.l_hand_of p_l_hand_of ds :=
  ⟨[], .nil, T.f_l_hand_of.bindsN fun _ _ _ _ _ _ us hl => match us, hl with | [_, _], _ => rfl⟩
theorem b_l_pair_of_1 {K : PySem.W.Frag} {mg : Str → Option Value} {φ : Fds} (T : Txt K mg φ) : ∃ ds, Vals ([] : List V) ds ∧ Binds K φ.l_pair_of p_l_pair_of ds :=
  ⟨[], .nil, T.f_l_pair_of.bindsN fun _ _ _ _ _ _ us hl => match us, hl with | [_], _ => rfl⟩
theorem b_l_points_2 {K : PySem.W.Frag} {mg : Str → Option Value} {φ : Fds} (T : Txt K mg φ) : ∃ ds, Vals ([] : List V) ds ∧ Binds K φ.l_points p_l_points ds :=
  ⟨[], .nil, T.f_l_points.bindsN fun _ _ _ _ _ _ us hl => match us, hl with | [_, _], _ => rfl⟩
theorem b_l_made_1 {K : PySem.W.Frag} {mg : Str → Option Value} {φ : Fds} (T : Txt K mg φ) : ∃ ds, Vals ([] : List V) ds ∧ Binds K φ.l_made p_l_made ds :=
  ⟨[], .nil, T.f_l_made.bindsN fun _ _ _ _ _ _ us hl => match us, hl with | [_], _ => rfl⟩
theorem b_l_both_right_3 {K : PySem.W.Frag} {mg : Str → Option Value} {φ : Fds} (T : Txt K mg φ) : ∃ ds, Vals ([] : List V) ds ∧ Binds K φ.l_both_right p_l_both_right ds :=
  ⟨[], .nil, T.f_l_both_right.bindsN fun _ _ _ _ _ _ us hl => match us, hl with | [_, _, _], _ => rfl⟩
theorem b_l_thrice_3 {K : PySem.W.Frag} {mg : Str → Option Value} {φ : Fds} (T : Txt K mg φ) : ∃ ds, Vals ([] : List V) ds ∧ Binds K φ.l_thrice p_l_thrice ds :=
  ⟨[], .nil, T.f_l_thrice.bindsN fun _ _ _ _ _ _ us hl => match us, hl with | [_, _, _], _ => rfl⟩
theorem b_Stretch_repr_1 {K : PySem.W.Frag} {mg : Str → Option Value} {φ : Fds} (T : Txt K mg φ) : ∃ ds, Vals ([] : List V) ds ∧ Binds K φ.Stretch_repr p_Stretch_repr ds :=
  ⟨[], .nil, T.f_Stretch_repr.bindsN fun _ _ _ _ _ _ us hl => match us, hl with | [_], _ => rfl⟩
theorem ok_l_take {P : Program} {w : World} {K : PySem.W.Frag} {mg : Str → Option Value} {base : Heap} {φ : Fds} (T : Txt K mg φ) : FnOk P w K mg base CX0 1 (He.fAd K ("_law_take", none)) φ.l_take p_l_take sp_take := by
  refine T.f_l_take.ok sc_l_take (fun vs H Q E h => ?_) (fun cdv A outer s H vs Q E hr h => ?_)
  · obtain ⟨hd, n, m, rfl, hh, hn, hm, hl, k⟩ := h; rfl
  · obtain ⟨hd, n, m, rfl, hh, hn, hm, hl, k⟩ := h
    refine ⟨_, PSs.nox (pss_cons (ps_if (pt_cmpR op_gt (pe_ix (ixl (K := K)) (pv 0) pe_int (fun _ _ => rfl)) pe_int (nomark _))
      (pss_cons (ps_set (i := 2) sc_l_take.nd rfl (Or.inl rfl) (pe_op op_mod (pe_ix (ixl (K := K)) (pv 0) pe_int (fun _ _ => rfl)) (pv 1)))
      (pss_cons (ps_asg (pe_op op_fd (pe_ix (ixl (K := K)) (pv 0) pe_int (fun _ _ => rfl)) (pv 1)) (pg_sub (pv 0) pe_int set_list))
      (pss_one (ps_ret (pv 2)))))
      pss_nil)
      (pss_cons (ps_asg (pe_op op_add (pe_ix (ixl (K := K)) (pv 0) pe_int (fun _ _ => rfl)) pe_int) (pg_sub (pv 0) pe_int set_list))
      (pss_cons (ps_set (i := 3) sc_l_take.nd rfl (Or.inl rfl) (pe_op op_mod (pe_op op_pow (pe_op op_add (pe_op op_add (pe_ix (ixl (K := K)) (pv 0) pe_int (fun _ _ => rfl)) (pe_op op_mulA (pe_op op_mulA pe_int (pe_ix (ixl (K := K)) (pv 0) pe_int (fun _ _ => rfl))) (pe_ix (ixl (K := K)) (pv 0) pe_int (fun _ _ => rfl)))) pe_int) pe_int) pe_int))
      (pss_cons (ps_set (i := 3) sc_l_take.nd rfl (Or.inl rfl) (pe_op op_mod (pe_op op_mulA (pv 3) (pe_op op_add (pe_op op_mod (pv 3) pe_int) (pe_op op_mulA pe_int (pe_ix (ixl (K := K)) (pv 0) pe_int (fun _ _ => rfl))))) pe_int))
      (pss_one (ps_ret (pe_op op_mod (pe_op op_add (pe_op op_fd (pv 3) pe_int) (pe_op op_fd (pv 3) pe_int)) (pv 1)))))))), ?_⟩
    obtain ⟨a, b, c, h0, ha, hb, hb2, hc, hc2⟩ := hh
    refine ⟨_, rfl, _, _, _, _, rfl, rfl, SqL.of h0, rfl, _, _, rfl, rfl, _, rfl, ?_⟩
    refine ite2 (fun e => ?_) (fun e => ?_)
    · have e0 : 0 < a := of_decide_eq_true e
      refine ⟨_, rfl, _, _, _, _, rfl, rfl, SqL.of h0, rfl, _, rfl, _, _, rfl, rfl, hm, ?_⟩
      refine ⟨_, rfl, _, _, _, _, rfl, rfl, SqL.of h0, rfl, _, rfl, _, _, rfl, rfl, ⟨by omega, hl⟩, _, rfl, _, _, _, _, rfl, rfl, h0, rfl, ?_⟩
      refine ⟨_, rfl, k _ _ (Int.emod_nonneg _ (by omega)) (Int.emod_lt_of_pos _ hm) ⟨a.fdiv m, b, c, upd_same, ?_, hb, hb2, hc, by omega⟩ (Kp.refl _ _).set⟩
      rw [Int.fdiv_eq_ediv_of_nonneg a (by omega)]
      exact Int.ediv_nonneg ha (by omega)
    · have c9 : c ≤ 1000000 := by omega
      refine ⟨_, rfl, _, _, _, _, rfl, rfl, SqL.of h0, rfl, _, _, rfl, rfl, _, rfl, _, _, _, _, rfl, rfl, h0, rfl, ?_⟩
      have h1 : (upd H hd (.lst ([V.int a, V.int b, V.int c].set 2 (V.int (c + 1))))) hd = some (.lst [V.int a, V.int b, V.int (c + 1)]) := upd_same
      have hcc : 0 ≤ 65537 * (c + 1) * (c + 1) := Int.mul_nonneg (Int.mul_nonneg (by omega) (by omega)) (by omega)
      have hcd : 65537 * (c + 1) * (c + 1) ≤ 65537 * 1000001 * 1000001 := Int.mul_le_mul (Int.mul_le_mul_of_nonneg_left (by omega) (by omega)) (by omega) (by omega) (by omega)
      refine ⟨_, rfl, _, _, _, _, rfl, rfl, SqL.of h1, rfl, _, rfl, _, _, _, _, rfl, rfl, SqL.of h1, rfl, _, _, rfl, rfl, .inl (.inl ⟨by decide, by decide⟩), _, rfl, _, _, _, _, rfl, rfl, SqL.of h1, rfl, _, _, rfl, rfl, .inl (.inr ⟨by omega, by omega⟩), _, _, rfl, rfl, _, _, rfl, rfl, _, _, rfl, rfl, ⟨by decide, by decide, by omega⟩, _, _, rfl, rfl, (by show (0 : Int) < 2305843009213693921; decide), ?_⟩
      refine ⟨_, rfl, _, rfl, _, _, rfl, rfl, (by show (0 : Int) < 1000003; decide), _, rfl, _, _, _, _, rfl, rfl, SqL.of h1, rfl, _, _, rfl, rfl, .inl (.inl ⟨by decide, by decide⟩), _, _, rfl, rfl, _, _, rfl, rfl, .inl (.inr ?_), _, _, rfl, rfl, (by show (0 : Int) < 2305843009213693907; decide), ?_⟩
      · generalize (b + 65537 * (c + 1) * (c + 1) + 11) ^ Int.toNat 3 % 2305843009213693921 = z
        constructor <;> omega
      · generalize (b + 65537 * (c + 1) * (c + 1) + 11) ^ Int.toNat 3 % 2305843009213693921 = z
        generalize z * (z % 1000003 + 99991 * (c + 1)) % 2305843009213693907 = y
        refine ⟨_, rfl, _, _, rfl, rfl, ⟨by decide, by decide +kernel⟩, _, rfl, _, _, rfl, rfl, ⟨by decide, by decide +kernel⟩, _, _, rfl, rfl, _, rfl, _, _, rfl, rfl, hm, ?_⟩
        exact k _ _ (Int.emod_nonneg _ (by omega)) (Int.emod_lt_of_pos _ hm) ⟨a, b, c + 1, upd_same, ha, hb, hb2, by omega, by omega⟩ (Kp.refl _ _).set
theorem ok_l_hand_of {P : Program} {w : World} {K : PySem.W.Frag} {mg : Str → Option Value} {base : Heap} {φ : Fds} (T : Txt K mg φ) : FnOk P w K mg base CX0 1 (He.fAd K ("_law_hand_of", none)) φ.l_hand_of p_l_hand_of (sp_hand K) := by
  refine T.f_l_hand_of.ok sc_l_hand_of (fun vs H Q E h => ?_) (fun cdv A outer s H vs Q E hr h => ?_)
  · obtain ⟨a, ns, kk, rfl, hS, hk, k⟩ := h; rfl
  · obtain ⟨a, ns, kk, rfl, hS, hk, k⟩ := h
    refine ⟨_, PSs.nox (pss_cons (ps_set (i := 2) sc_l_hand_of.nd rfl (Or.inl rfl) pe_int)
      (pss_cons (ps_cut (ps_if (pt_cmpR op_lt (pv 1) (pe_callB (id := "len") (lenS (K := K)) (by rfl) T.z_len PySem.boot_len (pa_cons (pv 0) pa_nil)) (nomark _))
      (pss_one (ps_set (i := 2) sc_l_hand_of.nd rfl (Or.inl rfl) (pe_ix (ixl (K := K)) (pv 0) (pv 1) (fun _ _ => rfl))))
      pss_nil))
      (pss_cons (ps_set (i := 3) sc_l_hand_of.nd rfl (Or.inl rfl) (pe_op op_mod (pe_op op_add (pe_op op_add (pe_op op_mod (pv 2) pe_int) (pe_op op_mulA pe_int (pv 1))) pe_int) pe_int))
      (pss_one (ps_ret (pe_lst (pa_cons (pe_op op_mulA (pv 2) (pe_callTy (T := "int") call_int1 (by rfl) T.z_int (by decide +kernel) (pa_cons (pe_cmpR op_ge (pv 2) (pe_op op_pow pe_int pe_int) (nomark _)) pa_nil))) (pa_cons (pv 3) (pa_cons pe_int pa_nil))))))))), ?_⟩
    refine ⟨fun σ' H' => H' = H ∧ ∃ z : Int, σ' = [some (.ref a), some (.int kk), some (.int z), none], ?_, ?_⟩
    · refine ⟨_, rfl, _, rfl, a, _, rfl, .inl hS, _, _, rfl, rfl, _, rfl, ?_⟩
      refine ite2 (fun e => ?_) (fun e => ?_)
      · have e0 : (kk : Int) < ((ns.map V.int).length : Int) := of_decide_eq_true e
        rw [List.length_map] at e0
        have e1 : kk < ns.length := by omega
        refine ⟨_, rfl, _, rfl, a, _, _, V.int ns[kk], rfl, rfl, hS, atI_nat ?_, rfl, _, rfl⟩
        rw [List.getElem?_map, List.getElem?_eq_getElem e1]
        rfl
      · exact ⟨rfl, 0, rfl⟩
    · rintro σ' H' ⟨rfl, z, rfl⟩
      refine ⟨_, rfl, _, _, rfl, rfl, (by show (0 : Int) < 2305843009213693951; decide), _, rfl, _, _, rfl, rfl, .inl (.inl ⟨by decide, by decide⟩), _, _, rfl, rfl, _, _, rfl, rfl, _, _, rfl, rfl, (by show (0 : Int) < 2305843009213693951; decide), ?_⟩
      refine ⟨_, rfl, _, rfl, _, _, rfl, rfl, ⟨by decide, by decide, by decide⟩, _, _, rfl, rfl, .inr ⟨_, rfl, _, _, rfl, rfl, .inl (.inr ?_), _, rfl, by show 3 ≤ sizeLine; decide, fun p hp => ?_⟩⟩
      · cases decide ((10 : Int) ^ Int.toNat 18 ≤ z) <;> exact ⟨by decide, by decide⟩
      · refine k p _ hp (same1 hp) ⟨_, _, _, upd_same, ?_, Int.emod_nonneg _ (by decide), Int.lt_trans (Int.emod_lt_of_pos _ (by decide)) (by decide), by decide, by decide⟩
        by_cases e : (10 : Int) ^ Int.toNat 18 ≤ z
        · rw [decide_eq_true e]
          have e2 : (10 : Int) ^ Int.toNat 18 = 1000000000000000000 := by decide
          rw [e2] at e
          show 0 ≤ z * 1
          omega
        · rw [decide_eq_false e]
          show 0 ≤ z * 0
          omega
theorem ok_is_whole {P : Program} {w : World} {K : PySem.W.Frag} {mg : Str → Option Value} {base : Heap} {φ : Fds} (T : Txt K mg φ) : FnOk P w K mg base CX0 1 (He.fAd K ("is_whole", none)) φ.is_whole p_is_whole sp_whole := by
  refine T.f_is_whole.ok sc_is_whole (fun vs H Q E h => ?_) (fun cdv A outer s H vs Q E hr h => ?_)
  · obtain ⟨n, rfl, k⟩ := h; rfl
  · obtain ⟨n, rfl, k⟩ := h
    refine ⟨_, PSs.nox (pss_one (ps_ret (pe_and (pe_callB (id := "isinstance") (isi (K := K)) (by rfl) T.z_isinstance (by decide +kernel) (pa_cons (pv 0) (pa_cons (pe_bltn (v := .ty "int") rfl T.z_int (by decide +kernel) rfl) pa_nil))) (pe_one (pe_not (pe_callB (id := "isinstance") (isi (K := K)) (by rfl) T.z_isinstance (by decide +kernel) (pa_cons (pv 0) (pa_cons (pe_bltn (v := .ty "bool") rfl T.z_bool (by decide +kernel) rfl) pa_nil)))))))), ?_⟩
    refine ⟨_, rfl, _, _, _, _, _, rfl, .ty _, .base (.int _), kit_ty (r := true) (by decide +kernel), _, rfl, ?_⟩
    refine iteT ?_
    refine ⟨_, rfl, _, _, _, _, _, rfl, .ty _, .base (.int _), kit_ty (r := false) (by decide +kernel), _, rfl, ?_⟩
    exact k
theorem ok_common_part {P : Program} {w : World} {K : PySem.W.Frag} {mg : Str → Option Value} {base : Heap} {φ : Fds} (T : Txt K mg φ) : FnOk P w K mg base CX0 1 (He.fAd K ("common_part", none)) φ.common_part p_common_part sp_common := by
  refine T.f_common_part.ok sc_common_part (fun vs H Q E h => ?_) (fun cdv A outer s H vs Q E hr h => ?_)
  · obtain ⟨a, b, rfl, k⟩ := h; rfl
  · obtain ⟨a, b, rfl, k⟩ := h
    refine ⟨_, PSs.nox (pss_cons (ps_par (i := 2) (j := 3) rfl sc_common_part.nd rfl rfl (by decide) rfl rfl (pa_cons (pe_callB (id := "abs") call_abs (by rfl) T.z_abs (by decide +kernel) (pa_cons (pv 0) pa_nil)) (pa_cons (pe_callB (id := "abs") call_abs (by rfl) T.z_abs (by decide +kernel) (pa_cons (pv 1) pa_nil)) pa_nil)) (by rfl))
      (pss_cons (ps_while PassesOwn.never (pt_cmpR op_gt (pv 3) pe_int (nomark _))
      (pss_one (ps_par (i := 2) (j := 3) rfl sc_common_part.nd rfl rfl (by decide) rfl rfl (pa_cons (pv 3) (pa_cons (pe_op op_mod (pv 2) (pv 3)) pa_nil)) (by rfl))))
      (pss_one (ps_ret (pv 2))))), ?_⟩
    refine ⟨_, rfl, _, rfl, _, rfl, _, rfl, _, _, rfl, ?_⟩
    refine while_by (fun σ H' => H' = H ∧ ∃ g s : Int, σ = [some (.int a), some (.int b), some (.int g), some (.int s)] ∧ 0 ≤ g ∧ 0 ≤ s ∧ Int.gcd g s = Int.gcd a b)
      (fun σ _ => match σ with | [_, _, _, some (.int s)] => s.toNat | _ => 0) ⟨rfl, _, _, rfl, ?_, ?_, ?_⟩ ?_ (fun σ H Q Q' hQ ⟨v, e1, i, j, e2, e3, c, e4, q⟩ => ⟨v, e1, i, j, e2, e3, c, e4, hQ _ _ q⟩)
    · split <;> omega
    · split <;> omega
    · have e1 : (if a < 0 then -a else a) = (a.natAbs : Int) := by split <;> omega
      have e2 : (if b < 0 then -b else b) = (b.natAbs : Int) := by split <;> omega
      rw [e1, e2]
      rfl
    · rintro σ H' ⟨rfl, g, s, rfl, hg, hs, e⟩
      refine ⟨_, rfl, _, _, rfl, rfl, _, rfl, ?_⟩
      refine ite2 (fun c => ?_) (fun c => ?_)
      · have c0 : 0 < s := of_decide_eq_true c
        refine ⟨_, rfl, _, rfl, _, rfl, _, _, rfl, rfl, c0, _, _, rfl, ?_⟩
        refine ⟨⟨rfl, s, g % s, rfl, hs, Int.emod_nonneg _ (by omega), (gcd_step c0 hg).trans e⟩, ?_⟩
        show (g % s).toNat < s.toNat
        have h1 := Int.emod_nonneg g (show s ≠ 0 by omega)
        have h2 := Int.emod_lt_of_pos g c0
        omega
      · have c0 : ¬ 0 < s := fun z => c (decide_eq_true z)
        have s0 : s = 0 := by omega
        subst s0
        refine ⟨_, rfl, ?_⟩
        have eg : g = (Int.gcd a b : Int) := by
          rw [← e, Int.gcd_zero_right]
          omega
        rw [eg]
        exact k
theorem ok_Measure_init {P : Program} {w : World} {K : PySem.W.Frag} {mg : Str → Option Value} {base : Heap} {φ : Fds} (T : Txt K mg φ) : FnOk P w K mg base CX0 2 (He.fAd K ("Measure", some "__init__")) φ.Measure_init p_Measure_init (sp_minit (He.ga K "Measure")) := by
  obtain ⟨_, B0v, B0⟩ := b_is_whole_1 T
  obtain ⟨_, B1v, B1⟩ := b_common_part_2 T
  refine T.f_Measure_init.ok sc_Measure_init (fun vs H Q E h => ?_) (fun cdv A outer s H vs Q E hr h => ?_)
  · obtain ⟨p, dx, a, b, rfl, hp, hb, hl, k⟩ := h; rfl
  · obtain ⟨p, dx, a, b, rfl, hp, hb, hl, k⟩ := h
    refine ⟨_, PSs.nox (pss_cons (ps_if (PW.pt (pw_or (pt_not (pt_val (pe_call (ok_is_whole T) (hr.mono (by decide)) rfl T.g_is_whole T.f_is_whole.kp B0 B0v pass0 (pa_cons (pv 1) pa_nil)))) (pw_or1 (pt_not (pt_val (pe_call (ok_is_whole T) (hr.mono (by decide)) rfl T.g_is_whole T.f_is_whole.kp B0 B0v pass0 (pa_cons (pv 2) pa_nil)))))))
      (pss_one ps_never)
      pss_nil)
      (pss_cons (ps_if (pt_cmpR op_eq (pv 2) pe_int (nomark _))
      (pss_one ps_never)
      pss_nil)
      (pss_cons (ps_set (i := 3) sc_Measure_init.nd rfl (Or.inl rfl) (pe_call (ok_common_part T) (hr.mono (by decide)) rfl T.g_common_part T.f_common_part.kp B1 B1v pass0 (pa_cons (pv 1) (pa_cons (pv 2) pa_nil))))
      (pss_cons (ps_cut (ps_if (pt_cmpR op_lt (pv 2) pe_int (nomark _))
      (pss_one (ps_set (i := 3) sc_Measure_init.nd rfl (Or.inl rfl) (pe_un un_neg (pv 3))))
      pss_nil))
      (pss_cons (ps_fld (pv 0) (pe_op op_fd (pv 1) (pv 3)) rfl)
      (pss_one (ps_fld (pv 0) (pe_op op_fd (pv 2) (pv 3)) rfl))))))), ?_⟩
    refine ⟨_, rfl, a, rfl, _, rfl, ?_⟩
    refine iteF ?_
    refine ⟨_, rfl, b, rfl, _, rfl, ?_⟩
    refine iteF ?_
    refine ⟨_, rfl, rfl, _, rfl, ?_⟩
    rw [dI]
    refine ite2 (fun e => absurd (of_decide_eq_true e) hb) (fun _ => ?_)
    refine ⟨_, rfl, _, rfl, a, b, rfl, ?_⟩
    refine ⟨fun σ' H' => H' = H ∧ ∃ c : Int, c = sgn b * (Int.gcd a b : Int) ∧ σ' = [some (.ref p), some (.int a), some (.int b), some (.int c)], ?_, ?_⟩
    · refine ⟨_, rfl, _, _, rfl, rfl, _, rfl, ?_⟩
      refine ite2 (fun e => ?_) (fun e => ?_)
      · have e0 : b < 0 := of_decide_eq_true e
        refine ⟨_, rfl, _, rfl, rfl, _, ?_, rfl⟩
        unfold sgn
        rw [if_neg (by omega), Int.neg_one_mul]
      · have e0 : ¬ b < 0 := fun z => e (decide_eq_true z)
        refine ⟨rfl, _, ?_, rfl⟩
        unfold sgn
        rw [if_pos (by omega), Int.one_mul]
    · rintro σ' H' ⟨rfl, c, hc, rfl⟩
      obtain ⟨c0, cl, fr⟩ := fr_mk hb hc
      have c9 : c.natAbs.log2 < 9000 := by
        refine Nat.lt_of_le_of_lt ?_ hl
        exact (Nat.le_log2 (by omega)).mpr (Nat.le_trans (Nat.log2_self_le (by omega)) cl)
      refine ⟨_, rfl, _, rfl, _, _, rfl, rfl, ⟨c0, c9⟩, _, rfl, p, _, dx, _, rfl, hp, T.cl_Measure, T.na_Measure_top, (by show 0 < 1000; decide), ?_⟩
      refine ⟨_, rfl, _, rfl, _, _, rfl, rfl, ⟨c0, c9⟩, _, rfl, p, _, dx, _, rfl, upd_same, T.cl_Measure, T.na_Measure_bottom, (by show 1 < 1000; decide), ?_⟩
      refine k _ _ _ fr ?_ fun q o e nq => ?_
      · rw [upd_same, mf_put]
      · rw [upd_ne nq, upd_ne nq]
        exact e
theorem ok_Measure_is_below {P : Program} {w : World} {K : PySem.W.Frag} {mg : Str → Option Value} {base : Heap} {φ : Fds} (T : Txt K mg φ) : FnOk P w K mg base CX0 1 (He.fAd K ("Measure", some "is_below")) φ.Measure_is_below p_Measure_is_below (sp_belowW (He.ga K "Measure")) := by
  refine T.f_Measure_is_below.ok sc_Measure_is_below (fun vs H Q E h => ?_) (fun cdv A outer s H vs Q E hr h => ?_)
  · obtain ⟨p, q, t, u, t', u', al, rfl, ⟨dp, hp⟩, ⟨dq, hq⟩, st, su, st', su', k⟩ := h; rfl
  · obtain ⟨p, q, t, u, t', u', al, rfl, ⟨dp, hp⟩, ⟨dq, hq⟩, st, su, st', su', k⟩ := h
    refine ⟨_, PSs.nox (pss_cons (ps_set (i := 3) sc_Measure_is_below.nd rfl (Or.inl rfl) (pe_op op_mulA (fldK (K := K) (pv 0) rfl) (fldK (K := K) (pv 1) rfl)))
      (pss_cons (ps_set (i := 4) sc_Measure_is_below.nd rfl (Or.inl rfl) (pe_op op_mulA (fldK (K := K) (pv 1) rfl) (fldK (K := K) (pv 0) rfl)))
      (pss_one (ps_ret (pe_or (pe_cmpR op_lt (pv 3) (pv 4) (nomark _)) (pe_one (pe_and (pv 2) (pe_one (pe_cmpR op_eq (pv 3) (pv 4) (nomark _)))))))))), ?_⟩
    refine ⟨_, rfl, _, _, _, _, _, rfl, hp, T.cl_Measure, T.na_Measure_top, mf_top _ _, _, rfl, _, _, _, _, _, rfl, hq, T.cl_Measure, T.na_Measure_bottom, mf_bottom _ _, _, _, rfl, rfl, st.cmul su' (by decide) (by decide) (by decide), ?_⟩
    refine ⟨_, rfl, _, _, _, _, _, rfl, hq, T.cl_Measure, T.na_Measure_top, mf_top _ _, _, rfl, _, _, _, _, _, rfl, hp, T.cl_Measure, T.na_Measure_bottom, mf_bottom _ _, _, _, rfl, rfl, st'.cmul su (by decide) (by decide) (by decide), ?_⟩
    refine ⟨_, rfl, _, rfl, _, _, rfl, rfl, _, rfl, ?_⟩
    have e : ∀ b : Bool, b = lessA t u t' u' al → Q (.bl b) H := fun b z => by rw [z]; exact k
    refine ite2 (fun c => e _ ?_) (fun c => ?_)
    · unfold lessA
      rw [c]
      rfl
    · have c0 : decide (t * u' < t' * u) = false := by simpa using c
      refine ⟨_, rfl, _, rfl, ?_⟩
      cases al with
      | false =>
        refine iteF (e _ ?_)
        unfold lessA
        rw [c0]
        rfl
      | true =>
        refine iteT ?_
        refine ⟨_, rfl, _, rfl, rfl, e _ ?_⟩
        unfold lessA
        rw [c0, dI]
        rfl
theorem ok_Measure_eq {P : Program} {w : World} {K : PySem.W.Frag} {mg : Str → Option Value} {base : Heap} {φ : Fds} (T : Txt K mg φ) : FnOk P w K mg base CX0 1 (He.fAd K ("Measure", some "__eq__")) φ.Measure_eq p_Measure_eq (sp_meq (He.ga K "Measure")) := by
  refine T.f_Measure_eq.ok sc_Measure_eq (fun vs H Q E h => ?_) (fun cdv A outer s H vs Q E hr h => ?_)
  · obtain ⟨p, q, a, b, rfl, ⟨dp, hp⟩, ⟨dq, hq⟩, k⟩ := h; rfl
  · obtain ⟨p, q, a, b, rfl, ⟨dp, hp⟩, ⟨dq, hq⟩, k⟩ := h
    refine ⟨_, PSs.nox (pss_one (ps_ret (pe_and (pe_callB (id := "isinstance") (isi (K := K)) (by rfl) T.z_isinstance (by decide +kernel) (pa_cons (pv 1) (pa_cons (pe_glob (v := .ref (He.ga K "Measure")) rfl T.g_Measure rfl) pa_nil))) (pe_and (pe_cmpR op_eq (fldK (K := K) (pv 0) rfl) (fldK (K := K) (pv 1) rfl) (nomark _)) (pe_one (pe_cmpR op_eq (fldK (K := K) (pv 0) rfl) (fldK (K := K) (pv 1) rfl) (nomark _))))))), ?_⟩
    refine ⟨_, rfl, _, _, _, _, true, rfl, .own _, tyM hq T.cl_Measure T.ii_Measure, T.k_Measure_Measure, _, rfl, iteT ?_⟩
    refine ⟨_, rfl, _, _, _, _, _, rfl, hp, T.cl_Measure, T.na_Measure_top, mf_top _ _, _, rfl, _, _, _, _, _, rfl, hq, T.cl_Measure, T.na_Measure_top, mf_top _ _, rfl, _, rfl, ?_⟩
    rw [dI]
    refine ite2 (fun e => ?_) (fun e => ?_)
    · rw [e] at k
      refine ⟨_, rfl, _, _, _, _, _, rfl, hp, T.cl_Measure, T.na_Measure_bottom, mf_bottom _ _, _, rfl, _, _, _, _, _, rfl, hq, T.cl_Measure, T.na_Measure_bottom, mf_bottom _ _, rfl, ?_⟩
      rw [dI]
      exact k
    · rw [isTrueN e] at k
      exact k
theorem ok_is_measure_or_none {P : Program} {w : World} {K : PySem.W.Frag} {mg : Str → Option Value} {base : Heap} {φ : Fds} (T : Txt K mg φ) : FnOk P w K mg base CX0 1 (He.fAd K ("is_measure_or_none", none)) φ.is_measure_or_none p_is_measure_or_none (sp_isend (He.ga K "Measure")) := by
  refine T.f_is_measure_or_none.ok sc_is_measure_or_none (fun vs H Q E h => ?_) (fun cdv A outer s H vs Q E hr h => ?_)
  · obtain ⟨v, m, rfl, hv, k⟩ := h; rfl
  · obtain ⟨v, m, rfl, hv, k⟩ := h
    refine ⟨_, PSs.nox (pss_one (ps_ret (pe_or (pe_cmpR op_isN (pv 0) pe_non (nomark _)) (pe_one (pe_callB (id := "isinstance") (isi (K := K)) (by rfl) T.z_isinstance (by decide +kernel) (pa_cons (pv 0) (pa_cons (pe_glob (v := .ref (He.ga K "Measure")) rfl T.g_Measure rfl) pa_nil))))))), ?_⟩
    refine ⟨_, rfl, rfl, _, rfl, ?_⟩
    cases m with
    | none => cases hv; exact iteT k
    | some a =>
      obtain ⟨p, rfl, dx, hp⟩ := hv
      refine iteF ?_
      exact ⟨_, rfl, _, _, _, _, true, rfl, .own _, tyM hp T.cl_Measure T.ii_Measure, T.k_Measure_Measure, k⟩
theorem ok_is_empty {P : Program} {w : World} {K : PySem.W.Frag} {mg : Str → Option Value} {base : Heap} {φ : Fds} (T : Txt K mg φ) : FnOk P w K mg base CX0 2 (He.fAd K ("is_empty", none)) φ.is_empty p_is_empty (sp_empty (He.ga K "Measure")) := by
  obtain ⟨_, B0v, B0⟩ := b_Measure_eq_2 T
  obtain ⟨_, B1v, B1⟩ := b_Measure_is_below_2 T
  refine T.f_is_empty.ok sc_is_empty (fun vs H Q E h => ?_) (fun cdv A outer s H vs Q E hr h => ?_)
  · obtain ⟨l, h, lo, hi, li, hj, rfl, ml, mh, l1, l2, k⟩ := h; rfl
  · obtain ⟨l, h, lo, hi, li, hj, rfl, ml, mh, l1, l2, k⟩ := h
    refine ⟨_, PSs.nox (pss_cons (ps_if (PW.pt (pw_or (pt_cmpR op_isN (pv 0) pe_non (nomark _)) (pw_or1 (pt_cmpR op_isN (pv 1) pe_non (nomark _)))))
      (pss_one (ps_ret pe_bl))
      pss_nil)
      (pss_cons (ps_if (pt_cmpR (op_eqI (ok_Measure_eq T) (hr.mono (by decide)) T.me_Measure_eq B0 B0v pass0) (pv 0) (pv 1) (nomark _))
      (pss_one (ps_ret (pe_not (pe_cut (pe_and (pv 2) (pe_one (pv 3)))))))
      pss_nil)
      (pss_one (ps_ret (pe_meth (pv 1) T.cl_Measure T.me_Measure_is_below (ok_Measure_is_below T) (hr.mono (by decide)) B1 B1v pass0 (pa_cons (pv 0) pa_nil)))))), ?_⟩
    refine ⟨_, rfl, rfl, _, rfl, ?_⟩
    cases lo with
    | none =>
      cases ml
      exact iteT (iteT k)
    | some a =>
      have ml0 := ml
      obtain ⟨p, rfl, dp, hp⟩ := ml
      refine iteF ?_
      refine ⟨_, rfl, rfl, _, rfl, ?_⟩
      cases hi with
      | none =>
        cases mh
        exact iteT k
      | some b =>
        obtain ⟨q, rfl, dq, hq⟩ := mh
        refine iteF ?_
        have k : Q (.bl (!(ltq a b || (eqq a b && li && hj)))) H := k
        refine ⟨_, rfl, _, rfl, p, q, _, _, _, _, rfl, rfl, hp, hq, p, q, a, b, rfl, ⟨_, hp⟩, ⟨_, hq⟩, _, rfl, ?_⟩
        rw [low_eqq l1 l2]
        refine ite2 (fun e => ?_) (fun e => ?_)
        · refine ⟨fun v H' => H = H' ∧ v = .bl (li && hj), ?_, ?_⟩
          · refine ⟨_, rfl, _, rfl, ?_⟩
            cases li with
            | true => exact iteT ⟨_, rfl, rfl, rfl⟩
            | false => exact iteF ⟨rfl, rfl⟩
          rintro v H' ⟨rfl, rfl⟩
          refine ⟨_, rfl, ?_⟩
          rcases lt_tri a b with ⟨h1, h2, h3⟩ | ⟨h1, h2, h3⟩ | ⟨h1, h2, h3⟩
          · rw [h2] at e; cases e
          · rw [h1, h2] at k
            exact k
          · rw [h2] at e; cases e
        · refine ⟨_, rfl, q, _, _, rfl, hq, mf_no _ _ (by decide +kernel) (by decide +kernel), _, rfl, q, p, b.1, b.2, a.1, a.2, false, rfl, ⟨_, hq⟩, ⟨_, hp⟩, l2.s1.mono (by decide), l2.s2.mono (by decide), l1.s1.mono (by decide), l1.s2.mono (by decide), ?_⟩
          have e3 : lessA b.1 b.2 a.1 a.2 false = ltq b a := by unfold lessA ltq; simp
          rw [e3]
          rcases lt_tri a b with ⟨h1, h2, h3⟩ | ⟨h1, h2, h3⟩ | ⟨h1, h2, h3⟩
          · rw [h3]; rw [h1] at k; exact k
          · exact absurd h2 e
          · rw [h3]; rw [h1, h2] at k; exact k
theorem ok_Stretch_init {P : Program} {w : World} {K : PySem.W.Frag} {mg : Str → Option Value} {base : Heap} {φ : Fds} (T : Txt K mg φ) : FnOk P w K mg base CX0 3 (He.fAd K ("Stretch", some "__init__")) φ.Stretch_init p_Stretch_init (sp_sinit (He.ga K "Measure") (He.ga K "Stretch")) := by
  obtain ⟨_, B0v, B0⟩ := b_is_measure_or_none_1 T
  obtain ⟨_, B1v, B1⟩ := b_is_empty_4 T
  refine T.f_Stretch_init.ok sc_Stretch_init (fun vs H Q E h => ?_) (fun cdv A outer s H vs Q E hr h => ?_)
  · obtain ⟨p, dx, l, h, lo, hi, li, hj, rfl, hp, ml, mh, l1, l2, so, k⟩ := h; rfl
  · obtain ⟨p, dx, l, h, lo, hi, li, hj, rfl, hp, ml, mh, l1, l2, so, k⟩ := h
    refine ⟨_, PSs.nox (pss_cons (ps_if (PW.pt (pw_or (pt_not (pt_val (pe_call (ok_is_measure_or_none T) (hr.mono (by decide)) rfl T.g_is_measure_or_none T.f_is_measure_or_none.kp B0 B0v pass0 (pa_cons (pv 1) pa_nil)))) (pw_or1 (pt_not (pt_val (pe_call (ok_is_measure_or_none T) (hr.mono (by decide)) rfl T.g_is_measure_or_none T.f_is_measure_or_none.kp B0 B0v pass0 (pa_cons (pv 2) pa_nil)))))))
      (pss_one ps_never)
      pss_nil)
      (pss_cons (ps_if (PW.pt (pw_or (pt_not (pt_val (pe_callB (id := "isinstance") (isi (K := K)) (by rfl) T.z_isinstance (by decide +kernel) (pa_cons (pv 3) (pa_cons (pe_bltn (v := .ty "bool") rfl T.z_bool (by decide +kernel) rfl) pa_nil))))) (pw_or1 (pt_not (pt_val (pe_callB (id := "isinstance") (isi (K := K)) (by rfl) T.z_isinstance (by decide +kernel) (pa_cons (pv 4) (pa_cons (pe_bltn (v := .ty "bool") rfl T.z_bool (by decide +kernel) rfl) pa_nil))))))))
      (pss_one ps_never)
      pss_nil)
      (pss_cons (ps_if (pt_val (pe_call (ok_is_empty T) (hr.mono (by decide)) rfl T.g_is_empty T.f_is_empty.kp B1 B1v pass0 (pa_cons (pv 1) (pa_cons (pv 2) (pa_cons (pv 3) (pa_cons (pv 4) pa_nil))))))
      (pss_one ps_never)
      pss_nil)
      (pss_cons (ps_fld (pv 0) (pv 1) rfl)
      (pss_cons (ps_fld (pv 0) (pv 2) rfl)
      (pss_cons (ps_fld (pv 0) (pe_cut (pe_and (pv 3) (pe_one (pe_cmpR op_notN (pv 1) pe_non (nomark _))))) rfl)
      (pss_one (ps_fld (pv 0) (pe_cut (pe_and (pv 4) (pe_one (pe_cmpR op_notN (pv 2) pe_non (nomark _))))) rfl)))))))), ?_⟩
    refine ⟨_, rfl, l, lo, rfl, ml, _, rfl, iteF ?_⟩
    refine ⟨_, rfl, h, hi, rfl, mh, _, rfl, iteF ?_⟩
    refine ⟨_, rfl, _, _, _, _, true, rfl, .ty _, .base (.bl _), kit_ty (r := true) (by decide +kernel), _, rfl, iteF ?_⟩
    refine ⟨_, rfl, _, _, _, _, true, rfl, .ty _, .base (.bl _), kit_ty (r := true) (by decide +kernel), _, rfl, iteF ?_⟩
    refine ⟨_, rfl, _, rfl, _, rfl, _, rfl, l, h, lo, hi, li, hj, rfl, ml, mh, l1, l2, _, rfl, ?_⟩
    rw [so]
    refine iteF ?_
    refine ⟨_, rfl, _, rfl, p, _, dx, _, rfl, hp, T.cl_Stretch, T.na_Stretch_low, (by show 0 < 1000; decide), ?_⟩
    refine ⟨_, rfl, _, rfl, p, _, dx, _, rfl, upd_same, T.cl_Stretch, T.na_Stretch_high, (by show 1 < 1000; decide), ?_⟩
    have nl : decide (l = V.non) = !lo.isSome := by
      cases lo with
      | none => cases ml; rfl
      | some a => obtain ⟨q, rfl, _⟩ := ml; rfl
    have nh : decide (h = V.non) = !hi.isSome := by
      cases hi with
      | none => cases mh; rfl
      | some a => obtain ⟨q, rfl, _⟩ := mh; rfl
    generalize hJ : upd (upd H p _) p _ = HJ
    refine ⟨fun v H' => HJ = H' ∧ v = .bl (li && lo.isSome), ?_, ?_⟩
    · refine ⟨_, rfl, _, rfl, ?_⟩
      cases li with
      | true =>
        refine iteT ⟨_, rfl, rfl, rfl, ?_⟩
        rw [nl]; simp
      | false => exact iteF ⟨rfl, rfl⟩
    rintro v H' ⟨rfl, rfl⟩
    refine ⟨_, rfl, p, _, dx, _, rfl, (by rw [← hJ]; exact upd_same), T.cl_Stretch, T.na_Stretch_low_in, ?_, ?_⟩
    · exact Nat.lt_of_le_of_lt (length_putF _ _ _) (by show 1 + 1 < 1000; decide)
    generalize hG : upd HJ p _ = HG
    refine ⟨fun v H' => HG = H' ∧ v = .bl (hj && hi.isSome), ?_, ?_⟩
    · refine ⟨_, rfl, _, rfl, ?_⟩
      cases hj with
      | true =>
        refine iteT ⟨_, rfl, rfl, rfl, ?_⟩
        rw [nh]; simp
      | false => exact iteF ⟨rfl, rfl⟩
    rintro v H' ⟨rfl, rfl⟩
    refine ⟨_, rfl, p, _, dx, _, rfl, (by rw [← hG]; exact upd_same), T.cl_Stretch, T.na_Stretch_high_in, ?_, ?_⟩
    · exact Nat.lt_of_le_of_lt (length_putF _ _ _) (Nat.lt_of_le_of_lt (Nat.succ_le_succ (length_putF _ _ _)) (by show 1 + 1 + 1 < 1000; decide))
    refine k _ ?_ fun q o e nq => ?_
    · rw [upd_same, sf_put]
    · rw [upd_ne nq, ← hG, upd_ne nq, ← hJ, upd_ne nq, upd_ne nq]
      exact e
theorem ok_l_end_of {P : Program} {w : World} {K : PySem.W.Frag} {mg : Str → Option Value} {base : Heap} {φ : Fds} (T : Txt K mg φ) : FnOk P w K mg base CX0 2 (He.fAd K ("_law_end_of", none)) φ.l_end_of p_l_end_of sp_end := by
  obtain ⟨_, B0v, B0⟩ := b_l_take_2 T
  refine T.f_l_end_of.ok sc_l_end_of (fun vs H Q E h => ?_) (fun cdv A outer s H vs Q E hr h => ?_)
  · obtain ⟨h, n, rfl, hh, hn, k⟩ := h; rfl
  · obtain ⟨h, n, rfl, hh, hn, k⟩ := h
    refine ⟨_, PSs.nox (pss_cons (ps_set (i := 1) sc_l_end_of.nd rfl (Or.inl rfl) (pe_ix (ixl (K := K)) (pe_lst (pa_cons pe_int (pa_cons pe_int (pa_cons pe_int (pa_cons pe_int (pa_cons pe_int (pa_cons pe_int (pa_cons pe_int (pa_cons (pe_op op_add (pe_op op_pow pe_int pe_int) pe_int) pa_nil))))))))) (pe_call (ok_l_take T) (hr.mono (by decide)) rfl T.g_l_take T.f_l_take.kp B0 B0v pass0 (pa_cons (pv 0) (pa_cons pe_int pa_nil))) (fun _ _ => rfl)))
      (pss_one (ps_ret (pe_tup (pa_cons (pe_op op_add (pe_op op_sub (pe_call (ok_l_take T) (hr.mono (by decide)) rfl T.g_l_take T.f_l_take.kp B0 B0v pass0 (pa_cons (pv 0) (pa_cons (pe_op op_mulA pe_int (pe_callB (id := "min") (call_min2 rfl) (by rfl) T.z_min (by decide +kernel) (pa_cons (pv 1) (pa_cons pe_int pa_nil)))) pa_nil))) pe_int) (pe_op op_mulA (pv 1) (pe_ix (ixl (K := K)) (pe_lst (pa_cons pe_int (pa_cons pe_int (pa_cons pe_int (pa_cons (pe_op op_pow pe_int pe_int) pa_nil))))) (pe_call (ok_l_take T) (hr.mono (by decide)) rfl T.g_l_take T.f_l_take.kp B0 B0v pass0 (pa_cons (pv 0) (pa_cons pe_int pa_nil))) (fun _ _ => rfl)))) (pa_cons (pv 1) pa_nil)))))), ?_⟩
    refine ⟨_, _, rfl, rfl, ⟨by decide, by decide, by decide⟩, _, _, rfl, rfl, by show 8 ≤ sizeLine; decide, fun p np => ?_⟩
    refine ⟨_, rfl, h, n, _, rfl, hh.up np, by omega, by decide, by decide +kernel, fun d H1 d0 d1 hh1 k1 => ?_⟩
    have hv : ∃ v : Int, 0 < v ∧ v < 2000000000 ∧ atI [V.int 1, V.int 1, V.int 2, V.int 3, V.int 6, V.int 7, V.int 12, V.int ((10 : Int) ^ Int.toNat 9 + 7)] d = some (V.int v) := by
      obtain rfl | rfl | rfl | rfl | rfl | rfl | rfl | rfl : d = 0 ∨ d = 1 ∨ d = 2 ∨ d = 3 ∨ d = 4 ∨ d = 5 ∨ d = 6 ∨ d = 7 := by omega
      all_goals exact ⟨_, by decide, by decide, rfl⟩
    obtain ⟨y, y0, y1, hat⟩ := hv
    refine ⟨p, _, _, _, rfl, rfl, SqL.of (k1 _ _ upd_same (hh.ne np)), hat, ?_⟩
    refine ⟨_, rfl, _, rfl, _, _, rfl, _, _, rfl, rfl, .inl (.inl ⟨by decide, by decide⟩), h, n + 1, _, rfl, hh1, by omega, ?_, ?_, fun e H2 e0 e1 hh2 k2 => ?_⟩
    · split <;> omega
    · have : (9 * if (12 : Int) < y then 12 else y).natAbs < 2 ^ 10 := by split <;> omega
      exact Sz.log this (by decide) (by decide)
    refine ⟨_, _, rfl, rfl, _, rfl, _, _, rfl, rfl, ⟨by decide, by decide, by decide⟩, by show 4 ≤ sizeLine; decide, fun p2 np2 => ?_⟩
    refine ⟨_, rfl, h, n + 2, _, rfl, hh2.up np2, by omega, by decide, by decide +kernel, fun z H3 z0 z1 hh3 k3 => ?_⟩
    have hw : ∃ w : Int, 0 ≤ w ∧ w.natAbs < 2 ^ 100 ∧ atI [V.int 0, V.int 0, V.int 0, V.int ((10 : Int) ^ Int.toNat 30)] z = some (V.int w) := by
      obtain rfl | rfl | rfl | rfl : z = 0 ∨ z = 1 ∨ z = 2 ∨ z = 3 := by omega
      all_goals exact ⟨_, by decide, by decide, rfl⟩
    obtain ⟨w, w0, w1, hat2⟩ := hw
    have sy : Sz 31 y := by show y.natAbs < 2 ^ 31; omega
    have sw : Sz 100 w := w1
    refine ⟨p2, _, _, _, rfl, rfl, SqL.of (k3 _ _ upd_same (hh2.ne np2)), hat2, _, _, rfl, rfl, sy.cmul sw (by decide) (by decide) (by decide), _, _, rfl, rfl, _, rfl, by show 2 ≤ sizeLine; decide, fun r nr => ?_⟩
    refine k r (e - 3 + y * w, y) _ ⟨r, rfl, upd_same, y0, ?_, sy.mono (by decide)⟩ ((hh3.up nr).mono (by omega)) (((((Kp.refl _ _).up np).trans (k1.trans k2)).up np2).trans k3 |>.up nr)
    have s1 : Sz 131 (y * w) := sy.mul sw
    have s2 : Sz 131 (e - 3) := by
      have : (e - 3).natAbs < 2 ^ 10 := by split at e1 <;> omega
      exact Sz.mono this (by decide)
    exact (s2.add s1).mono (by decide)
theorem ok_l_below {P : Program} {w : World} {K : PySem.W.Frag} {mg : Str → Option Value} {base : Heap} {φ : Fds} (T : Txt K mg φ) : FnOk P w K mg base CX0 1 (He.fAd K ("_law_below", none)) φ.l_below p_l_below (sp_cmp2 ltq) := by
  refine T.f_l_below.ok sc_l_below (fun vs H Q E h => ?_) (fun cdv A outer s H vs Q E hr h => ?_)
  · obtain ⟨va, vb, a, b, rfl, ⟨p, rfl, hp, hy, s1, s2⟩, ⟨q, rfl, hq, hy', s3, s4⟩, k⟩ := h; rfl
  · obtain ⟨va, vb, a, b, rfl, ⟨p, rfl, hp, hy, s1, s2⟩, ⟨q, rfl, hq, hy', s3, s4⟩, k⟩ := h
    refine ⟨_, PSs.nox (pss_one (ps_ret (pe_cmpR op_lt (pe_op op_mulA (pe_ix (ixt (K := K)) (pv 0) pe_int (fun _ _ => rfl)) (pe_ix (ixt (K := K)) (pv 1) pe_int (fun _ _ => rfl))) (pe_op op_mulA (pe_ix (ixt (K := K)) (pv 1) pe_int (fun _ _ => rfl)) (pe_ix (ixt (K := K)) (pv 0) pe_int (fun _ _ => rfl))) (nomark _)))), ?_⟩
    refine ⟨_, rfl, _, _, _, _, rfl, rfl, SqT.of hp, rfl, _, rfl, _, _, _, _, rfl, rfl, SqT.of hq, rfl, _, _, rfl, rfl, s1.cmul s4 (by decide) (by decide) (by decide), _, rfl, _, _, _, _, rfl, rfl, SqT.of hq, rfl, _, rfl, _, _, _, _, rfl, rfl, SqT.of hp, rfl, _, _, rfl, rfl, s3.cmul s2 (by decide) (by decide) (by decide), _, _, rfl, rfl, ?_⟩
    exact k
theorem ok_l_same {P : Program} {w : World} {K : PySem.W.Frag} {mg : Str → Option Value} {base : Heap} {φ : Fds} (T : Txt K mg φ) : FnOk P w K mg base CX0 1 (He.fAd K ("_law_same", none)) φ.l_same p_l_same (sp_cmp2 eqq) := by
  refine T.f_l_same.ok sc_l_same (fun vs H Q E h => ?_) (fun cdv A outer s H vs Q E hr h => ?_)
  · obtain ⟨va, vb, a, b, rfl, ⟨p, rfl, hp, hy, s1, s2⟩, ⟨q, rfl, hq, hy', s3, s4⟩, k⟩ := h; rfl
  · obtain ⟨va, vb, a, b, rfl, ⟨p, rfl, hp, hy, s1, s2⟩, ⟨q, rfl, hq, hy', s3, s4⟩, k⟩ := h
    refine ⟨_, PSs.nox (pss_one (ps_ret (pe_cmpR op_eq (pe_op op_mulA (pe_ix (ixt (K := K)) (pv 0) pe_int (fun _ _ => rfl)) (pe_ix (ixt (K := K)) (pv 1) pe_int (fun _ _ => rfl))) (pe_op op_mulA (pe_ix (ixt (K := K)) (pv 1) pe_int (fun _ _ => rfl)) (pe_ix (ixt (K := K)) (pv 0) pe_int (fun _ _ => rfl))) (nomark _)))), ?_⟩
    refine ⟨_, rfl, _, _, _, _, rfl, rfl, SqT.of hp, rfl, _, rfl, _, _, _, _, rfl, rfl, SqT.of hq, rfl, _, _, rfl, rfl, s1.cmul s4 (by decide) (by decide) (by decide), _, rfl, _, _, _, _, rfl, rfl, SqT.of hq, rfl, _, rfl, _, _, _, _, rfl, rfl, SqT.of hp, rfl, _, _, rfl, rfl, s3.cmul s2 (by decide) (by decide) (by decide), rfl, ?_⟩
    rw [dI]
    exact k
theorem ok_l_measure {P : Program} {w : World} {K : PySem.W.Frag} {mg : Str → Option Value} {base : Heap} {φ : Fds} (T : Txt K mg φ) : FnOk P w K mg base CX0 4 (He.fAd K ("_law_measure", none)) φ.l_measure p_l_measure (sp_lmeasure (He.ga K "Measure")) := by
  obtain ⟨_, B0v, B0⟩ := b_Measure_init_3 T
  refine T.f_l_measure.ok sc_l_measure (fun vs H Q E h => ?_) (fun cdv A outer s H vs Q E hr h => ?_)
  · obtain ⟨v, e, rfl, he, k⟩ := h; rfl
  · obtain ⟨v, e, rfl, he, k⟩ := h
    refine ⟨_, PSs.nox (pss_one (ps_ret (pe_ifExp (pt_cmpR op_isN (pv 0) pe_non (nomark _)) pe_non (pe_make T.mk_Measure (ok_Measure_init T) (hr.mono (by decide)) rfl T.g_Measure B0 B0v pass0 (pa_cons (pe_ix (ixt (K := K)) (pv 0) pe_int (fun _ _ => rfl)) (pa_cons (pe_ix (ixt (K := K)) (pv 0) pe_int (fun _ _ => rfl)) pa_nil)))))), ?_⟩
    refine ⟨_, rfl, rfl, _, rfl, ?_⟩
    cases e with
    | none =>
      cases he
      refine iteT ?_
      exact k _ none _ (Same.refl _) rfl trivial trivial
    | some a =>
      obtain ⟨p, rfl, hp, hy, s1, s2⟩ := he
      refine iteF ?_
      refine ⟨_, rfl, _, _, _, _, rfl, rfl, SqT.of hp, rfl, _, rfl, _, _, _, _, rfl, rfl, SqT.of hp, rfl, ?_⟩
      intro x dx nx nd ne
      refine ⟨x, dx, _, _, rfl, upd_same, by omega, s2.log (by decide) (by decide), fun t u H' fr hx kp => ⟨rfl, ?_⟩⟩
      exact k _ (some (t, u)) H' (made_same nx nd kp) ⟨x, rfl, dx, hx⟩ (fr.re hy) ⟨fr.pos, fr.co, (s1.le fr.lt).mono (by decide), (s2.le fr.lu).mono (by decide)⟩
theorem ok_l_some {P : Program} {w : World} {K : PySem.W.Frag} {mg : Str → Option Value} {base : Heap} {φ : Fds} (T : Txt K mg φ) : FnOk P w K mg base CX0 2 (He.fAd K ("_law_some", none)) φ.l_some p_l_some sp_some := by
  obtain ⟨_, B0v, B0⟩ := b_l_same_2 T
  obtain ⟨_, B1v, B1⟩ := b_l_below_2 T
  refine T.f_l_some.ok sc_l_some (fun vs H Q E h => ?_) (fun cdv A outer s H vs Q E hr h => ?_)
  · obtain ⟨va, vb, ea, eb, ia, ib, rfl, ha, hb, k⟩ := h; rfl
  · obtain ⟨va, vb, ea, eb, ia, ib, rfl, ha, hb, k⟩ := h
    refine ⟨_, PSs.nox (pss_cons (ps_if (PW.pt (pw_or (pt_cmpR op_isN (pv 0) pe_non (nomark _)) (pw_or1 (pt_cmpR op_isN (pv 1) pe_non (nomark _)))))
      (pss_one (ps_ret pe_bl))
      pss_nil)
      (pss_one (ps_ret (pe_or (pe_call (ok_l_below T) (hr.mono (by decide)) rfl T.g_l_below T.f_l_below.kp B1 B1v pass0 (pa_cons (pv 0) (pa_cons (pv 1) pa_nil))) (pe_one (pe_and (pe_call (ok_l_same T) (hr.mono (by decide)) rfl T.g_l_same T.f_l_same.kp B0 B0v pass0 (pa_cons (pv 0) (pa_cons (pv 1) pa_nil))) (pe_and (pv 2) (pe_one (pv 3))))))))), ?_⟩
    refine ⟨_, rfl, rfl, _, rfl, ?_⟩
    cases ea with
    | none =>
      cases ha
      refine iteT ?_
      refine iteT ?_
      exact k
    | some a =>
      have ha0 := ha
      obtain ⟨p, rfl, hp, _⟩ := ha
      refine iteF ?_
      refine ⟨_, rfl, rfl, _, rfl, ?_⟩
      cases eb with
      | none =>
        cases hb
        refine iteT ?_
        exact k
      | some b =>
        have hb0 := hb
        obtain ⟨q, rfl, hq, _⟩ := hb
        refine iteF ?_
        refine ⟨_, rfl, _, rfl, _, _, a, b, rfl, ha0, hb0, _, rfl, ?_⟩
        have k : Q (.bl (ltq a b || (eqq a b && ia && ib))) H := k
        refine ite2 (fun c => ?_) (fun c => ?_)
        · rw [c] at k
          exact k
        · rw [isTrueN c] at k
          refine ⟨_, rfl, _, rfl, _, _, a, b, rfl, ha0, hb0, _, rfl, ?_⟩
          refine ite2 (fun d => ?_) (fun d => ?_)
          · rw [d] at k
            refine ⟨_, rfl, _, rfl, ?_⟩
            cases ia with
            | true => exact iteT ⟨_, rfl, k⟩
            | false => exact iteF k
          · rw [isTrueN d] at k
            exact k
theorem ok_l_ends_of {P : Program} {w : World} {K : PySem.W.Frag} {mg : Str → Option Value} {base : Heap} {φ : Fds} (T : Txt K mg φ) : FnOk P w K mg base CX0 3 (He.fAd K ("_law_ends_of", none)) φ.l_ends_of p_l_ends_of sp_ends := by
  obtain ⟨_, B0v, B0⟩ := b_l_end_of_1 T
  obtain ⟨_, B1v, B1⟩ := b_l_take_2 T
  obtain ⟨_, B2v, B2⟩ := b_l_some_4 T
  refine T.f_l_ends_of.ok sc_l_ends_of (fun vs H Q E h => ?_) (fun cdv A outer s H vs Q E hr h => ?_)
  · obtain ⟨h, n, rfl, hh, hn, k⟩ := h; rfl
  · obtain ⟨h, n, rfl, hh, hn, k⟩ := h
    refine ⟨_, PSs.nox (pss_cons (ps_par3 (i := 1) (j := 2) (l := 3) rfl sc_l_ends_of.nd rfl rfl rfl (by decide) (by decide) (by decide) rfl rfl rfl (pa_cons (pe_call (ok_l_take T) (hr.mono (by decide)) rfl T.g_l_take T.f_l_take.kp B1 B1v pass0 (pa_cons (pv 0) (pa_cons pe_int pa_nil))) (pa_cons (pe_call (ok_l_end_of T) (hr.mono (by decide)) rfl T.g_l_end_of T.f_l_end_of.kp B0 B0v pass0 (pa_cons (pv 0) pa_nil)) (pa_cons (pe_call (ok_l_end_of T) (hr.mono (by decide)) rfl T.g_l_end_of T.f_l_end_of.kp B0 B0v pass0 (pa_cons (pv 0) pa_nil)) pa_nil))) (by rfl))
      (pss_cons (ps_par (i := 4) (j := 5) rfl sc_l_ends_of.nd rfl rfl (by decide) rfl rfl (pa_cons (pe_cmpR op_eq (pe_call (ok_l_take T) (hr.mono (by decide)) rfl T.g_l_take T.f_l_take.kp B1 B1v pass0 (pa_cons (pv 0) (pa_cons pe_int pa_nil))) pe_int (nomark _)) (pa_cons (pe_cmpR op_eq (pe_call (ok_l_take T) (hr.mono (by decide)) rfl T.g_l_take T.f_l_take.kp B1 B1v pass0 (pa_cons (pv 0) (pa_cons pe_int pa_nil))) pe_int (nomark _)) pa_nil)) (by rfl))
      (pss_cons (ps_cut (ps_if (pt_cmpR op_eq (pv 1) pe_int (nomark _))
      (pss_one (ps_set (i := 2) sc_l_ends_of.nd rfl (Or.inl rfl) pe_non))
      pss_nil))
      (pss_cons (ps_cut (ps_if (pt_cmpR op_eq (pv 1) pe_int (nomark _))
      (pss_one (ps_set (i := 3) sc_l_ends_of.nd rfl (Or.inl rfl) pe_non))
      pss_nil))
      (pss_cons (ps_cut (ps_if (pt_cmpR op_eq (pv 1) pe_int (nomark _))
      (pss_one (ps_asg (pe_tup (pa_cons pe_non (pa_cons pe_non pa_nil))) (pg_tup rfl (pgs_cons (pg_name (i := 2) sc_l_ends_of.nd rfl (Or.inl rfl)) (pgs_cons (pg_name (i := 3) sc_l_ends_of.nd rfl (Or.inl rfl)) pgs_nil)))))
      pss_nil))
      (pss_cons (ps_cut (ps_if (pt_cmpR op_eq (pv 1) pe_int (nomark _))
      (pss_one (ps_par (i := 2) (j := 3) rfl sc_l_ends_of.nd rfl rfl (by decide) rfl rfl (pa_cons (pv 3) (pa_cons (pv 3) pa_nil)) (by rfl)))
      pss_nil))
      (pss_cons (ps_cut (ps_if (pt_not (pt_val (pe_call (ok_l_some T) (hr.mono (by decide)) rfl T.g_l_some T.f_l_some.kp B2 B2v pass0 (pa_cons (pv 2) (pa_cons (pv 3) (pa_cons (pv 4) (pa_cons (pv 5) pa_nil)))))))
      (pss_one (ps_asg (pe_tup (pa_cons (pv 3) (pa_cons (pv 2) (pa_cons pe_bl (pa_cons pe_bl pa_nil))))) (pg_tup rfl (pgs_cons (pg_name (i := 2) sc_l_ends_of.nd rfl (Or.inl rfl)) (pgs_cons (pg_name (i := 3) sc_l_ends_of.nd rfl (Or.inl rfl)) (pgs_cons (pg_name (i := 4) sc_l_ends_of.nd rfl (Or.inl rfl)) (pgs_cons (pg_name (i := 5) sc_l_ends_of.nd rfl (Or.inl rfl)) pgs_nil)))))))
      pss_nil))
      (pss_one (ps_ret (pe_tup (pa_cons (pv 2) (pa_cons (pv 3) (pa_cons (pv 4) (pa_cons (pv 5) pa_nil)))))))))))))), ?_⟩
    refine ⟨_, rfl, h, n, _, rfl, hh, by omega, by decide, by decide +kernel, fun d H1 d0 d1 hh1 k1 => ?_⟩
    refine ⟨_, rfl, h, _, rfl, hh1, by omega, fun p a H2 ha hh2 k2 => ?_⟩
    refine ⟨_, rfl, h, _, rfl, hh2, by omega, fun q b H3 hb hh3 k3 => ⟨_, _, _, rfl, ?_⟩⟩
    have ha3 := ha.kp hh2 k3
    refine ⟨_, rfl, h, _, _, rfl, hh3, by omega, by decide, by decide +kernel, fun e H4 e0 e1 hh4 k4 => ⟨rfl, ?_⟩⟩
    refine ⟨_, rfl, h, _, _, rfl, hh4, by omega, by decide, by decide +kernel, fun f H5 f0 f1 hh5 k5 => ⟨rfl, _, _, rfl, ?_⟩⟩
    generalize decide (V.int e = V.int 0) = ia
    generalize decide (V.int f = V.int 0) = ib
    have a5 := (ha3.kp hh3 k4).kp hh4 k5
    have b5 := (hb.kp hh3 k4).kp hh4 k5
    have K5 : Kp h H H5 := (((k1.trans k2).trans k3).trans k4).trans k5
    have hh5' : HandAt H5 h (n + 9) := hh5.mono (by omega)
    clear hh1 hh2 hh3 hh4 hh5 k1 k2 k3 k4 k5 ha hb ha3 hh
    have J0 : ∃ (va vb : V) (ea eb : Option Q2), V.ref p = va ∧ V.ref q = vb ∧ EndV 140 H5 va ea ∧ EndV 140 H5 vb eb := ⟨_, _, _, _, rfl, rfl, a5, b5⟩
    obtain ⟨va, vb, ea, eb, e1', e2', wa, wb⟩ := J0
    rw [e1', e2']
    clear a5 b5 e1' e2' e0 e1 f0 f1
    refine ⟨fun σ' H' => H5 = H' ∧ ∃ (va vb : V) (ea eb : Option Q2), σ' = [some (.ref h), some (.int d), some va, some vb, some (.bl ia), some (.bl ib)] ∧ EndV 140 H5 va ea ∧ EndV 140 H5 vb eb, ?_, ?_⟩
    · refine ⟨_, rfl, rfl, _, rfl, ?_⟩
      refine ite2 (fun _ => ?_) (fun _ => ?_)
      · exact ⟨rfl, .non, _, none, _, rfl, rfl, wb⟩
      · exact ⟨rfl, _, _, _, _, rfl, wa, wb⟩
    clear wa wb
    rintro σ' H' ⟨rfl, va, vb, ea, eb, rfl, wa, wb⟩
    refine ⟨fun σ' H' => H5 = H' ∧ ∃ (va vb : V) (ea eb : Option Q2), σ' = [some (.ref h), some (.int d), some va, some vb, some (.bl ia), some (.bl ib)] ∧ EndV 140 H5 va ea ∧ EndV 140 H5 vb eb, ?_, ?_⟩
    · refine ⟨_, rfl, rfl, _, rfl, ?_⟩
      refine ite2 (fun _ => ?_) (fun _ => ?_)
      · exact ⟨rfl, _, .non, _, none, rfl, wa, rfl⟩
      · exact ⟨rfl, _, _, _, _, rfl, wa, wb⟩
    clear wa wb
    rintro σ' H' ⟨rfl, va, vb, ea, eb, rfl, wa, wb⟩
    refine ⟨fun σ' H' => Same H5 H' ∧ ∃ (va vb : V) (ea eb : Option Q2), σ' = [some (.ref h), some (.int d), some va, some vb, some (.bl ia), some (.bl ib)] ∧ EndV 140 H5 va ea ∧ EndV 140 H5 vb eb, ?_, ?_⟩
    · refine ⟨_, rfl, rfl, _, rfl, ?_⟩
      refine ite2 (fun _ => ?_) (fun _ => ?_)
      · refine ⟨by show 2 ≤ sizeLine; decide, fun t nt => ⟨t, _, rfl, SqT.of upd_same, rfl, _, _, rfl, _, _, rfl, rfl, ?_⟩⟩
        exact ⟨same1 nt, .non, .non, none, none, rfl, rfl, rfl⟩
      · exact ⟨Same.refl _, _, _, _, _, rfl, wa, wb⟩
    clear wa wb
    rintro σ' H6 ⟨s6, va, vb, ea, eb, rfl, wa, wb⟩
    refine ⟨fun σ' H' => H6 = H' ∧ ∃ (va vb : V) (ea eb : Option Q2), σ' = [some (.ref h), some (.int d), some va, some vb, some (.bl ia), some (.bl ib)] ∧ EndV 140 H5 va ea ∧ EndV 140 H5 vb eb, ?_, ?_⟩
    · refine ⟨_, rfl, rfl, _, rfl, ?_⟩
      refine ite2 (fun _ => ?_) (fun _ => ?_)
      · exact ⟨_, rfl, _, rfl, _, _, rfl, rfl, _, _, _, _, rfl, wb, wb⟩
      · exact ⟨rfl, _, _, _, _, rfl, wa, wb⟩
    clear wa wb
    rintro σ' H' ⟨rfl, va, vb, ea, eb, rfl, wa, wb⟩
    have wa6 := wa.same s6
    have wb6 := wb.same s6
    refine ⟨fun σ' H' => Same H6 H' ∧ ∃ (va vb : V) (ea eb : Option Q2) (ia ib : Bool), σ' = [some (.ref h), some (.int d), some va, some vb, some (.bl ia), some (.bl ib)] ∧ EndV 140 H6 va ea ∧ EndV 140 H6 vb eb ∧ someB ea eb ia ib = true, ?_, ?_⟩
    · refine ⟨_, rfl, _, rfl, _, rfl, _, rfl, va, vb, ea, eb, ia, ib, rfl, wa6.mono (by decide), wb6.mono (by decide), _, rfl, ?_⟩
      cases e : someB ea eb ia ib with
      | true => exact iteF ⟨Same.refl _, va, vb, ea, eb, ia, ib, rfl, wa6, wb6, e⟩
      | false =>
        refine iteT ?_
        refine ⟨_, rfl, _, rfl, by show 4 ≤ sizeLine; decide, fun t nt => ⟨t, _, rfl, SqT.of upd_same, rfl, _, _, rfl, _, _, rfl, _, _, rfl, _, _, rfl, rfl, ?_⟩⟩
        refine ⟨same1 nt, vb, va, eb, ea, true, true, rfl, wb6, wa6, ?_⟩
        cases ea with
        | none => cases e
        | some x =>
          cases eb with
          | none => cases e
          | some y =>
            have e : (ltq x y || (eqq x y && ia && ib)) = false := e
            show (ltq y x || (eqq y x && true && true)) = true
            rw [eqq_comm y x]
            rcases lt_tri x y with ⟨h1, h2, h3⟩ | ⟨h1, h2, h3⟩ | ⟨h1, h2, h3⟩
            · rw [h1] at e; cases e
            · rw [h2]; simp
            · rw [h3]; rfl
    rintro σ' H7 ⟨s7, va, vb, ea, eb, ia, ib, rfl, wa, wb, so⟩
    refine ⟨_, rfl, _, rfl, _, rfl, _, rfl, by show 4 ≤ sizeLine; decide, fun r nr => ?_⟩
    have K7 : Kp h H H7 := (K5.trans (Kp.same s6)).trans (Kp.same s7)
    exact k r ea eb ia ib _ ⟨⟨va, vb, upd_same, (wa.same s7).same (same1 nr), (wb.same s7).same (same1 nr)⟩, so⟩ (((hh5'.same s6).same s7).up nr) (K7.up nr)
theorem ok_l_made {P : Program} {w : World} {K : PySem.W.Frag} {mg : Str → Option Value} {base : Heap} {φ : Fds} (T : Txt K mg φ) : FnOk P w K mg base CX0 5 (He.fAd K ("_law_made", none)) φ.l_made p_l_made (sp_made (He.ga K "Measure") (He.ga K "Stretch")) := by
  obtain ⟨_, B0v, B0⟩ := b_Stretch_init_5 T
  obtain ⟨_, B1v, B1⟩ := b_l_measure_1 T
  refine T.f_l_made.ok sc_l_made (fun vs H Q E h => ?_) (fun cdv A outer s H vs Q E hr h => ?_)
  · obtain ⟨p, ea, eb, ia, ib, rfl, ⟨⟨va, vb, hp, wa, wb⟩, so⟩, k⟩ := h; rfl
  · obtain ⟨p, ea, eb, ia, ib, rfl, ⟨⟨va, vb, hp, wa, wb⟩, so⟩, k⟩ := h
    refine ⟨_, PSs.nox (pss_one (ps_ret (pe_make T.mk_Stretch (ok_Stretch_init T) (hr.mono (by decide)) rfl T.g_Stretch B0 B0v pass0 (pa_cons (pe_call (ok_l_measure T) (hr.mono (by decide)) rfl T.g_l_measure T.f_l_measure.kp B1 B1v pass0 (pa_cons (pe_ix (ixt (K := K)) (pv 0) pe_int (fun _ _ => rfl)) pa_nil)) (pa_cons (pe_call (ok_l_measure T) (hr.mono (by decide)) rfl T.g_l_measure T.f_l_measure.kp B1 B1v pass0 (pa_cons (pe_ix (ixt (K := K)) (pv 0) pe_int (fun _ _ => rfl)) pa_nil)) (pa_cons (pe_ix (ixt (K := K)) (pv 0) pe_int (fun _ _ => rfl)) (pa_cons (pe_ix (ixt (K := K)) (pv 0) pe_int (fun _ _ => rfl)) pa_nil))))))), ?_⟩
    refine ⟨_, rfl, _, _, _, _, rfl, rfl, SqT.of hp, rfl, va, ea, rfl, wa.mono (by decide), fun l lo H1 s1 ml r1 o1 => ?_⟩
    have hp1 := s1 _ _ hp
    refine ⟨_, rfl, _, _, _, _, rfl, rfl, SqT.of hp1, rfl, vb, eb, rfl, (wb.same s1).mono (by decide), fun h hi H2 s2 mh r2 o2 => ?_⟩
    have hp2 := s2 _ _ hp1
    refine ⟨_, rfl, _, _, _, _, rfl, rfl, SqT.of hp2, rfl, _, rfl, _, _, _, _, rfl, rfl, SqT.of hp2, rfl, ?_⟩
    intro x dx nx nd ne
    have sx : Same H2 (upd (upd H2 dx (.own x)) x (.ins (He.ga K "Stretch") dx [])) := fun c o e => by
      rw [upd_ne (ne_of_none e nx)]; exact up1 nd e
    have ml2 := (ml.same s2).same sx
    have mh2 := mh.same sx
    refine ⟨x, dx, l, h, lo, hi, ia, ib, rfl, upd_same, ml2, mh2, o1, o2, (someB_congr r1 r2).trans so, fun H' hx kp => ⟨rfl, ?_⟩⟩
    have s' : Same H2 H' := made_same nx nd kp
    rw [← r1.isS, ← r2.isS] at k
    exact k x lo hi H' ((s1.trans s2).trans s') (StAt.mk' hx s' (ml.same s2) mh o1 o2) r1 r2
theorem ok_cut_low {P : Program} {w : World} {K : PySem.W.Frag} {mg : Str → Option Value} {base : Heap} {φ : Fds} (T : Txt K mg φ) : FnOk P w K mg base CX0 2 (He.fAd K ("cut_low", none)) φ.cut_low p_cut_low (sp_cutEnd (He.ga K "Measure") (He.ga K "Stretch") (fun m1 m2 i1 i2 n1 n2 j1 j2 => cutLo m1 i1 n1 j1)) := by
  obtain ⟨_, B0v, B0⟩ := b_Measure_is_below_2 T
  refine T.f_cut_low.ok sc_cut_low (fun vs H Q E h => ?_) (fun cdv A outer s H vs Q E hr h => ?_)
  · obtain ⟨p, q, m1, m2, n1, n2, i1, i2, j1, j2, rfl, ⟨⟨dp, pl, ph, hp, ml, mh⟩, a1, a2, _, _⟩, ⟨⟨dq, ql, qh, hq, nl, nh⟩, b1, b2, _, _⟩, k⟩ := h; rfl
  · obtain ⟨p, q, m1, m2, n1, n2, i1, i2, j1, j2, rfl, ⟨⟨dp, pl, ph, hp, ml, mh⟩, a1, a2, _, _⟩, ⟨⟨dq, ql, qh, hq, nl, nh⟩, b1, b2, _, _⟩, k⟩ := h
    refine ⟨_, PSs.nox (pss_cons (ps_if (pt_cmpR op_isN (fldK (K := K) (pv 0) rfl) pe_non (nomark _))
      (pss_one (ps_ret (pe_tup (pa_cons (fldK (K := K) (pv 1) rfl) (pa_cons (fldK (K := K) (pv 1) rfl) pa_nil)))))
      pss_nil)
      (pss_cons (ps_if (PW.pt (pw_or (pt_cmpR op_isN (fldK (K := K) (pv 1) rfl) pe_non (nomark _)) (pw_or1 (pt_val (pe_meth (fldK (K := K) (pv 1) rfl) T.cl_Measure T.me_Measure_is_below (ok_Measure_is_below T) (hr.mono (by decide)) B0 B0v pass0 (pa_cons (fldK (K := K) (pv 0) rfl) pa_nil))))))
      (pss_one (ps_ret (pe_tup (pa_cons (fldK (K := K) (pv 0) rfl) (pa_cons (fldK (K := K) (pv 0) rfl) pa_nil)))))
      pss_nil)
      (pss_cons (ps_if (pt_val (pe_meth (fldK (K := K) (pv 0) rfl) T.cl_Measure T.me_Measure_is_below (ok_Measure_is_below T) (hr.mono (by decide)) B0 B0v pass0 (pa_cons (fldK (K := K) (pv 1) rfl) pa_nil)))
      (pss_one (ps_ret (pe_tup (pa_cons (fldK (K := K) (pv 1) rfl) (pa_cons (fldK (K := K) (pv 1) rfl) pa_nil)))))
      pss_nil)
      (pss_one (ps_ret (pe_tup (pa_cons (fldK (K := K) (pv 0) rfl) (pa_cons (pe_cut (pe_and (fldK (K := K) (pv 0) rfl) (pe_one (fldK (K := K) (pv 1) rfl)))) pa_nil)))))))), ?_⟩
    refine ⟨_, rfl, _, _, _, _, _, rfl, hp, T.cl_Stretch, T.na_Stretch_low, sf_low _ _ _ _, rfl, _, rfl, ?_⟩
    have LA : ∀ x y : Q2, lessA x.1 x.2 y.1 y.2 false = ltq x y := fun x y => by unfold lessA ltq; simp
    cases m1 with
    | none =>
      cases ml
      refine iteT ?_
      exact ⟨_, rfl, _, _, _, _, _, rfl, hq, T.cl_Stretch, T.na_Stretch_low, sf_low _ _ _ _, _, rfl, _, _, _, _, _, rfl, hq, T.cl_Stretch, T.na_Stretch_low_in, sf_low_in _ _ _ _, by show 2 ≤ sizeLine; decide, fun r nr => k r _ _ (same1 nr) upd_same (nl.same (same1 nr))⟩
    | some a =>
      have ma0 := ml
      obtain ⟨pa, rfl, da, hpa⟩ := ml
      refine iteF ?_
      refine ⟨_, rfl, _, _, _, _, _, rfl, hq, T.cl_Stretch, T.na_Stretch_low, sf_low _ _ _ _, rfl, _, rfl, ?_⟩
      cases n1 with
      | none =>
        cases nl
        refine iteT ?_
        refine iteT ?_
        exact ⟨_, rfl, _, _, _, _, _, rfl, hp, T.cl_Stretch, T.na_Stretch_low, sf_low _ _ _ _, _, rfl, _, _, _, _, _, rfl, hp, T.cl_Stretch, T.na_Stretch_low_in, sf_low_in _ _ _ _, by show 2 ≤ sizeLine; decide, fun r nr => k r _ _ (same1 nr) upd_same (ma0.same (same1 nr))⟩
      | some b =>
        have mb0 := nl
        obtain ⟨pb, rfl, db, hpb⟩ := nl
        refine iteF ?_
        refine ⟨_, rfl, _, _, _, _, _, rfl, hq, T.cl_Stretch, T.na_Stretch_low, sf_low _ _ _ _, pb, _, _, rfl, hpb, mf_no _ _ (by decide +kernel) (by decide +kernel), _, rfl, _, _, _, _, _, rfl, hp, T.cl_Stretch, T.na_Stretch_low, sf_low _ _ _ _, pb, pa, b.1, b.2, a.1, a.2, false, rfl, ⟨_, hpb⟩, ⟨_, hpa⟩, b1.s1.mono (by decide), b1.s2.mono (by decide), a1.s1.mono (by decide), a1.s2.mono (by decide), _, rfl, ?_⟩
        have k : ∀ (r : Addr) (v : V) (H' : Hp), Same H H' → H' r = some (.tup [v, .bl (if ltq a b then (some b, j1) else if eqq a b then (some a, i1 && j1) else (some a, i1)).2]) → MsV (He.ga K "Measure") H' v (if ltq a b then (some b, j1) else if eqq a b then (some a, i1 && j1) else (some a, i1)).1 → Q (.ref r) H' := k
        rcases lt_tri a b with ⟨h1, h2, h3⟩ | ⟨h1, h2, h3⟩ | ⟨h1, h2, h3⟩
        · rw [h1] at k
          · rw [show lessA b.1 b.2 a.1 a.2 false = false from (LA _ _).trans h3]
            refine iteF ?_
            refine ⟨_, rfl, _, _, _, _, _, rfl, hp, T.cl_Stretch, T.na_Stretch_low, sf_low _ _ _ _, pa, _, _, rfl, hpa, mf_no _ _ (by decide +kernel) (by decide +kernel), _, rfl, _, _, _, _, _, rfl, hq, T.cl_Stretch, T.na_Stretch_low, sf_low _ _ _ _, pa, pb, a.1, a.2, b.1, b.2, false, rfl, ⟨_, hpa⟩, ⟨_, hpb⟩, a1.s1.mono (by decide), a1.s2.mono (by decide), b1.s1.mono (by decide), b1.s2.mono (by decide), _, rfl, ?_⟩
            rw [show lessA a.1 a.2 b.1 b.2 false = true from (LA _ _).trans h1]
            exact iteT ⟨_, rfl, _, _, _, _, _, rfl, hq, T.cl_Stretch, T.na_Stretch_low, sf_low _ _ _ _, _, rfl, _, _, _, _, _, rfl, hq, T.cl_Stretch, T.na_Stretch_low_in, sf_low_in _ _ _ _, by show 2 ≤ sizeLine; decide, fun r nr => k r _ _ (same1 nr) upd_same (mb0.same (same1 nr))⟩
        · rw [h1, h2] at k
          · rw [show lessA b.1 b.2 a.1 a.2 false = false from (LA _ _).trans h3]
            refine iteF ?_
            refine ⟨_, rfl, _, _, _, _, _, rfl, hp, T.cl_Stretch, T.na_Stretch_low, sf_low _ _ _ _, pa, _, _, rfl, hpa, mf_no _ _ (by decide +kernel) (by decide +kernel), _, rfl, _, _, _, _, _, rfl, hq, T.cl_Stretch, T.na_Stretch_low, sf_low _ _ _ _, pa, pb, a.1, a.2, b.1, b.2, false, rfl, ⟨_, hpa⟩, ⟨_, hpb⟩, a1.s1.mono (by decide), a1.s2.mono (by decide), b1.s1.mono (by decide), b1.s2.mono (by decide), _, rfl, ?_⟩
            rw [show lessA a.1 a.2 b.1 b.2 false = false from (LA _ _).trans h1]
            refine iteF ?_
            refine ⟨_, rfl, _, _, _, _, _, rfl, hp, T.cl_Stretch, T.na_Stretch_low, sf_low _ _ _ _, ?_⟩
            refine ⟨fun v H' => H = H' ∧ v = .bl (i1 && j1), ?_, ?_⟩
            · refine ⟨_, rfl, _, _, _, _, _, rfl, hp, T.cl_Stretch, T.na_Stretch_low_in, sf_low_in _ _ _ _, _, rfl, ?_⟩
              cases i1 with
              | true => exact iteT ⟨_, rfl, _, _, _, _, _, rfl, hq, T.cl_Stretch, T.na_Stretch_low_in, sf_low_in _ _ _ _, rfl, rfl⟩
              | false => exact iteF ⟨rfl, rfl⟩
            rintro v H' ⟨rfl, rfl⟩
            exact ⟨by show 2 ≤ sizeLine; decide, fun r nr => k r _ _ (same1 nr) upd_same (ma0.same (same1 nr))⟩
        · rw [h1, h2] at k
          · rw [show lessA b.1 b.2 a.1 a.2 false = true from (LA _ _).trans h3]
            exact iteT ⟨_, rfl, _, _, _, _, _, rfl, hp, T.cl_Stretch, T.na_Stretch_low, sf_low _ _ _ _, _, rfl, _, _, _, _, _, rfl, hp, T.cl_Stretch, T.na_Stretch_low_in, sf_low_in _ _ _ _, by show 2 ≤ sizeLine; decide, fun r nr => k r _ _ (same1 nr) upd_same (ma0.same (same1 nr))⟩
theorem ok_cut_high {P : Program} {w : World} {K : PySem.W.Frag} {mg : Str → Option Value} {base : Heap} {φ : Fds} (T : Txt K mg φ) : FnOk P w K mg base CX0 2 (He.fAd K ("cut_high", none)) φ.cut_high p_cut_high (sp_cutEnd (He.ga K "Measure") (He.ga K "Stretch") (fun m1 m2 i1 i2 n1 n2 j1 j2 => cutHi m2 i2 n2 j2)) := by
  obtain ⟨_, B0v, B0⟩ := b_Measure_is_below_2 T
  refine T.f_cut_high.ok sc_cut_high (fun vs H Q E h => ?_) (fun cdv A outer s H vs Q E hr h => ?_)
  · obtain ⟨p, q, m1, m2, n1, n2, i1, i2, j1, j2, rfl, ⟨⟨dp, pl, ph, hp, ml, mh⟩, a1, a2, _, _⟩, ⟨⟨dq, ql, qh, hq, nl, nh⟩, b1, b2, _, _⟩, k⟩ := h; rfl
  · obtain ⟨p, q, m1, m2, n1, n2, i1, i2, j1, j2, rfl, ⟨⟨dp, pl, ph, hp, ml, mh⟩, a1, a2, _, _⟩, ⟨⟨dq, ql, qh, hq, nl, nh⟩, b1, b2, _, _⟩, k⟩ := h
    refine ⟨_, PSs.nox (pss_cons (ps_if (pt_cmpR op_isN (fldK (K := K) (pv 0) rfl) pe_non (nomark _))
      (pss_one (ps_ret (pe_tup (pa_cons (fldK (K := K) (pv 1) rfl) (pa_cons (fldK (K := K) (pv 1) rfl) pa_nil)))))
      pss_nil)
      (pss_cons (ps_if (PW.pt (pw_or (pt_cmpR op_isN (fldK (K := K) (pv 1) rfl) pe_non (nomark _)) (pw_or1 (pt_val (pe_meth (fldK (K := K) (pv 0) rfl) T.cl_Measure T.me_Measure_is_below (ok_Measure_is_below T) (hr.mono (by decide)) B0 B0v pass0 (pa_cons (fldK (K := K) (pv 1) rfl) pa_nil))))))
      (pss_one (ps_ret (pe_tup (pa_cons (fldK (K := K) (pv 0) rfl) (pa_cons (fldK (K := K) (pv 0) rfl) pa_nil)))))
      pss_nil)
      (pss_cons (ps_if (pt_val (pe_meth (fldK (K := K) (pv 1) rfl) T.cl_Measure T.me_Measure_is_below (ok_Measure_is_below T) (hr.mono (by decide)) B0 B0v pass0 (pa_cons (fldK (K := K) (pv 0) rfl) pa_nil)))
      (pss_one (ps_ret (pe_tup (pa_cons (fldK (K := K) (pv 1) rfl) (pa_cons (fldK (K := K) (pv 1) rfl) pa_nil)))))
      pss_nil)
      (pss_one (ps_ret (pe_tup (pa_cons (fldK (K := K) (pv 0) rfl) (pa_cons (pe_cut (pe_and (fldK (K := K) (pv 0) rfl) (pe_one (fldK (K := K) (pv 1) rfl)))) pa_nil)))))))), ?_⟩
    refine ⟨_, rfl, _, _, _, _, _, rfl, hp, T.cl_Stretch, T.na_Stretch_high, sf_high _ _ _ _, rfl, _, rfl, ?_⟩
    have LA : ∀ x y : Q2, lessA x.1 x.2 y.1 y.2 false = ltq x y := fun x y => by unfold lessA ltq; simp
    cases m2 with
    | none =>
      cases mh
      refine iteT ?_
      exact ⟨_, rfl, _, _, _, _, _, rfl, hq, T.cl_Stretch, T.na_Stretch_high, sf_high _ _ _ _, _, rfl, _, _, _, _, _, rfl, hq, T.cl_Stretch, T.na_Stretch_high_in, sf_high_in _ _ _ _, by show 2 ≤ sizeLine; decide, fun r nr => k r _ _ (same1 nr) upd_same (nh.same (same1 nr))⟩
    | some a =>
      have ma0 := mh
      obtain ⟨pa, rfl, da, hpa⟩ := mh
      refine iteF ?_
      refine ⟨_, rfl, _, _, _, _, _, rfl, hq, T.cl_Stretch, T.na_Stretch_high, sf_high _ _ _ _, rfl, _, rfl, ?_⟩
      cases n2 with
      | none =>
        cases nh
        refine iteT ?_
        refine iteT ?_
        exact ⟨_, rfl, _, _, _, _, _, rfl, hp, T.cl_Stretch, T.na_Stretch_high, sf_high _ _ _ _, _, rfl, _, _, _, _, _, rfl, hp, T.cl_Stretch, T.na_Stretch_high_in, sf_high_in _ _ _ _, by show 2 ≤ sizeLine; decide, fun r nr => k r _ _ (same1 nr) upd_same (ma0.same (same1 nr))⟩
      | some b =>
        have mb0 := nh
        obtain ⟨pb, rfl, db, hpb⟩ := nh
        refine iteF ?_
        refine ⟨_, rfl, _, _, _, _, _, rfl, hp, T.cl_Stretch, T.na_Stretch_high, sf_high _ _ _ _, pa, _, _, rfl, hpa, mf_no _ _ (by decide +kernel) (by decide +kernel), _, rfl, _, _, _, _, _, rfl, hq, T.cl_Stretch, T.na_Stretch_high, sf_high _ _ _ _, pa, pb, a.1, a.2, b.1, b.2, false, rfl, ⟨_, hpa⟩, ⟨_, hpb⟩, a2.s1.mono (by decide), a2.s2.mono (by decide), b2.s1.mono (by decide), b2.s2.mono (by decide), _, rfl, ?_⟩
        have k : ∀ (r : Addr) (v : V) (H' : Hp), Same H H' → H' r = some (.tup [v, .bl (if ltq b a then (some b, j2) else if eqq a b then (some a, i2 && j2) else (some a, i2)).2]) → MsV (He.ga K "Measure") H' v (if ltq b a then (some b, j2) else if eqq a b then (some a, i2 && j2) else (some a, i2)).1 → Q (.ref r) H' := k
        rcases lt_tri a b with ⟨h1, h2, h3⟩ | ⟨h1, h2, h3⟩ | ⟨h1, h2, h3⟩
        · rw [h3, h2] at k
          · rw [show lessA a.1 a.2 b.1 b.2 false = true from (LA _ _).trans h1]
            exact iteT ⟨_, rfl, _, _, _, _, _, rfl, hp, T.cl_Stretch, T.na_Stretch_high, sf_high _ _ _ _, _, rfl, _, _, _, _, _, rfl, hp, T.cl_Stretch, T.na_Stretch_high_in, sf_high_in _ _ _ _, by show 2 ≤ sizeLine; decide, fun r nr => k r _ _ (same1 nr) upd_same (ma0.same (same1 nr))⟩
        · rw [h3, h2] at k
          · rw [show lessA a.1 a.2 b.1 b.2 false = false from (LA _ _).trans h1]
            refine iteF ?_
            refine ⟨_, rfl, _, _, _, _, _, rfl, hq, T.cl_Stretch, T.na_Stretch_high, sf_high _ _ _ _, pb, _, _, rfl, hpb, mf_no _ _ (by decide +kernel) (by decide +kernel), _, rfl, _, _, _, _, _, rfl, hp, T.cl_Stretch, T.na_Stretch_high, sf_high _ _ _ _, pb, pa, b.1, b.2, a.1, a.2, false, rfl, ⟨_, hpb⟩, ⟨_, hpa⟩, b2.s1.mono (by decide), b2.s2.mono (by decide), a2.s1.mono (by decide), a2.s2.mono (by decide), _, rfl, ?_⟩
            rw [show lessA b.1 b.2 a.1 a.2 false = false from (LA _ _).trans h3]
            refine iteF ?_
            refine ⟨_, rfl, _, _, _, _, _, rfl, hp, T.cl_Stretch, T.na_Stretch_high, sf_high _ _ _ _, ?_⟩
            refine ⟨fun v H' => H = H' ∧ v = .bl (i2 && j2), ?_, ?_⟩
            · refine ⟨_, rfl, _, _, _, _, _, rfl, hp, T.cl_Stretch, T.na_Stretch_high_in, sf_high_in _ _ _ _, _, rfl, ?_⟩
              cases i2 with
              | true => exact iteT ⟨_, rfl, _, _, _, _, _, rfl, hq, T.cl_Stretch, T.na_Stretch_high_in, sf_high_in _ _ _ _, rfl, rfl⟩
              | false => exact iteF ⟨rfl, rfl⟩
            rintro v H' ⟨rfl, rfl⟩
            exact ⟨by show 2 ≤ sizeLine; decide, fun r nr => k r _ _ (same1 nr) upd_same (ma0.same (same1 nr))⟩
        · rw [h3] at k
          · rw [show lessA a.1 a.2 b.1 b.2 false = false from (LA _ _).trans h1]
            refine iteF ?_
            refine ⟨_, rfl, _, _, _, _, _, rfl, hq, T.cl_Stretch, T.na_Stretch_high, sf_high _ _ _ _, pb, _, _, rfl, hpb, mf_no _ _ (by decide +kernel) (by decide +kernel), _, rfl, _, _, _, _, _, rfl, hp, T.cl_Stretch, T.na_Stretch_high, sf_high _ _ _ _, pb, pa, b.1, b.2, a.1, a.2, false, rfl, ⟨_, hpb⟩, ⟨_, hpa⟩, b2.s1.mono (by decide), b2.s2.mono (by decide), a2.s1.mono (by decide), a2.s2.mono (by decide), _, rfl, ?_⟩
            rw [show lessA b.1 b.2 a.1 a.2 false = true from (LA _ _).trans h3]
            exact iteT ⟨_, rfl, _, _, _, _, _, rfl, hq, T.cl_Stretch, T.na_Stretch_high, sf_high _ _ _ _, _, rfl, _, _, _, _, _, rfl, hq, T.cl_Stretch, T.na_Stretch_high_in, sf_high_in _ _ _ _, by show 2 ≤ sizeLine; decide, fun r nr => k r _ _ (same1 nr) upd_same (mb0.same (same1 nr))⟩
theorem ok_Stretch_cut {P : Program} {w : World} {K : PySem.W.Frag} {mg : Str → Option Value} {base : Heap} {φ : Fds} (T : Txt K mg φ) : FnOk P w K mg base CX0 5 (He.fAd K ("Stretch", some "cut")) φ.Stretch_cut p_Stretch_cut (sp_cutS (He.ga K "Measure") (He.ga K "Stretch")) := by
  obtain ⟨_, B0v, B0⟩ := b_cut_low_2 T
  obtain ⟨_, B1v, B1⟩ := b_cut_high_2 T
  obtain ⟨_, B2v, B2⟩ := b_is_empty_4 T
  obtain ⟨_, B3v, B3⟩ := b_Stretch_init_5 T
  refine T.f_Stretch_cut.ok sc_Stretch_cut (fun vs H Q E h => ?_) (fun cdv A outer s H vs Q E hr h => ?_)
  · obtain ⟨p, q, m1, m2, n1, n2, i1, i2, j1, j2, rfl, sp, sq, k⟩ := h; rfl
  · obtain ⟨p, q, m1, m2, n1, n2, i1, i2, j1, j2, rfl, sp, sq, k⟩ := h
    refine ⟨_, PSs.nox (pss_cons (ps_asg (pe_call (ok_cut_low T) (hr.mono (by decide)) rfl T.g_cut_low T.f_cut_low.kp B0 B0v pass0 (pa_cons (pv 0) (pa_cons (pv 1) pa_nil))) (pg_tup rfl (pgs_cons (pg_name (i := 2) sc_Stretch_cut.nd rfl (Or.inl rfl)) (pgs_cons (pg_name (i := 3) sc_Stretch_cut.nd rfl (Or.inl rfl)) pgs_nil))))
      (pss_cons (ps_asg (pe_call (ok_cut_high T) (hr.mono (by decide)) rfl T.g_cut_high T.f_cut_high.kp B1 B1v pass0 (pa_cons (pv 0) (pa_cons (pv 1) pa_nil))) (pg_tup rfl (pgs_cons (pg_name (i := 4) sc_Stretch_cut.nd rfl (Or.inl rfl)) (pgs_cons (pg_name (i := 5) sc_Stretch_cut.nd rfl (Or.inl rfl)) pgs_nil))))
      (pss_cons (ps_if (pt_val (pe_call (ok_is_empty T) (hr.mono (by decide)) rfl T.g_is_empty T.f_is_empty.kp B2 B2v pass0 (pa_cons (pv 2) (pa_cons (pv 4) (pa_cons (pv 3) (pa_cons (pv 5) pa_nil))))))
      (pss_one (ps_ret pe_non))
      pss_nil)
      (pss_one (ps_ret (pe_make T.mk_Stretch (ok_Stretch_init T) (hr.mono (by decide)) rfl T.g_Stretch B3 B3v pass0 (pa_cons (pv 2) (pa_cons (pv 4) (pa_cons (pv 3) (pa_cons (pv 5) pa_nil)))))))))), ?_⟩
    refine ⟨_, rfl, _, rfl, p, q, m1, m2, n1, n2, i1, i2, j1, j2, rfl, sp, sq, fun r v H1 s1 hr1 mv => ?_⟩
    refine ⟨r, _, rfl, SqT.of hr1, rfl, _, _, rfl, _, _, rfl, rfl, ?_⟩
    refine ⟨_, rfl, _, rfl, p, q, m1, m2, n1, n2, i1, i2, j1, j2, rfl, sp.same s1, sq.same s1, fun r2 w H2 s2 hr2 mw => ?_⟩
    refine ⟨r2, _, rfl, SqT.of hr2, rfl, _, _, rfl, _, _, rfl, rfl, ?_⟩
    have mv2 := mv.same s2
    have lv : LowO (cutLo m1 i1 n1 j1).1 := cutLo_low sp.l1 sq.l1
    have lw : LowO (cutHi m2 i2 n2 j2).1 := cutHi_low sp.l2 sq.l2
    refine ⟨_, rfl, _, rfl, _, rfl, _, rfl, v, w, _, _, _, _, rfl, mv2, mw, lv, lw, _, rfl, ?_⟩
    cases e : someB (cutLo m1 i1 n1 j1).1 (cutHi m2 i2 n2 j2).1 (cutLo m1 i1 n1 j1).2 (cutHi m2 i2 n2 j2).2 with
    | false =>
      refine iteT ?_
      exact k _ H2 (s1.trans s2) (.inr ⟨e, rfl⟩)
    | true =>
      refine iteF ?_
      refine ⟨_, rfl, _, rfl, _, rfl, _, rfl, ?_⟩
      intro x dx nx nd ne
      have sx : Same H2 (upd (upd H2 dx (.own x)) x (.ins (He.ga K "Stretch") dx [])) := fun c o e => by
        rw [upd_ne (ne_of_none e nx)]; exact up1 nd e
      refine ⟨x, dx, v, w, _, _, _, _, rfl, upd_same, mv2.same sx, mw.same sx, lv, lw, e, fun H' hx kp => ⟨rfl, ?_⟩⟩
      have s' : Same H2 H' := made_same nx nd kp
      exact k _ H' ((s1.trans s2).trans s') (.inl ⟨e, x, rfl, StAt.mk' hx s' mv2 mw lv lw⟩)
theorem ok_l_pair_of {P : Program} {w : World} {K : PySem.W.Frag} {mg : Str → Option Value} {base : Heap} {φ : Fds} (T : Txt K mg φ) : FnOk P w K mg base CX0 4 (He.fAd K ("_law_pair_of", none)) φ.l_pair_of p_l_pair_of sp_pair := by
  obtain ⟨_, B0v, B0⟩ := b_l_ends_of_1 T
  obtain ⟨_, B1v, B1⟩ := b_l_take_2 T
  obtain ⟨_, B2v, B2⟩ := b_l_some_4 T
  refine T.f_l_pair_of.ok sc_l_pair_of (fun vs H Q E h => ?_) (fun cdv A outer s H vs Q E hr h => ?_)
  · obtain ⟨h, n, rfl, hh, hn, k⟩ := h; rfl
  · obtain ⟨h, n, rfl, hh, hn, k⟩ := h
    refine ⟨_, PSs.nox (pss_cons (ps_par3 (i := 1) (j := 2) (l := 3) rfl sc_l_pair_of.nd rfl rfl rfl (by decide) (by decide) (by decide) rfl rfl rfl (pa_cons (pe_call (ok_l_take T) (hr.mono (by decide)) rfl T.g_l_take T.f_l_take.kp B1 B1v pass0 (pa_cons (pv 0) (pa_cons pe_int pa_nil))) (pa_cons (pe_call (ok_l_ends_of T) (hr.mono (by decide)) rfl T.g_l_ends_of T.f_l_ends_of.kp B0 B0v pass0 (pa_cons (pv 0) pa_nil)) (pa_cons (pe_call (ok_l_ends_of T) (hr.mono (by decide)) rfl T.g_l_ends_of T.f_l_ends_of.kp B0 B0v pass0 (pa_cons (pv 0) pa_nil)) pa_nil))) (by rfl))
      (pss_cons (ps_cut (ps_if (pt_cmpR op_eq (pv 1) pe_int (nomark _))
      (pss_one (ps_set (i := 3) sc_l_pair_of.nd rfl (Or.inl rfl) (pe_tup (pa_cons (pe_ix (ixt (K := K)) (pv 2) pe_int (fun _ _ => rfl)) (pa_cons (pe_ix (ixt (K := K)) (pv 3) pe_int (fun _ _ => rfl)) (pa_cons (pe_ix (ixt (K := K)) (pv 3) pe_int (fun _ _ => rfl)) (pa_cons (pe_ix (ixt (K := K)) (pv 3) pe_int (fun _ _ => rfl)) pa_nil)))))))
      pss_nil))
      (pss_cons (ps_cut (ps_if (pt_cmpR op_eq (pv 1) pe_int (nomark _))
      (pss_one (ps_set (i := 3) sc_l_pair_of.nd rfl (Or.inl rfl) (pe_tup (pa_cons (pe_ix (ixt (K := K)) (pv 3) pe_int (fun _ _ => rfl)) (pa_cons (pe_ix (ixt (K := K)) (pv 2) pe_int (fun _ _ => rfl)) (pa_cons (pe_ix (ixt (K := K)) (pv 3) pe_int (fun _ _ => rfl)) (pa_cons (pe_ix (ixt (K := K)) (pv 3) pe_int (fun _ _ => rfl)) pa_nil)))))))
      pss_nil))
      (pss_cons (ps_cut (ps_if (pt_cmpR op_eq (pv 1) pe_int (nomark _))
      (pss_one (ps_set (i := 3) sc_l_pair_of.nd rfl (Or.inl rfl) (pe_tup (pa_cons (pe_ix (ixt (K := K)) (pv 2) pe_int (fun _ _ => rfl)) (pa_cons (pe_ix (ixt (K := K)) (pv 3) pe_int (fun _ _ => rfl)) (pa_cons (pe_ix (ixt (K := K)) (pv 3) pe_int (fun _ _ => rfl)) (pa_cons (pe_ix (ixt (K := K)) (pv 3) pe_int (fun _ _ => rfl)) pa_nil)))))))
      pss_nil))
      (pss_cons (ps_cut (ps_if (pt_cmpR op_eq (pv 1) pe_int (nomark _))
      (pss_one (ps_set (i := 3) sc_l_pair_of.nd rfl (Or.inl rfl) (pe_tup (pa_cons (pe_ix (ixt (K := K)) (pv 2) pe_int (fun _ _ => rfl)) (pa_cons (pe_ix (ixt (K := K)) (pv 2) pe_int (fun _ _ => rfl)) (pa_cons (pe_ix (ixt (K := K)) (pv 3) pe_int (fun _ _ => rfl)) (pa_cons (pe_ix (ixt (K := K)) (pv 3) pe_int (fun _ _ => rfl)) pa_nil)))))))
      pss_nil))
      (pss_cons (ps_cut (ps_if (pt_not (pt_val (pe_call (ok_l_some T) (hr.mono (by decide)) rfl T.g_l_some T.f_l_some.kp B2 B2v pass0 (pa_cons (pe_ix (ixt (K := K)) (pv 3) pe_int (fun _ _ => rfl)) (pa_cons (pe_ix (ixt (K := K)) (pv 3) pe_int (fun _ _ => rfl)) (pa_cons (pe_ix (ixt (K := K)) (pv 3) pe_int (fun _ _ => rfl)) (pa_cons (pe_ix (ixt (K := K)) (pv 3) pe_int (fun _ _ => rfl)) pa_nil)))))))
      (pss_one (ps_set (i := 3) sc_l_pair_of.nd rfl (Or.inl rfl) (pe_tup (pa_cons (pe_ix (ixt (K := K)) (pv 3) pe_int (fun _ _ => rfl)) (pa_cons (pe_ix (ixt (K := K)) (pv 3) pe_int (fun _ _ => rfl)) (pa_cons pe_bl (pa_cons pe_bl pa_nil)))))))
      pss_nil))
      (pss_one (ps_ret (pe_tup (pa_cons (pv 2) (pa_cons (pv 3) pa_nil))))))))))), ?_⟩
    refine ⟨_, rfl, h, n, _, rfl, hh, by omega, by decide, by decide +kernel, fun d H1 d0 d1 hh1 k1 => ?_⟩
    refine ⟨_, rfl, h, _, rfl, hh1, by omega, fun p oe of oi oj H2 E2 hh2 k2 => ?_⟩
    refine ⟨_, rfl, h, _, rfl, hh2, by omega, fun q ea eb ia ib H4 E4 hh4 k4 => ⟨_, _, _, rfl, ?_⟩⟩
    obtain ⟨⟨wa, wb, ho4, oa4, ob4⟩, so⟩ := E2.kp hh2 k4
    obtain ⟨⟨va, vb, ht, ta, tb⟩, _⟩ := E4
    have K4 : Kp h H H4 := (k1.trans k2).trans k4
    have hh4' : HandAt H4 h (n + 19) := hh4.mono (by omega)
    clear hh1 hh2 hh4 k1 k2 k4 E2 hh
    have s5 : Same H4 H4 := Same.refl _
    have ho := ho4
    have oa := oa4
    have ob := ob4
    refine ⟨fun σ' H' => Same H4 H' ∧ ∃ (q : Addr) (va vb : V) (ea eb : Option Q2) (ia ib : Bool), σ' = [some (.ref h), some (.int d), some (.ref p), some (.ref q)] ∧ H' q = some (.tup [va, vb, .bl ia, .bl ib]) ∧ EndV 140 H' va ea ∧ EndV 140 H' vb eb, ?_, ?_⟩
    · refine ⟨_, rfl, rfl, _, rfl, ?_⟩
      refine ite2 (fun _ => ?_) (fun _ => ?_)
      · refine ⟨_, rfl, _, _, _, _, rfl, rfl, SqT.of ho, rfl, _, rfl, _, _, _, _, rfl, rfl, SqT.of ht, rfl, _, rfl, _, _, _, _, rfl, rfl, SqT.of ht, rfl, _, rfl, _, _, _, _, rfl, rfl, SqT.of ht, rfl, by show 4 ≤ sizeLine; decide, fun r nr => ?_⟩
        exact ⟨s5.up nr, r, _, _, _, _, _, _, rfl, upd_same, ob.same (same1 nr), tb.same (same1 nr)⟩
      · exact ⟨s5, q, va, vb, ea, eb, ia, ib, rfl, ht, ta, tb⟩
    clear ht ta tb ho oa ob s5
    rintro σ' H5 ⟨s5, q, va, vb, ea, eb, ia, ib, rfl, ht, ta, tb⟩
    have ho := s5 _ _ ho4
    have oa := oa4.same s5
    have ob := ob4.same s5
    refine ⟨fun σ' H' => Same H4 H' ∧ ∃ (q : Addr) (va vb : V) (ea eb : Option Q2) (ia ib : Bool), σ' = [some (.ref h), some (.int d), some (.ref p), some (.ref q)] ∧ H' q = some (.tup [va, vb, .bl ia, .bl ib]) ∧ EndV 140 H' va ea ∧ EndV 140 H' vb eb, ?_, ?_⟩
    · refine ⟨_, rfl, rfl, _, rfl, ?_⟩
      refine ite2 (fun _ => ?_) (fun _ => ?_)
      · refine ⟨_, rfl, _, _, _, _, rfl, rfl, SqT.of ht, rfl, _, rfl, _, _, _, _, rfl, rfl, SqT.of ho, rfl, _, rfl, _, _, _, _, rfl, rfl, SqT.of ht, rfl, _, rfl, _, _, _, _, rfl, rfl, SqT.of ht, rfl, by show 4 ≤ sizeLine; decide, fun r nr => ?_⟩
        exact ⟨s5.up nr, r, _, _, _, _, _, _, rfl, upd_same, ta.same (same1 nr), oa.same (same1 nr)⟩
      · exact ⟨s5, q, va, vb, ea, eb, ia, ib, rfl, ht, ta, tb⟩
    clear ht ta tb ho oa ob s5
    rintro σ' H5 ⟨s5, q, va, vb, ea, eb, ia, ib, rfl, ht, ta, tb⟩
    have ho := s5 _ _ ho4
    have oa := oa4.same s5
    have ob := ob4.same s5
    refine ⟨fun σ' H' => Same H4 H' ∧ ∃ (q : Addr) (va vb : V) (ea eb : Option Q2) (ia ib : Bool), σ' = [some (.ref h), some (.int d), some (.ref p), some (.ref q)] ∧ H' q = some (.tup [va, vb, .bl ia, .bl ib]) ∧ EndV 140 H' va ea ∧ EndV 140 H' vb eb, ?_, ?_⟩
    · refine ⟨_, rfl, rfl, _, rfl, ?_⟩
      refine ite2 (fun _ => ?_) (fun _ => ?_)
      · refine ⟨_, rfl, _, _, _, _, rfl, rfl, SqT.of ho, rfl, _, rfl, _, _, _, _, rfl, rfl, SqT.of ht, rfl, _, rfl, _, _, _, _, rfl, rfl, SqT.of ht, rfl, _, rfl, _, _, _, _, rfl, rfl, SqT.of ht, rfl, by show 4 ≤ sizeLine; decide, fun r nr => ?_⟩
        exact ⟨s5.up nr, r, _, _, _, _, _, _, rfl, upd_same, oa.same (same1 nr), tb.same (same1 nr)⟩
      · exact ⟨s5, q, va, vb, ea, eb, ia, ib, rfl, ht, ta, tb⟩
    clear ht ta tb ho oa ob s5
    rintro σ' H5 ⟨s5, q, va, vb, ea, eb, ia, ib, rfl, ht, ta, tb⟩
    have ho := s5 _ _ ho4
    have oa := oa4.same s5
    have ob := ob4.same s5
    refine ⟨fun σ' H' => Same H4 H' ∧ ∃ (q : Addr) (va vb : V) (ea eb : Option Q2) (ia ib : Bool), σ' = [some (.ref h), some (.int d), some (.ref p), some (.ref q)] ∧ H' q = some (.tup [va, vb, .bl ia, .bl ib]) ∧ EndV 140 H' va ea ∧ EndV 140 H' vb eb, ?_, ?_⟩
    · refine ⟨_, rfl, rfl, _, rfl, ?_⟩
      refine ite2 (fun _ => ?_) (fun _ => ?_)
      · refine ⟨_, rfl, _, _, _, _, rfl, rfl, SqT.of ho, rfl, _, rfl, _, _, _, _, rfl, rfl, SqT.of ho, rfl, _, rfl, _, _, _, _, rfl, rfl, SqT.of ht, rfl, _, rfl, _, _, _, _, rfl, rfl, SqT.of ht, rfl, by show 4 ≤ sizeLine; decide, fun r nr => ?_⟩
        exact ⟨s5.up nr, r, _, _, _, _, _, _, rfl, upd_same, oa.same (same1 nr), ob.same (same1 nr)⟩
      · exact ⟨s5, q, va, vb, ea, eb, ia, ib, rfl, ht, ta, tb⟩
    clear ht ta tb ho oa ob s5
    rintro σ' H5 ⟨s5, q, va, vb, ea, eb, ia, ib, rfl, ht, ta, tb⟩
    have ho := s5 _ _ ho4
    have oa := oa4.same s5
    have ob := ob4.same s5
    refine ⟨fun σ' H' => Same H5 H' ∧ ∃ (q : Addr) (ea eb : Option Q2) (ia ib : Bool), σ' = [some (.ref h), some (.int d), some (.ref p), some (.ref q)] ∧ EndsAt H' q ea eb ia ib, ?_, ?_⟩
    · refine ⟨_, rfl, _, _, _, _, rfl, rfl, SqT.of ht, rfl, _, rfl, _, _, _, _, rfl, rfl, SqT.of ht, rfl, _, rfl, _, _, _, _, rfl, rfl, SqT.of ht, rfl, _, rfl, _, _, _, _, rfl, rfl, SqT.of ht, rfl, va, vb, ea, eb, ia, ib, rfl, ta.mono (by decide), tb.mono (by decide), _, rfl, ?_⟩
      cases e : someB ea eb ia ib with
      | true => exact iteF ⟨Same.refl _, q, ea, eb, ia, ib, rfl, ⟨⟨va, vb, ht, ta, tb⟩, e⟩⟩
      | false =>
        refine iteT ?_
        refine ⟨_, rfl, _, _, _, _, rfl, rfl, SqT.of ht, rfl, _, rfl, _, _, _, _, rfl, rfl, SqT.of ht, rfl, by show 4 ≤ sizeLine; decide, fun r nr => ?_⟩
        refine ⟨same1 nr, r, eb, ea, true, true, rfl, ⟨⟨vb, va, upd_same, tb.same (same1 nr), ta.same (same1 nr)⟩, ?_⟩⟩
        cases ea with
        | none => cases e
        | some x =>
          cases eb with
          | none => cases e
          | some y =>
            have e : (ltq x y || (eqq x y && ia && ib)) = false := e
            show (ltq y x || (eqq y x && true && true)) = true
            rw [eqq_comm y x]
            rcases lt_tri x y with ⟨h1, h2, h3⟩ | ⟨h1, h2, h3⟩ | ⟨h1, h2, h3⟩
            · rw [h1] at e; cases e
            · rw [h2]; simp
            · rw [h3]; rfl
    rintro σ' H6 ⟨s6, q, fe, ff, fi, fj, rfl, Eq⟩
    refine ⟨_, rfl, _, rfl, by show 2 ≤ sizeLine; decide, fun r nr => ?_⟩
    exact k r p q _ _ _ _ _ _ _ _ _ upd_same (⟨⟨wa, wb, up1 nr (s6 _ _ ho), (oa.same s6).same (same1 nr), (ob.same s6).same (same1 nr)⟩, so⟩) (Eq.same (same1 nr)) (((hh4'.same s5).same s6).up nr) (((K4.trans (Kp.same s5)).trans (Kp.same s6)).up nr)
theorem ok_Measure_plus {P : Program} {w : World} {K : PySem.W.Frag} {mg : Str → Option Value} {base : Heap} {φ : Fds} (T : Txt K mg φ) : FnOk P w K mg base CX0 4 (He.fAd K ("Measure", some "plus")) φ.Measure_plus p_Measure_plus (sp_bin2 (He.ga K "Measure") (fun t u t' u' => t * u' + t' * u) (fun t u t' u' => u * u')) := by
  obtain ⟨_, B0v, B0⟩ := b_Measure_init_3 T
  refine T.f_Measure_plus.ok sc_Measure_plus (fun vs H Q E h => ?_) (fun cdv A outer s H vs Q E hr h => ?_)
  · obtain ⟨p, q, t, u, t', u', rfl, ⟨dp, hp⟩, ⟨dq, hq⟩, hu, hu', st, su, st', su', sg, k⟩ := h; rfl
  · obtain ⟨p, q, t, u, t', u', rfl, ⟨dp, hp⟩, ⟨dq, hq⟩, hu, hu', st, su, st', su', sg, k⟩ := h
    refine ⟨_, PSs.nox (pss_one (ps_ret (pe_make T.mk_Measure (ok_Measure_init T) (hr.mono (by decide)) rfl T.g_Measure B0 B0v pass0 (pa_cons (pe_op op_add (pe_op op_mulA (fldK (K := K) (pv 0) rfl) (fldK (K := K) (pv 1) rfl)) (pe_op op_mulA (fldK (K := K) (pv 1) rfl) (fldK (K := K) (pv 0) rfl))) (pa_cons (pe_op op_mulA (fldK (K := K) (pv 0) rfl) (fldK (K := K) (pv 1) rfl)) pa_nil))))), ?_⟩
    refine ⟨_, rfl, _, _, _, _, _, rfl, hp, T.cl_Measure, T.na_Measure_top, mf_top _ _, _, rfl, _, _, _, _, _, rfl, hq, T.cl_Measure, T.na_Measure_bottom, mf_bottom _ _, _, _, rfl, rfl, st.cmul su' (by decide) (by decide) (by decide), _, rfl, _, _, _, _, _, rfl, hq, T.cl_Measure, T.na_Measure_top, mf_top _ _, _, rfl, _, _, _, _, _, rfl, hp, T.cl_Measure, T.na_Measure_bottom, mf_bottom _ _, _, _, rfl, rfl, st'.cmul su (by decide) (by decide) (by decide), _, _, rfl, rfl, _, rfl, _, _, _, _, _, rfl, hp, T.cl_Measure, T.na_Measure_bottom, mf_bottom _ _, _, rfl, _, _, _, _, _, rfl, hq, T.cl_Measure, T.na_Measure_bottom, mf_bottom _ _, _, _, rfl, rfl, su.cmul su' (by decide) (by decide) (by decide), ?_⟩
    intro x dx nx nd ne
    refine ⟨x, dx, _, _, rfl, upd_same, Int.mul_ne_zero (by omega) (by omega), sg.log (by decide) (by decide), fun t2 u2 H' fr hx kp => ⟨rfl, ?_⟩⟩
    exact k x t2 u2 H' nx (made_same nx nd kp) ⟨_, hx⟩ fr
theorem ok_Measure_minus {P : Program} {w : World} {K : PySem.W.Frag} {mg : Str → Option Value} {base : Heap} {φ : Fds} (T : Txt K mg φ) : FnOk P w K mg base CX0 4 (He.fAd K ("Measure", some "minus")) φ.Measure_minus p_Measure_minus (sp_bin2 (He.ga K "Measure") (fun t u t' u' => t * u' - t' * u) (fun t u t' u' => u * u')) := by
  obtain ⟨_, B0v, B0⟩ := b_Measure_init_3 T
  refine T.f_Measure_minus.ok sc_Measure_minus (fun vs H Q E h => ?_) (fun cdv A outer s H vs Q E hr h => ?_)
  · obtain ⟨p, q, t, u, t', u', rfl, ⟨dp, hp⟩, ⟨dq, hq⟩, hu, hu', st, su, st', su', sg, k⟩ := h; rfl
  · obtain ⟨p, q, t, u, t', u', rfl, ⟨dp, hp⟩, ⟨dq, hq⟩, hu, hu', st, su, st', su', sg, k⟩ := h
    refine ⟨_, PSs.nox (pss_one (ps_ret (pe_make T.mk_Measure (ok_Measure_init T) (hr.mono (by decide)) rfl T.g_Measure B0 B0v pass0 (pa_cons (pe_op op_sub (pe_op op_mulA (fldK (K := K) (pv 0) rfl) (fldK (K := K) (pv 1) rfl)) (pe_op op_mulA (fldK (K := K) (pv 1) rfl) (fldK (K := K) (pv 0) rfl))) (pa_cons (pe_op op_mulA (fldK (K := K) (pv 0) rfl) (fldK (K := K) (pv 1) rfl)) pa_nil))))), ?_⟩
    refine ⟨_, rfl, _, _, _, _, _, rfl, hp, T.cl_Measure, T.na_Measure_top, mf_top _ _, _, rfl, _, _, _, _, _, rfl, hq, T.cl_Measure, T.na_Measure_bottom, mf_bottom _ _, _, _, rfl, rfl, st.cmul su' (by decide) (by decide) (by decide), _, rfl, _, _, _, _, _, rfl, hq, T.cl_Measure, T.na_Measure_top, mf_top _ _, _, rfl, _, _, _, _, _, rfl, hp, T.cl_Measure, T.na_Measure_bottom, mf_bottom _ _, _, _, rfl, rfl, st'.cmul su (by decide) (by decide) (by decide), _, _, rfl, rfl, _, rfl, _, _, _, _, _, rfl, hp, T.cl_Measure, T.na_Measure_bottom, mf_bottom _ _, _, rfl, _, _, _, _, _, rfl, hq, T.cl_Measure, T.na_Measure_bottom, mf_bottom _ _, _, _, rfl, rfl, su.cmul su' (by decide) (by decide) (by decide), ?_⟩
    intro x dx nx nd ne
    refine ⟨x, dx, _, _, rfl, upd_same, Int.mul_ne_zero (by omega) (by omega), sg.log (by decide) (by decide), fun t2 u2 H' fr hx kp => ⟨rfl, ?_⟩⟩
    exact k x t2 u2 H' nx (made_same nx nd kp) ⟨_, hx⟩ fr
theorem ok_Measure_parted {P : Program} {w : World} {K : PySem.W.Frag} {mg : Str → Option Value} {base : Heap} {φ : Fds} (T : Txt K mg φ) : FnOk P w K mg base CX0 4 (He.fAd K ("Measure", some "parted")) φ.Measure_parted p_Measure_parted (sp_part2 (He.ga K "Measure")) := by
  obtain ⟨_, B0v, B0⟩ := b_Measure_init_3 T
  refine T.f_Measure_parted.ok sc_Measure_parted (fun vs H Q E h => ?_) (fun cdv A outer s H vs Q E hr h => ?_)
  · obtain ⟨p, t, u, m, rfl, ⟨dp, hp⟩, hu, hm, st, su, sm, sg, k⟩ := h; rfl
  · obtain ⟨p, t, u, m, rfl, ⟨dp, hp⟩, hu, hm, st, su, sm, sg, k⟩ := h
    refine ⟨_, PSs.nox (pss_one (ps_ret (pe_make T.mk_Measure (ok_Measure_init T) (hr.mono (by decide)) rfl T.g_Measure B0 B0v pass0 (pa_cons (fldK (K := K) (pv 0) rfl) (pa_cons (pe_op op_mulA (fldK (K := K) (pv 0) rfl) (pv 1)) pa_nil))))), ?_⟩
    refine ⟨_, rfl, _, _, _, _, _, rfl, hp, T.cl_Measure, T.na_Measure_top, mf_top _ _, _, rfl, _, _, _, _, _, rfl, hp, T.cl_Measure, T.na_Measure_bottom, mf_bottom _ _, _, rfl, _, _, rfl, rfl, su.cmul sm (by decide) (by decide) (by decide), ?_⟩
    intro x dx nx nd ne
    refine ⟨x, dx, _, _, rfl, upd_same, Int.mul_ne_zero (by omega) hm, sg.log (by decide) (by decide), fun t2 u2 H' fr hx kp => ⟨rfl, ?_⟩⟩
    exact k x t2 u2 H' nx (made_same nx nd kp) ⟨_, hx⟩ fr
theorem ok_some_measure {P : Program} {w : World} {K : PySem.W.Frag} {mg : Str → Option Value} {base : Heap} {φ : Fds} (T : Txt K mg φ) : FnOk P w K mg base CX0 5 (He.fAd K ("some_measure", none)) φ.some_measure p_some_measure (sp_somem (He.ga K "Measure") (He.ga K "Stretch")) := by
  obtain ⟨_, B0v, B0⟩ := b_Measure_init_2 T
  obtain ⟨_, B1v, B1⟩ := b_Measure_minus_2 T
  obtain ⟨_, B2v, B2⟩ := b_Measure_plus_2 T
  obtain ⟨_, B3v, B3⟩ := b_Measure_parted_1 T
  refine T.f_some_measure.ok sc_some_measure (fun vs H Q E h => ?_) (fun cdv A outer s H vs Q E hr h => ?_)
  · obtain ⟨p, lo, hi, li, hj, rfl, S, so, k⟩ := h; rfl
  · obtain ⟨p, lo, hi, li, hj, rfl, S, so, k⟩ := h
    refine ⟨_, PSs.nox (pss_cons (ps_if (pt_val (fldK (K := K) (pv 0) rfl))
      (pss_one (ps_ret (fldK (K := K) (pv 0) rfl)))
      pss_nil)
      (pss_cons (ps_if (pt_val (fldK (K := K) (pv 0) rfl))
      (pss_one (ps_ret (fldK (K := K) (pv 0) rfl)))
      pss_nil)
      (pss_cons (ps_if (PW.pt (pw_and (pt_cmpR op_isN (fldK (K := K) (pv 0) rfl) pe_non (nomark _)) (pw_and1 (pt_cmpR op_isN (fldK (K := K) (pv 0) rfl) pe_non (nomark _)))))
      (pss_one (ps_ret (pe_make T.mk_Measure (ok_Measure_init T) (hr.mono (by decide)) rfl T.g_Measure B0 B0v pass0 (pa_cons pe_int pa_nil))))
      pss_nil)
      (pss_cons (ps_if (pt_cmpR op_isN (fldK (K := K) (pv 0) rfl) pe_non (nomark _))
      (pss_one (ps_ret (pe_meth (fldK (K := K) (pv 0) rfl) T.cl_Measure T.me_Measure_minus (ok_Measure_minus T) (hr.mono (by decide)) B1 B1v pass0 (pa_cons (pe_make T.mk_Measure (ok_Measure_init T) (hr.mono (by decide)) rfl T.g_Measure B0 B0v pass0 (pa_cons pe_int pa_nil)) pa_nil))))
      pss_nil)
      (pss_cons (ps_if (pt_cmpR op_isN (fldK (K := K) (pv 0) rfl) pe_non (nomark _))
      (pss_one (ps_ret (pe_meth (fldK (K := K) (pv 0) rfl) T.cl_Measure T.me_Measure_plus (ok_Measure_plus T) (hr.mono (by decide)) B2 B2v pass0 (pa_cons (pe_make T.mk_Measure (ok_Measure_init T) (hr.mono (by decide)) rfl T.g_Measure B0 B0v pass0 (pa_cons pe_int pa_nil)) pa_nil))))
      pss_nil)
      (pss_one (ps_ret (pe_meth0 (pe_meth (fldK (K := K) (pv 0) rfl) T.cl_Measure T.me_Measure_plus (ok_Measure_plus T) (hr.mono (by decide)) B2 B2v pass0 (pa_cons (fldK (K := K) (pv 0) rfl) pa_nil)) T.cl_Measure T.me_Measure_parted (ok_Measure_parted T) (hr.mono (by decide)) B3 B3v pass0)))))))), ?_⟩
    have S0 := S
    obtain ⟨⟨dp, l, h, hp, ml, mh⟩, l1, l2, n1, n2⟩ := S
    refine ⟨_, rfl, _, _, _, _, _, rfl, hp, T.cl_Stretch, T.na_Stretch_low_in, sf_low_in _ _ _ _, _, rfl, ?_⟩
    cases li with
    | true =>
      refine iteT ?_
      cases lo with
      | none => cases n1 rfl
      | some a =>
        obtain ⟨pa, rfl, ma⟩ := ml
        refine ⟨_, rfl, _, _, _, _, _, rfl, hp, T.cl_Stretch, T.na_Stretch_low, sf_low _ _ _ _, k pa a H (Same.refl _) ⟨ma, l1.pos, l1.s1.mono (by decide), l1.s2.mono (by decide), ?_, ?_⟩⟩
        · show (ltq a a || (true && eqq a a)) = true
          rw [eqq_self]; simp
        · cases hi with
          | none => rfl
          | some b =>
            show (ltq a b || (hj && eqq a b)) = true
            have so : (ltq a b || (eqq a b && true && hj)) = true := so
            revert so
            cases ltq a b <;> cases eqq a b <;> cases hj <;> simp
    | false =>
      refine iteF ?_
      refine ⟨_, rfl, _, _, _, _, _, rfl, hp, T.cl_Stretch, T.na_Stretch_high_in, sf_high_in _ _ _ _, _, rfl, ?_⟩
      cases hj with
      | true =>
        refine iteT ?_
        cases hi with
        | none => cases n2 rfl
        | some b =>
          obtain ⟨pb, rfl, mb⟩ := mh
          refine ⟨_, rfl, _, _, _, _, _, rfl, hp, T.cl_Stretch, T.na_Stretch_high, sf_high _ _ _ _, k pb b H (Same.refl _) ⟨mb, l2.pos, l2.s1.mono (by decide), l2.s2.mono (by decide), ?_, ?_⟩⟩
          · cases lo with
            | none => rfl
            | some a =>
              show (ltq a b || (false && eqq a b)) = true
              have so : (ltq a b || (eqq a b && false && true)) = true := so
              revert so
              cases ltq a b <;> cases eqq a b <;> simp
          · show (ltq b b || (true && eqq b b)) = true
            rw [eqq_self]; simp
      | false =>
        refine iteF ?_
        refine ⟨_, rfl, _, _, _, _, _, rfl, hp, T.cl_Stretch, T.na_Stretch_low, sf_low _ _ _ _, rfl, _, rfl, ?_⟩
        cases lo with
        | none =>
          cases ml
          refine iteT ?_
          refine ⟨_, rfl, _, _, _, _, _, rfl, hp, T.cl_Stretch, T.na_Stretch_high, sf_high _ _ _ _, rfl, _, rfl, ?_⟩
          cases hi with
          | none =>
            cases mh
            refine iteT ?_
            refine fun x1 dx1 nx1 nd1 ne1 => ⟨x1, dx1, _, _, rfl, upd_same, by decide, by decide +kernel, fun t1 u1 G1 fr1 hx1 kp1 => ⟨rfl, ?_⟩⟩
            have z : t1.natAbs ≤ 0 := fr1.lt
            have y : u1.natAbs ≤ 1 := fr1.lu
            exact k x1 (t1, u1) G1 (made_same nx1 nd1 kp1) ⟨⟨_, hx1⟩, fr1.pos, (show Sz 10 t1 by show t1.natAbs < 2 ^ 10; omega).mono (by decide), (show Sz 10 u1 by show u1.natAbs < 2 ^ 10; omega).mono (by decide), rfl, rfl⟩
          | some b =>
            obtain ⟨pb, rfl, mb⟩ := mh
            have mb0 := mb
            obtain ⟨db, hb⟩ := mb
            refine iteF ?_
            refine ⟨_, rfl, _, _, _, _, _, rfl, hp, T.cl_Stretch, T.na_Stretch_low, sf_low _ _ _ _, rfl, _, rfl, iteT ?_⟩
            refine ⟨_, rfl, _, _, _, _, _, rfl, hp, T.cl_Stretch, T.na_Stretch_high, sf_high _ _ _ _, pb, _, _, rfl, hb, mf_no _ _ (by decide +kernel) (by decide +kernel), fun x1 dx1 nx1 nd1 ne1 => ⟨x1, dx1, _, _, rfl, upd_same, by decide, by decide +kernel, fun t1 u1 G1 fr1 hx1 kp1 => ⟨rfl, ?_⟩⟩⟩
            have s1 := made_same nx1 nd1 kp1
            have y1 : Sz 10 t1 := by have : t1.natAbs ≤ 1 := fr1.lt; show t1.natAbs < 2 ^ 10; omega
            have y2 : Sz 10 u1 := by have : u1.natAbs ≤ 1 := fr1.lu; show u1.natAbs < 2 ^ 10; omega
            refine ⟨pb, x1, b.1, b.2, t1, u1, rfl, mb0.same s1, ⟨_, hx1⟩, l2.pos, fr1.pos, l2.s1.mono (by decide), l2.s2.mono (by decide), y1.mono (by decide), y2.mono (by decide), (l2.s2.mul y2).mono (by decide), fun r t2 u2 H2 nr s2 m2 fr2 => ?_⟩
            have w1 : Sz 15000 t2 := (((l2.s1.mul y2).mono (show 4000 + 10 ≤ 4010 by decide)).sub ((y1.mul l2.s2).mono (show 10 + 4000 ≤ 4010 by decide))).le fr2.lt |>.mono (by decide)
            have w2 : Sz 15000 u2 := ((l2.s2.mul y2).le fr2.lu).mono (by decide)
            refine k r (t2, u2) H2 (s1.trans s2) ⟨m2, fr2.pos, w1, w2, rfl, ?_⟩
            show (ltq (t2, u2) b || (false && eqq (t2, u2) b)) = true
            rw [below_one l2.pos fr1 fr2]; rfl
        | some a =>
          obtain ⟨pa, rfl, ma⟩ := ml
          have ma0 := ma
          obtain ⟨da, ha⟩ := ma
          refine iteF ?_
          refine iteF ?_
          refine ⟨_, rfl, _, _, _, _, _, rfl, hp, T.cl_Stretch, T.na_Stretch_low, sf_low _ _ _ _, rfl, _, rfl, iteF ?_⟩
          refine ⟨_, rfl, _, _, _, _, _, rfl, hp, T.cl_Stretch, T.na_Stretch_high, sf_high _ _ _ _, rfl, _, rfl, ?_⟩
          cases hi with
          | none =>
            cases mh
            refine iteT ?_
            refine ⟨_, rfl, _, _, _, _, _, rfl, hp, T.cl_Stretch, T.na_Stretch_low, sf_low _ _ _ _, pa, _, _, rfl, ha, mf_no _ _ (by decide +kernel) (by decide +kernel), fun x1 dx1 nx1 nd1 ne1 => ⟨x1, dx1, _, _, rfl, upd_same, by decide, by decide +kernel, fun t1 u1 G1 fr1 hx1 kp1 => ⟨rfl, ?_⟩⟩⟩
            have s1 := made_same nx1 nd1 kp1
            have y1 : Sz 10 t1 := by have : t1.natAbs ≤ 1 := fr1.lt; show t1.natAbs < 2 ^ 10; omega
            have y2 : Sz 10 u1 := by have : u1.natAbs ≤ 1 := fr1.lu; show u1.natAbs < 2 ^ 10; omega
            refine ⟨pa, x1, a.1, a.2, t1, u1, rfl, ma0.same s1, ⟨_, hx1⟩, l1.pos, fr1.pos, l1.s1.mono (by decide), l1.s2.mono (by decide), y1.mono (by decide), y2.mono (by decide), (l1.s2.mul y2).mono (by decide), fun r t2 u2 H2 nr s2 m2 fr2 => ?_⟩
            have w1 : Sz 15000 t2 := (((l1.s1.mul y2).mono (show 4000 + 10 ≤ 4010 by decide)).add ((y1.mul l1.s2).mono (show 10 + 4000 ≤ 4010 by decide))).le fr2.lt |>.mono (by decide)
            have w2 : Sz 15000 u2 := ((l1.s2.mul y2).le fr2.lu).mono (by decide)
            refine k r (t2, u2) H2 (s1.trans s2) ⟨m2, fr2.pos, w1, w2, ?_, rfl⟩
            show (ltq a (t2, u2) || (false && eqq a (t2, u2))) = true
            rw [above_one l1.pos fr1 fr2]; rfl
          | some b =>
            obtain ⟨pb, rfl, mb⟩ := mh
            have mb0 := mb
            obtain ⟨db, hb⟩ := mb
            refine iteF ?_
            refine ⟨_, rfl, _, _, _, _, _, rfl, hp, T.cl_Stretch, T.na_Stretch_low, sf_low _ _ _ _, pa, _, _, rfl, ha, mf_no _ _ (by decide +kernel) (by decide +kernel), _, rfl, _, _, _, _, _, rfl, hp, T.cl_Stretch, T.na_Stretch_high, sf_high _ _ _ _, pa, pb, a.1, a.2, b.1, b.2, rfl, ma0, mb0, l1.pos, l2.pos, l1.s1.mono (by decide), l1.s2.mono (by decide), l2.s1.mono (by decide), l2.s2.mono (by decide), (l1.s2.mul l2.s2).mono (by decide), fun r t2 u2 H2 nr s2 m2 fr2 => ?_⟩
            have w1 : Sz 8001 t2 := (((l1.s1.mul l2.s2).add (l2.s1.mul l1.s2))).le fr2.lt |>.mono (by decide)
            have w2 : Sz 8000 u2 := ((l1.s2.mul l2.s2).le fr2.lu).mono (by decide)
            have m20 := m2
            obtain ⟨dr, hr2⟩ := m2
            have y2 : Sz 10 (2 : Int) := by decide
            refine ⟨r, _, _, rfl, hr2, mf_no _ _ (by decide +kernel) (by decide +kernel), r, t2, u2, 2, rfl, m20, fr2.pos, by decide, w1.mono (by decide), w2.mono (by decide), y2.mono (by decide), (w2.mul y2).mono (by decide), fun r3 t3 u3 H3 nr3 s3 m3 fr3 => ?_⟩
            have so : (ltq a b || (eqq a b && false && false)) = true := so
            have lt : ltq a b = true := by revert so; cases ltq a b <;> cases eqq a b <;> simp
            obtain ⟨g1, g2⟩ := mid_lt l1.pos l2.pos lt fr2 fr3
            refine k r3 (t3, u3) H3 (s2.trans s3) ⟨m3, fr3.pos, (w1.le fr3.lt).mono (by decide), ((w2.mul y2).le fr3.lu).mono (by decide), ?_, ?_⟩
            · show (ltq a (t3, u3) || (false && eqq a (t3, u3))) = true
              rw [g1]; rfl
            · show (ltq (t3, u3) b || (false && eqq (t3, u3) b)) = true
              rw [g2]; rfl
theorem ok_Stretch_meets {P : Program} {w : World} {K : PySem.W.Frag} {mg : Str → Option Value} {base : Heap} {φ : Fds} (T : Txt K mg φ) : FnOk P w K mg base CX0 6 (He.fAd K ("Stretch", some "meets")) φ.Stretch_meets p_Stretch_meets (sp_meets (He.ga K "Measure") (He.ga K "Stretch")) := by
  obtain ⟨_, B0v, B0⟩ := b_Stretch_cut_2 T
  refine T.f_Stretch_meets.ok sc_Stretch_meets (fun vs H Q E h => ?_) (fun cdv A outer s H vs Q E hr h => ?_)
  · obtain ⟨p, q, m1, m2, n1, n2, i1, i2, j1, j2, rfl, sp, sq, k⟩ := h; rfl
  · obtain ⟨p, q, m1, m2, n1, n2, i1, i2, j1, j2, rfl, sp, sq, k⟩ := h
    refine ⟨_, PSs.nox (pss_one (ps_ret (pe_cmpR op_notN (pe_meth (pv 0) T.cl_Stretch T.me_Stretch_cut (ok_Stretch_cut T) (hr.mono (by decide)) B0 B0v pass0 (pa_cons (pv 1) pa_nil)) pe_non (nomark _)))), ?_⟩
    obtain ⟨dx, fs, hx, no⟩ := sp.raw (m := "cut") (by decide +kernel) (by decide +kernel) (by decide +kernel) (by decide +kernel)
    refine ⟨_, rfl, p, dx, fs, rfl, hx, no, _, rfl, p, q, m1, m2, n1, n2, i1, i2, j1, j2, rfl, sp, sq, fun v H1 s1 c => ⟨rfl, ?_⟩⟩
    have k := k H1 s1
    rcases c with ⟨e, r, rfl, _⟩ | ⟨e, rfl⟩
    · rw [e] at k; exact k
    · rw [e] at k; exact k
theorem ok_Stretch_shared {P : Program} {w : World} {K : PySem.W.Frag} {mg : Str → Option Value} {base : Heap} {φ : Fds} (T : Txt K mg φ) : FnOk P w K mg base CX0 6 (He.fAd K ("Stretch", some "shared")) φ.Stretch_shared p_Stretch_shared (sp_shared (He.ga K "Measure") (He.ga K "Stretch")) := by
  obtain ⟨_, B0v, B0⟩ := b_Stretch_cut_2 T
  obtain ⟨_, B1v, B1⟩ := b_some_measure_1 T
  refine T.f_Stretch_shared.ok sc_Stretch_shared (fun vs H Q E h => ?_) (fun cdv A outer s H vs Q E hr h => ?_)
  · obtain ⟨p, q, m1, m2, n1, n2, i1, i2, j1, j2, rfl, sp, sq, k⟩ := h; rfl
  · obtain ⟨p, q, m1, m2, n1, n2, i1, i2, j1, j2, rfl, sp, sq, k⟩ := h
    refine ⟨_, PSs.nox (pss_cons (ps_set (i := 2) sc_Stretch_shared.nd rfl (Or.inl rfl) (pe_meth (pv 0) T.cl_Stretch T.me_Stretch_cut (ok_Stretch_cut T) (hr.mono (by decide)) B0 B0v pass0 (pa_cons (pv 1) pa_nil)))
      (pss_cons (ps_if (pt_cmpR op_isN (pv 2) pe_non (nomark _))
      (pss_one (ps_ret pe_non))
      pss_nil)
      (pss_one (ps_ret (pe_call (ok_some_measure T) (hr.mono (by decide)) rfl T.g_some_measure T.f_some_measure.kp B1 B1v pass0 (pa_cons (pv 2) pa_nil)))))), ?_⟩
    obtain ⟨dx, fs, hx, no⟩ := sp.raw (m := "cut") (by decide +kernel) (by decide +kernel) (by decide +kernel) (by decide +kernel)
    refine ⟨_, rfl, p, dx, fs, rfl, hx, no, _, rfl, p, q, m1, m2, n1, n2, i1, i2, j1, j2, rfl, sp, sq, fun v H1 s1 c => ?_⟩
    refine ⟨_, rfl, rfl, _, rfl, ?_⟩
    rcases c with ⟨e, r, rfl, S⟩ | ⟨e, rfl⟩
    · refine iteF ?_
      have e' : someB (cutLo m1 i1 n1 j1).1 (cutHi m2 i2 n2 j2).1 ((cutLo m1 i1 n1 j1).2 && (cutLo m1 i1 n1 j1).1.isSome) ((cutHi m2 i2 n2 j2).2 && (cutHi m2 i2 n2 j2).1.isSome) = true := by
        revert e
        generalize cutLo m1 i1 n1 j1 = c
        generalize cutHi m2 i2 n2 j2 = d
        obtain ⟨c, i⟩ := c
        obtain ⟨d, j⟩ := d
        cases c <;> cases d <;> simp [someB]
      refine ⟨_, rfl, r, _, _, _, _, rfl, S, e', fun r2 x H2 s2 hd => ?_⟩
      have h := held_cut sp.l1.posO sp.l2.posO sq.l1.posO sq.l2.posO hd
      exact k _ H2 (s1.trans s2) (.inl ⟨e, r2, x, rfl, h.1, h.2⟩)
    · refine iteT ?_
      exact k _ H1 s1 (.inr ⟨e, rfl⟩)
theorem ok_l_beside {P : Program} {w : World} {K : PySem.W.Frag} {mg : Str → Option Value} {base : Heap} {φ : Fds} (T : Txt K mg φ) : FnOk P w K mg base CX0 1 (He.fAd K ("_law_beside", none)) φ.l_beside p_l_beside sp_beside := by
  refine T.f_l_beside.ok sc_l_beside (fun vs H Q E h => ?_) (fun cdv A outer s H vs Q E hr h => ?_)
  · obtain ⟨v, a, s, rfl, wv, hs, ss, k⟩ := h; rfl
  · obtain ⟨v, a, s, rfl, wv, hs, ss, k⟩ := h
    refine ⟨_, PSs.nox (pss_one (ps_ret (pe_lst (pa_cons (pe_tup (pa_cons (pe_op op_sub (pe_op op_mulA (pe_ix (ixt (K := K)) (pv 0) pe_int (fun _ _ => rfl)) (pv 1)) pe_int) (pa_cons (pe_op op_mulA (pe_ix (ixt (K := K)) (pv 0) pe_int (fun _ _ => rfl)) (pv 1)) pa_nil))) (pa_cons (pe_tup (pa_cons (pe_op op_add (pe_op op_mulA (pe_ix (ixt (K := K)) (pv 0) pe_int (fun _ _ => rfl)) (pv 1)) pe_int) (pa_cons (pe_op op_mulA (pe_ix (ixt (K := K)) (pv 0) pe_int (fun _ _ => rfl)) (pv 1)) pa_nil))) pa_nil))))), ?_⟩
    have wv0 := wv
    obtain ⟨p, rfl, hp, ha, s1, s2⟩ := wv
    have MU : CMul a.1 s ∨ CMulW a.1 s := s1.cmul ss (by decide) (by decide) (by decide)
    have MB : CMul a.2 s ∨ CMulW a.2 s := s2.cmul ss (by decide) (by decide) (by decide)
    refine ⟨_, rfl, _, _, _, _, rfl, rfl, SqT.of hp, rfl, _, rfl, _, _, rfl, rfl, MU, _, _, rfl, rfl, _, rfl, _, _, _, _, rfl, rfl, SqT.of hp, rfl, _, rfl, _, _, rfl, rfl, MB, by show 2 ≤ sizeLine; decide, fun q1 n1 => ?_⟩
    have hp1 := up1 (u := .tup [.int (a.1 * s - 1), .int (a.2 * s)]) n1 hp
    refine ⟨_, rfl, _, _, _, _, rfl, rfl, SqT.of hp1, rfl, _, rfl, _, _, rfl, rfl, MU, _, _, rfl, rfl, _, rfl, _, _, _, _, rfl, rfl, SqT.of hp1, rfl, _, rfl, _, _, rfl, rfl, MB, by show 2 ≤ sizeLine; decide, fun q2 n2 => ?_⟩
    refine ⟨by show 2 ≤ sizeLine; decide, fun l nl => ?_⟩
    have z0 : Sz 280 (a.1 * s) := s1.mul ss
    have z1 : Sz 1000 (a.2 * s) := (s2.mul ss).mono (by decide)
    have o1 : Sz 280 (1 : Int) := (show Sz 10 (1 : Int) by decide).mono (by decide)
    have pz : 0 < a.2 * s := Int.mul_pos ha hs
    refine k l _ _ (((same1 n1 : Same H _).up n2).up nl) upd_same rfl fun x hx => ?_
    simp at hx
    rcases hx with rfl | rfl
    · exact ⟨(a.1 * s - 1, a.2 * s), q1, rfl, up1 nl (up1 n2 upd_same), pz, (z0.sub o1).mono (by decide), z1⟩
    · exact ⟨(a.1 * s + 1, a.2 * s), q2, rfl, up1 nl upd_same, pz, (z0.add o1).mono (by decide), z1⟩
theorem ok_l_points {P : Program} {w : World} {K : PySem.W.Frag} {mg : Str → Option Value} {base : Heap} {φ : Fds} (T : Txt K mg φ) : FnOk P w K mg base CX0 3 (He.fAd K ("_law_points", none)) φ.l_points p_l_points (sp_points (SqL K)) := by
  obtain ⟨_, B0v, B0⟩ := b_l_end_of_1 T
  obtain ⟨_, B1v, B1⟩ := b_l_take_2 T
  obtain ⟨_, B2v, B2⟩ := b_l_beside_2 T
  refine T.f_l_points.ok sc_l_points (fun vs H Q E h => ?_) (fun cdv A outer s H vs Q E hr h => ?_)
  · obtain ⟨h, p, n, vs, rfl, hh, hn, hsq, hlen, hvs, k⟩ := h; rfl
  · obtain ⟨h, p, n, vs, rfl, hh, hn, hsq, hlen, hvs, k⟩ := h
    refine ⟨_, PSs.nox (pss_cons (ps_setLc (i := 2) (own := [("_law_end", 5)]) (g := gName 5) rfl sc_l_points.nd rfl rfl (sw_true rfl rfl rfl (by decide +kernel)) (pi_list (pv 1)) (blkOk_by (own := [("_law_end", 5)]) (N := N_l_points) (sc := defScope s_l_points) (by decide +kernel)) (fun _ _ _ _ _ => (pg_name (i := 5) sc_l_points.nd rfl (Or.inl rfl))) (fun _ _ _ _ _ => (pts_one (pt_cmpR op_notN (pv 5) pe_non (nomark _)))) (fun _ _ _ _ _ => (pv 5)))
      (pss_cons (ps_par (i := 3) (j := 4) rfl sc_l_points.nd rfl rfl (by decide) rfl rfl (pa_cons (pe_ix (ixl (K := K)) (pe_lst (pa_cons pe_int (pa_cons (pe_op op_pow pe_int pe_int) pa_nil))) (pe_call (ok_l_take T) (hr.mono (by decide)) rfl T.g_l_take T.f_l_take.kp B1 B1v pass0 (pa_cons (pv 0) (pa_cons pe_int pa_nil))) (fun _ _ => rfl)) (pa_cons (pe_lst (pa_cons (pe_tup (pa_cons pe_int (pa_cons pe_int pa_nil))) (pa_cons (pe_tup (pa_cons (pe_op op_sub pe_int (pe_op op_pow pe_int pe_int)) (pa_cons pe_int pa_nil))) (pa_cons (pe_tup (pa_cons (pe_op op_pow pe_int pe_int) (pa_cons pe_int pa_nil))) (pa_cons (pe_call (ok_l_end_of T) (hr.mono (by decide)) rfl T.g_l_end_of T.f_l_end_of.kp B0 B0v pass0 (pa_cons (pv 0) pa_nil)) pa_nil))))) pa_nil)) (by rfl))
      (pss_cons (ps_for PassesOwn.never rfl (pi_list (pv 2)) (pg_name (i := 5) sc_l_points.nd rfl (Or.inr rfl))
      (pss_cons (ps_set (i := 4) sc_l_points.nd rfl (Or.inl rfl) (pe_op op_cat (pe_op op_cat (pv 4) (pe_lst (pa_cons (pv 5) pa_nil))) (pe_call (ok_l_beside T) (hr.mono (by decide)) rfl T.g_l_beside T.f_l_beside.kp B2 B2v pass0 (pa_cons (pv 5) (pa_cons (pv 3) pa_nil)))))
      (pss_one (ps_set (i := 4) sc_l_points.nd rfl (Or.inl rfl) (pe_op op_cat (pv 4) (pe_lc (own := [("_law_other", 6)]) (g := gName 6) rfl sc_l_points.nd (pi_list (pe_slice (slL (K := K)) (pv 2) po_none (po_some pe_int))) (blkOk_by (own := [("_law_other", 6)]) (N := N_l_points) (sc := defScope s_l_points) (by decide +kernel)) (fun _ _ _ _ _ => (pg_name (i := 6) sc_l_points.nd rfl (Or.inl rfl))) (fun _ _ _ _ _ => pts_nil) (fun _ _ _ _ _ => (pe_tup (pa_cons (pe_op op_add (pe_op op_mulA (pe_ix (ixt (K := K)) (pv 5) pe_int (fun _ _ => rfl)) (pe_ix (ixt (K := K)) (pv 6) pe_int (fun _ _ => rfl))) (pe_op op_mulA (pe_ix (ixt (K := K)) (pv 6) pe_int (fun _ _ => rfl)) (pe_ix (ixt (K := K)) (pv 5) pe_int (fun _ _ => rfl)))) (pa_cons (pe_op op_mulA (pe_op op_mulA pe_int (pe_ix (ixt (K := K)) (pv 5) pe_int (fun _ _ => rfl))) (pe_ix (ixt (K := K)) (pv 6) pe_int (fun _ _ => rfl))) pa_nil))))))))))
      (pss_one (ps_ret (pv 4)))))), ?_⟩
    refine ⟨_, rfl, p, rfl, ⟨_, hsq⟩, fun D nD => ?_⟩
    have nDh : D ≠ h := hh.ne nD
    refine lcp (fun H y => PtV 140 H y) (fun _ _ _ r s => r.nl s) (xs := vs) (Nat.lt_of_le_of_lt hlen (by decide)) hsq nD (fun i x H4 N M hx s4 hN hM => ?_) (fun H3 ys s3 hD3 ly py => ?_)
    · refine ⟨rfl, _, rfl, rfl, _, rfl, ?_⟩
      obtain ⟨e, he⟩ := hvs x (List.mem_of_getElem? hx)
      cases e with
      | none =>
        cases he
        exact iteF hM
      | some a =>
        have he4 := he.same s4
        obtain ⟨q, rfl, _⟩ := he
        exact iteT ⟨_, rfl, hN _ _ (Same.refl _) ⟨a, he4⟩⟩
    have hh3 := hh.same s3
    have ly6 : ys.length ≤ 6 := Nat.le_trans ly hlen
    -- size
    refine ⟨_, _, rfl, rfl, ⟨by decide, by decide, by decide⟩, by show 2 ≤ sizeLine; decide, fun p1 np1 => ?_⟩
    refine ⟨_, rfl, h, n, _, rfl, hh3.up np1, by omega, by decide, by decide +kernel, fun d H4 d0 d1 hh4 k4 => ?_⟩
    have hsz : ∃ m : Int, 0 < m ∧ Sz 140 m ∧ atI [V.int 100, V.int ((10 : Int) ^ Int.toNat 40)] d = some (V.int m) := by
      obtain rfl | rfl : d = 0 ∨ d = 1 := by omega
      · exact ⟨100, by decide, by decide, rfl⟩
      · exact ⟨10 ^ 40, by decide, by decide, rfl⟩
    obtain ⟨m, m0, sm, hat⟩ := hsz
    refine ⟨p1, _, _, _, rfl, rfl, SqL.of (k4 _ _ upd_same (hh3.ne np1)), hat, ?_⟩
    refine ⟨by show 2 ≤ sizeLine; decide, fun q1 n1 => ?_⟩
    refine ⟨_, _, rfl, rfl, ⟨by decide, by decide, by decide⟩, _, _, rfl, rfl, by show 2 ≤ sizeLine; decide, fun q2 n2 => ?_⟩
    refine ⟨_, _, rfl, rfl, ⟨by decide, by decide, by decide⟩, by show 2 ≤ sizeLine; decide, fun q3 n3 => ?_⟩
    refine ⟨_, rfl, h, _, rfl, ((hh4.up n1).up n2).up n3, by omega, fun q4 a4 H5 w4 hh5 k5 => ?_⟩
    refine ⟨by show 4 ≤ sizeLine; decide, fun f nf => ⟨_, _, rfl, ?_⟩⟩
    have hf5 : f ≠ h := hh5.ne nf
    have hD4 := k4 _ _ (up1 np1 hD3) nDh
    have hD5 := k5 _ _ (up1 n3 (up1 n2 (up1 n1 hD4))) nDh
    have K5 : Kp h H H5 := ((Kp.same (s3.up np1)).trans k4).trans (((((Kp.refl h H4).up n1).up n2).up n3).trans k5)
    have pys : ∀ y ∈ ys, PtV 140 H5 y := fun y hy => by
      obtain ⟨a, ha⟩ := py y hy
      exact ⟨a, (((((ha.same (same1 np1)).kp (hh3.up np1) k4).same (same1 n1)).same (same1 n2)).same (same1 n3)).kp (((hh4.up n1).up n2).up n3) k5⟩
    have Q1 : H5 q1 = some (.tup [.int 0, .int 1]) := k5.get (((hh4.up n1).up n2).up n3) (up1 n3 (up1 n2 upd_same)) rfl
    have Q2 : H5 q2 = some (.tup [.int (0 - (10 : Int) ^ Int.toNat 31), .int 1]) := k5.get (((hh4.up n1).up n2).up n3) (up1 n3 upd_same) rfl
    have Q3 : H5 q3 = some (.tup [.int ((10 : Int) ^ Int.toNat 32), .int 1]) := k5.get (((hh4.up n1).up n2).up n3) upd_same rfl
    generalize hB : upd H5 f _ = HB
    have sB : Same H5 HB := by rw [← hB]; exact same1 nf
    have hfB : HB f = some (.lst [.ref q1, .ref q2, .ref q3, .ref q4]) := by rw [← hB]; exact upd_same
    have hhB : HandAt HB h (n + 9) := (hh5.same sB).mono (by omega)
    have KB : Kp h H HB := K5.trans (Kp.same sB)
    have hDB := sB _ _ hD5
    have pyB : ∀ y ∈ ys, PtV 140 HB y := fun y hy => (pys y hy).nl (Nl.of sB)
    have p4B : ∀ x ∈ [V.ref q1, V.ref q2, V.ref q3, V.ref q4], PtV 1000 HB x := by
      intro x hx
      have o1 : Sz 1000 (1 : Int) := (show Sz 10 (1 : Int) by decide).mono (by decide)
      simp at hx
      rcases hx with rfl | rfl | rfl | rfl
      · exact ⟨(0, 1), q1, rfl, sB _ _ Q1, by decide, (show Sz 10 (0 : Int) by decide).mono (by decide), o1⟩
      · exact ⟨(0 - (10 : Int) ^ Int.toNat 31, 1), q2, rfl, sB _ _ Q2, by decide, (show Sz 140 (0 - (10 : Int) ^ Int.toNat 31) by decide).mono (by decide), o1⟩
      · exact ⟨((10 : Int) ^ Int.toNat 32, 1), q3, rfl, sB _ _ Q3, by decide, (show Sz 140 ((10 : Int) ^ Int.toNat 32) by decide).mono (by decide), o1⟩
      · exact ⟨a4, (w4.same sB).mono (by decide)⟩
    clear Q1 Q2 Q3 w4 pys hD4 hD5 hD3 hh3 hh4 hh5 k4 k5 K5 hsq py
    -- the loop
    refine ⟨_, rfl, D, rfl, ⟨_, SqL.of hDB⟩, for_list (K := K) (a := D) (xs := ys) (fun i σ H' => ∃ (g : Addr) (xs : List V) (v5 v6 : Option V), σ = [some (.ref h), some (.ref p), some (.ref D), some (.int m), some (.ref g), v5, v6] ∧ Same HB H' ∧ g ≠ h ∧ H' g = some (.lst xs) ∧ xs.length ≤ 4 + 6 * i ∧ ∀ x ∈ xs, PtV 1000 H' x)
      ⟨f, _, none, none, rfl, Same.refl _, hf5, hfB, by show 4 ≤ 4; decide, p4B⟩ (fun i σ H' _ ⟨_, _, _, _, _, s, _⟩ => s.seq (SqL.of hDB)) ?_ ?_⟩
    · rintro i x σ H6 hx ⟨g, xs, v5, v6, rfl, s6, ng, hg, lx, px⟩
      have hi : i < ys.length := (List.getElem?_eq_some_iff.mp hx).1
      obtain ⟨a, wa⟩ := pyB x (List.mem_of_getElem? hx)
      have wa6 := wa.same s6
      have big : ∀ {k : Nat}, k ≤ 1000 → k ≤ sizeLine := fun h => Nat.le_of_lt (small1000 h)
      refine ⟨_, rfl, _, rfl, by show 1 ≤ sizeLine; decide, fun l1 nl1 => ⟨g, l1, _, _, rfl, rfl, up1 nl1 hg, upd_same, by rw [List.length_singleton]; exact big (by omega), fun l2 nl2 => ?_⟩⟩
      have s62 := (same1 nl1 : Same H6 _).up (u := .lst (xs ++ [x])) nl2
      refine ⟨_, rfl, _, rfl, x, a, m, rfl, wa6.same s62, m0, sm, fun l3 x3 H7 s7 h7 e7 p7 => ⟨l2, l3, _, _, rfl, rfl, s7 _ _ upd_same, h7, by rw [List.length_append, List.length_singleton, e7]; exact big (by omega), fun l5 nl5 => ?_⟩⟩
      have s65 := (s62.trans s7).up (u := .lst (xs ++ [x] ++ x3)) nl5
      -- the midsts
      have hh6B : HandAt (upd H7 l5 (.lst (xs ++ [x] ++ x3))) h (n + 9) := (hhB.same s6).same s65
      have px5 : ∀ y ∈ xs ++ [x] ++ x3, PtV 1000 (upd H7 l5 (.lst (xs ++ [x] ++ x3))) y := by
        intro y hy
        rcases List.mem_append.mp hy with hy | hy
        · rcases List.mem_append.mp hy with hy | hy
          · exact (px y hy).nl (Nl.of s65)
          · have : y = x := by simpa using hy
            subst this
            exact ⟨a, (wa6.same s65).mono (by decide)⟩
        · exact (p7 y hy).nl (Nl.of (same1 nl5))
      refine ⟨_, rfl, _, rfl, _, rfl, D, _, rfl, SqL.of (s65 _ _ (s6 _ _ hDB)), fun sl nsl => ⟨sl, rfl, ⟨_, SqL.of upd_same⟩, fun D2 nD2 => ?_⟩⟩
      have s6s := s65.up (u := .lst (cutV ys none (some 3))) nsl
      have lcut : (cutV ys none (some 3)).length ≤ 6 := Nat.le_trans (cutV_length _ _ _) ly6
      refine lcp (fun H y => PtV 1000 H y) (fun _ _ _ r s => r.nl s) (xs := cutV ys none (some 3)) (Nat.lt_of_le_of_lt lcut (by decide)) (SqL.of upd_same) nD2 (fun j o H8 N M hx8 s8 hN hM => ?_) (fun H8 zs s8 hD8 lz pz => ?_)
      · have ho : o ∈ ys := by
          have := List.mem_of_getElem? hx8
          unfold cutV at this
          exact List.mem_of_mem_drop (List.mem_of_mem_take this)
        obtain ⟨b, wb⟩ := pyB o ho
        have s68 := s6s.trans s8
        obtain ⟨qa, rfl, he, ha, sa1, sa2⟩ := wa6.same s68
        obtain ⟨qb, rfl, ho, hb, sb1, sb2⟩ := (wb.same s6).same s68
        have M1 : ∀ {x y : Int}, Sz 140 x → Sz 140 y → CMul x y ∨ CMulW x y := fun h1 h2 => h1.cmul h2 (by decide) (by decide) (by decide)
        have z2 : Sz 10 (2 : Int) := by decide
        refine ⟨rfl, yesT ⟨_, rfl, _, _, _, _, rfl, rfl, SqT.of he, rfl, _, rfl, _, _, _, _, rfl, rfl, SqT.of ho, rfl, _, _, rfl, rfl, M1 sa1 sb2, _, rfl, _, _, _, _, rfl, rfl, SqT.of ho, rfl, _, rfl, _, _, _, _, rfl, rfl, SqT.of he, rfl, _, _, rfl, rfl, M1 sb1 sa2, _, _, rfl, rfl, _, rfl, _, _, _, _, rfl, rfl, SqT.of he, rfl, _, _, rfl, rfl, z2.cmul sa2 (by decide) (by decide) (by decide), _, rfl, _, _, _, _, rfl, rfl, SqT.of ho, rfl, _, _, rfl, rfl, (z2.mul sa2).cmul sb2 (by decide) (by decide) (by decide), by show 2 ≤ sizeLine; decide, fun q nq => ?_⟩⟩
        refine hN _ _ (same1 nq) ⟨(a.1 * b.2 + b.1 * a.2, 2 * a.2 * b.2), q, rfl, upd_same, ?_, ?_, ?_⟩
        · exact Int.mul_pos (Int.mul_pos (by decide) ha) hb
        · exact ((sa1.mul sb2).add (sb1.mul sa2)).mono (by decide)
        · exact ((z2.mul sa2).mul sb2).mono (by decide)
      · have s58 : Same (upd H7 l5 (.lst (xs ++ [x] ++ x3))) H8 := ((same1 nsl : Same (upd H7 l5 (.lst (xs ++ [x] ++ x3))) _)).trans s8
        have lz6 : zs.length ≤ 3 := by
          refine Nat.le_trans lz ?_
          unfold cutV
          rw [List.length_take, HT.sIx_none]
          have : HT.sIx ys.length ys.length (some 3) = min 3 ys.length := HT.sIx_nat ys.length ys.length 3
          rw [this]; omega
        refine ⟨l5, D2, _, _, rfl, rfl, s58 _ _ upd_same, hD8, ?_, fun l6 nl6 => ?_⟩
        · rw [List.length_append, List.length_append, List.length_singleton, e7]
          exact big (by omega)
        have s88 : Same H6 H8 := s65.trans s58
        refine ⟨l6, _, _, _, rfl, (s6.trans s88).up nl6, ((hhB.same s6).same s88).ne nl6, upd_same, ?_, fun y hy => ?_⟩
        · rw [List.length_append, List.length_append, List.length_append, List.length_singleton, e7]
          omega
        · rcases List.mem_append.mp hy with hy | hy
          · exact (px5 y hy).nl (Nl.of (s58.up nl6))
          · exact (pz y hy).nl (Nl.of (same1 nl6))
    · rintro σ H6 ⟨g, xs, v5, v6, rfl, s6, ng, hg, lx, px⟩
      exact ⟨_, rfl, k g xs H6 hg (by omega) px ng (hhB.same s6) (KB.trans (Kp.same s6))⟩
theorem ok_Stretch_holds {P : Program} {w : World} {K : PySem.W.Frag} {mg : Str → Option Value} {base : Heap} {φ : Fds} (T : Txt K mg φ) : FnOk P w K mg base CX0 2 (He.fAd K ("Stretch", some "holds")) φ.Stretch_holds p_Stretch_holds (sp_holdsW (He.ga K "Measure") (He.ga K "Stretch")) := by
  obtain ⟨_, B0v, B0⟩ := b_Measure_is_below_3 T
  refine T.f_Stretch_holds.ok sc_Stretch_holds (fun vs H Q E h => ?_) (fun cdv A outer s H vs Q E hr h => ?_)
  · obtain ⟨p, q, x, lo, hi, li, hj, rfl, S, ⟨dq, hq⟩, px, s1, s2, k⟩ := h; rfl
  · obtain ⟨p, q, x, lo, hi, li, hj, rfl, S, ⟨dq, hq⟩, px, s1, s2, k⟩ := h
    refine ⟨_, PSs.nox (pss_cons (ps_cut (ps_if (PW.pt (pw_and (pt_cmpR op_notN (fldK (K := K) (pv 0) rfl) pe_non (nomark _)) (pw_and1 (pt_not (pt_val (pe_meth (fldK (K := K) (pv 0) rfl) T.cl_Measure T.me_Measure_is_below (ok_Measure_is_below T) (hr.mono (by decide)) B0 B0v pass0 (pa_cons (pv 1) (pa_cons (fldK (K := K) (pv 0) rfl) pa_nil))))))))
      (pss_one (ps_ret pe_bl))
      pss_nil))
      (pss_one (ps_ret (pe_or (pe_cmpR op_isN (fldK (K := K) (pv 0) rfl) pe_non (nomark _)) (pe_one (pe_meth (pv 1) T.cl_Measure T.me_Measure_is_below (ok_Measure_is_below T) (hr.mono (by decide)) B0 B0v pass0 (pa_cons (fldK (K := K) (pv 0) rfl) (pa_cons (fldK (K := K) (pv 0) rfl) pa_nil)))))))), ?_⟩
    obtain ⟨⟨dp, l, h, hp, ml, mh⟩, l1, l2, _, _⟩ := S
    refine ⟨fun σ' H' => H = H' ∧ σ' = [some (.ref p), some (.ref q)] ∧ loIn lo li x = true, ?_, ?_⟩
    · refine ⟨_, rfl, _, _, _, _, _, rfl, hp, T.cl_Stretch, T.na_Stretch_low, sf_low _ _ _ _, rfl, _, rfl, ?_⟩
      cases lo with
      | none =>
        cases ml
        refine iteF ?_
        exact iteF ⟨rfl, rfl, rfl⟩
      | some a =>
        obtain ⟨pa, rfl, da, ha⟩ := ml
        refine iteT ?_
        refine ⟨_, rfl, _, _, _, _, _, rfl, hp, T.cl_Stretch, T.na_Stretch_low, sf_low _ _ _ _, pa, _, _, rfl, ha, mf_no _ _ (by decide +kernel) (by decide +kernel), _, rfl, _, rfl, _, _, _, _, _, rfl, hp, T.cl_Stretch, T.na_Stretch_low_in, sf_low_in _ _ _ _, pa, q, a.1, a.2, x.1, x.2, li, rfl, ⟨_, ha⟩, ⟨_, hq⟩, l1.s1.mono (by decide), l1.s2.mono (by decide), s1, s2, _, rfl, ?_⟩
        rw [lessA_eq]
        cases e : (ltq a x || (li && eqq a x)) with
        | true => exact iteF ⟨rfl, rfl, e⟩
        | false =>
          refine iteT ?_
          have k : Q (.bl ((ltq a x || (li && eqq a x)) && hiIn hi hj x)) H := k
          rw [e] at k
          exact k
    rintro σ' H' ⟨rfl, rfl, e⟩
    rw [e, Bool.true_and] at k
    refine ⟨_, rfl, _, _, _, _, _, rfl, hp, T.cl_Stretch, T.na_Stretch_high, sf_high _ _ _ _, rfl, _, rfl, ?_⟩
    cases hi with
    | none =>
      cases mh
      exact iteT k
    | some b =>
      obtain ⟨pb, rfl, db, hb⟩ := mh
      refine iteF ?_
      refine ⟨_, rfl, q, _, _, rfl, hq, mf_no _ _ (by decide +kernel) (by decide +kernel), _, rfl, _, _, _, _, _, rfl, hp, T.cl_Stretch, T.na_Stretch_high, sf_high _ _ _ _, _, rfl, _, _, _, _, _, rfl, hp, T.cl_Stretch, T.na_Stretch_high_in, sf_high_in _ _ _ _, q, pb, x.1, x.2, b.1, b.2, hj, rfl, ⟨_, hq⟩, ⟨_, hb⟩, s1, s2, l2.s1.mono (by decide), l2.s2.mono (by decide), ?_⟩
      rw [lessA_eq]
      exact k
theorem ok_written {P : Program} {w : World} {K : PySem.W.Frag} {mg : Str → Option Value} {base : Heap} {φ : Fds} (T : Txt K mg φ) : FnOk P w K mg base CX0 1 (He.fAd K ("written", none)) φ.written p_written sp_written := by
  refine T.f_written.ok sc_written (fun vs H Q E h => ?_) (fun cdv A outer s H vs Q E hr h => ?_)
  · obtain ⟨a, u, rfl, h0, hu, sa, su, k⟩ := h; rfl
  · obtain ⟨a, u, rfl, h0, hu, sa, su, k⟩ := h
    refine ⟨_, PSs.nox (pss_cons (ps_asg (pe_callB (id := "divmod") call_dm (by rfl) T.z_divmod (by decide +kernel) (pa_cons (pv 0) (pa_cons (pv 1) pa_nil))) (pg_tup rfl (pgs_cons (pg_name (i := 2) sc_written.nd rfl (Or.inl rfl)) (pgs_cons (pg_name (i := 3) sc_written.nd rfl (Or.inl rfl)) pgs_nil))))
      (pss_cons (ps_if (pt_cmpR op_eq (pv 3) pe_int (nomark _))
      (pss_one (ps_ret (pe_joined1 (pe_fmt (pv 2)))))
      pss_nil)
      (pss_cons (ps_if (pt_cmpR op_eq (pv 2) pe_int (nomark _))
      (pss_one (ps_ret (pe_joined (PJ.cons (pe_fmt (pv 3)) (PJ.cons pe_str (PJ.cons (pe_fmt (pv 1)) PJ.nil))))))
      pss_nil)
      (pss_one (ps_ret (pe_joined (PJ.cons (pe_fmt (pv 2)) (PJ.cons pe_str (PJ.cons (pe_fmt (pv 3)) (PJ.cons pe_str (PJ.cons (pe_fmt (pv 1)) PJ.nil))))))))))), ?_⟩
    refine ⟨_, rfl, _, rfl, a, u, rfl, hu, su.log (by decide) (by decide), fun p np => ?_⟩
    refine ⟨p, _, rfl, SqT.of upd_same, rfl, _, _, rfl, _, _, rfl, rfl, ?_⟩
    have sd := sa.ediv h0 hu
    have sm := su.emod (a := a) hu
    have l1 := iT_len sd
    have l2 := iT_len sm
    have l3 := iT_len su
    have l1' : (Str.ofString (toString (a / u))).length ≤ 1921 := l1
    have l2' : (Str.ofString (toString (a % u))).length ≤ 1921 := l2
    have l3' : (Str.ofString (toString u)).length ≤ 1921 := l3
    have e0 : Str.empty.length = 0 := rfl
    have e1 : (Str.ofString "/").length = 1 := rfl
    have e2 : (Str.ofString " ").length = 1 := rfl
    have k := k _ (same1 (u := .tup [.int (a / u), .int (a % u)]) np)
    unfold wTxt at k
    refine ⟨_, rfl, rfl, _, rfl, ?_⟩
    rw [dI]
    refine ite2 (fun e => ?_) (fun e => ?_)
    · rw [if_pos (of_decide_eq_true e)] at k
      exact ⟨_, rfl, .inr ⟨_, rfl, sd.log' (by decide) (by decide), k⟩⟩
    · rw [if_neg (fun z => e (decide_eq_true z))] at k
      refine ⟨_, rfl, rfl, _, rfl, ?_⟩
      rw [dI]
      refine ite2 (fun e => ?_) (fun e => ?_)
      · rw [if_pos (of_decide_eq_true e)] at k
        refine ⟨_, rfl, .inr ⟨_, rfl, sm.log' (by decide) (by decide), _, rfl, ?_, _, rfl, ?_, _, rfl, .inr ⟨_, rfl, su.log' (by decide) (by decide), _, rfl, ?_, k⟩⟩⟩
        all_goals (rw [sizeLine_eq]; simp only [Str.length_append]; omega)
      · rw [if_neg (fun z => e (decide_eq_true z))] at k
        refine ⟨_, rfl, .inr ⟨_, rfl, sd.log' (by decide) (by decide), _, rfl, ?_, _, rfl, ?_, _, rfl, .inr ⟨_, rfl, sm.log' (by decide) (by decide), _, rfl, ?_, _, rfl, ?_, _, rfl, .inr ⟨_, rfl, su.log' (by decide) (by decide), _, rfl, ?_, k⟩⟩⟩⟩
        all_goals (rw [sizeLine_eq]; simp only [Str.length_append]; omega)
theorem ok_Measure_str {P : Program} {w : World} {K : PySem.W.Frag} {mg : Str → Option Value} {base : Heap} {φ : Fds} (T : Txt K mg φ) : FnOk P w K mg base CX0 2 (He.fAd K ("Measure", some "__str__")) φ.Measure_str p_Measure_str (sp_mstr (He.ga K "Measure")) := by
  obtain ⟨_, B0v, B0⟩ := b_written_2 T
  refine T.f_Measure_str.ok sc_Measure_str (fun vs H Q E h => ?_) (fun cdv A outer s H vs Q E hr h => ?_)
  · obtain ⟨p, t, u, rfl, ⟨dx, hp⟩, hu, st, su, k⟩ := h; rfl
  · obtain ⟨p, t, u, rfl, ⟨dx, hp⟩, hu, st, su, k⟩ := h
    refine ⟨_, PSs.nox (pss_cons (ps_if (pt_cmpR op_lt (fldK (K := K) (pv 0) rfl) pe_int (nomark _))
      (pss_one (ps_ret (pe_joined (PJ.cons pe_str (PJ.cons (pe_fmt (pe_call (ok_written T) (hr.mono (by decide)) rfl T.g_written T.f_written.kp B0 B0v pass0 (pa_cons (pe_un un_neg (fldK (K := K) (pv 0) rfl)) (pa_cons (fldK (K := K) (pv 0) rfl) pa_nil)))) PJ.nil)))))
      pss_nil)
      (pss_one (ps_ret (pe_joined1 (pe_fmt (pe_call (ok_written T) (hr.mono (by decide)) rfl T.g_written T.f_written.kp B0 B0v pass0 (pa_cons (fldK (K := K) (pv 0) rfl) (pa_cons (fldK (K := K) (pv 0) rfl) pa_nil)))))))), ?_⟩
    refine ⟨_, rfl, _, _, _, _, _, rfl, hp, T.cl_Measure, T.na_Measure_top, mf_top _ _, _, _, rfl, rfl, _, rfl, ?_⟩
    have e1 : (Str.ofString "-").length = 1 := rfl
    have e0 : Str.empty.length = 0 := rfl
    refine ite2 (fun e => ?_) (fun e => ?_)
    · have e : t < 0 := of_decide_eq_true e
      have wl := wTxt_len st.neg su (by omega) hu
      refine ⟨_, rfl, ?_, _, rfl, _, _, _, _, _, rfl, hp, T.cl_Measure, T.na_Measure_top, mf_top _ _, _, rfl, _, rfl, _, _, _, _, _, rfl, hp, T.cl_Measure, T.na_Measure_bottom, mf_bottom _ _, _, _, rfl, by omega, hu, st.neg, su, fun H' s => .inl ⟨_, rfl, ?_, _, rfl, ?_, ?_⟩⟩
      · rw [sizeLine_eq]; simp only [Str.length_append]; omega
      · rw [sizeLine_eq]; omega
      · rw [sizeLine_eq]; simp only [Str.length_append]; omega
      · have k := k H' s
        unfold mTxt at k
        rw [if_pos e] at k
        exact k
    · have e : ¬ t < 0 := fun z => e (decide_eq_true z)
      have wl := wTxt_len st su (by omega) hu
      refine ⟨_, rfl, _, _, _, _, _, rfl, hp, T.cl_Measure, T.na_Measure_top, mf_top _ _, _, rfl, _, _, _, _, _, rfl, hp, T.cl_Measure, T.na_Measure_bottom, mf_bottom _ _, _, _, rfl, by omega, hu, st, su, fun H' s => .inl ⟨_, rfl, ?_, ?_⟩⟩
      · rw [sizeLine_eq]; omega
      · have k := k H' s
        unfold mTxt at k
        rw [if_neg e] at k
        exact k
theorem ok_Measure_repr {P : Program} {w : World} {K : PySem.W.Frag} {mg : Str → Option Value} {base : Heap} {φ : Fds} (T : Txt K mg φ) : FnOk P w K mg base CX0 1 (He.fAd K ("Measure", some "__repr__")) φ.Measure_repr p_Measure_repr (sp_mrep (He.ga K "Measure")) := by
  refine T.f_Measure_repr.ok sc_Measure_repr (fun vs H Q E h => ?_) (fun cdv A outer s H vs Q E hr h => ?_)
  · obtain ⟨p, t, u, rfl, ⟨dx, hp⟩, st, su, k⟩ := h; rfl
  · obtain ⟨p, t, u, rfl, ⟨dx, hp⟩, st, su, k⟩ := h
    refine ⟨_, PSs.nox (pss_one (ps_ret (pe_joined (PJ.cons pe_str (PJ.cons (pe_fmt (fldK (K := K) (pv 0) rfl)) (PJ.cons pe_str (PJ.cons (pe_fmt (fldK (K := K) (pv 0) rfl)) (PJ.cons pe_str PJ.nil)))))))), ?_⟩
    have l1 := iT_len st
    have l2 := iT_len su
    have l1' : (Str.ofString (toString t)).length ≤ 1921 := l1
    have l2' : (Str.ofString (toString u)).length ≤ 1921 := l2
    have e0 : Str.empty.length = 0 := rfl
    have e1 : (Str.ofString "Measure(").length = 8 := rfl
    have e2 : (Str.ofString ", ").length = 2 := rfl
    have e3 : (Str.ofString ")").length = 1 := rfl
    refine ⟨_, rfl, ?_, _, rfl, _, _, _, _, _, rfl, hp, T.cl_Measure, T.na_Measure_top, mf_top _ _, .inr ⟨_, rfl, st.log' (by decide) (by decide), _, rfl, ?_, _, rfl, ?_, _, rfl, _, _, _, _, _, rfl, hp, T.cl_Measure, T.na_Measure_bottom, mf_bottom _ _, .inr ⟨_, rfl, su.log' (by decide) (by decide), _, rfl, ?_, _, rfl, ?_, k⟩⟩⟩
    all_goals (rw [sizeLine_eq]; simp only [Str.length_append]; omega)
theorem ok_Measure_eqX {P : Program} {w : World} {K : PySem.W.Frag} {mg : Str → Option Value} {base : Heap} {φ : Fds} (T : Txt K mg φ) : FnOk P w K mg base CX0 1 (He.fAd K ("Measure", some "__eq__")) φ.Measure_eq p_Measure_eq (spEqB (REq K (He.ga K "Measure"))) := by
  refine T.f_Measure_eq.ok sc_Measure_eq (fun vs H Q E h => ?_) (fun cdv A outer s H vs Q E hr h => ?_)
  · obtain ⟨x, y, b, rfl, ⟨p, t, u, rfl, ⟨dp, hp⟩, hy⟩, k⟩ := h; rfl
  · obtain ⟨x, y, b, rfl, ⟨p, t, u, rfl, ⟨dp, hp⟩, hy⟩, k⟩ := h
    refine ⟨_, PSs.nox (pss_one (ps_ret (pe_and (pe_callB (id := "isinstance") (isi (K := K)) (by rfl) T.z_isinstance (by decide +kernel) (pa_cons (pv 1) (pa_cons (pe_glob (v := .ref (He.ga K "Measure")) rfl T.g_Measure rfl) pa_nil))) (pe_and (pe_cmpR op_eq (fldK (K := K) (pv 0) rfl) (fldK (K := K) (pv 1) rfl) (nomark _)) (pe_one (pe_cmpR op_eq (fldK (K := K) (pv 0) rfl) (fldK (K := K) (pv 1) rfl) (nomark _))))))), ?_⟩
    rcases hy with ⟨q, t', u', rfl, ⟨dq, hq⟩, rfl⟩ | ⟨tv, ty, kt, rfl⟩
    · refine ⟨_, rfl, _, _, _, _, true, rfl, .own _, tyM hq T.cl_Measure T.ii_Measure, T.k_Measure_Measure, _, rfl, iteT ?_⟩
      refine ⟨_, rfl, _, _, _, _, _, rfl, hp, T.cl_Measure, T.na_Measure_top, mf_top _ _, _, rfl, _, _, _, _, _, rfl, hq, T.cl_Measure, T.na_Measure_top, mf_top _ _, rfl, _, rfl, ?_⟩
      rw [dI]
      refine ite2 (fun e => ?_) (fun e => ?_)
      · rw [e] at k
        refine ⟨_, rfl, _, _, _, _, _, rfl, hp, T.cl_Measure, T.na_Measure_bottom, mf_bottom _ _, _, rfl, _, _, _, _, _, rfl, hq, T.cl_Measure, T.na_Measure_bottom, mf_bottom _ _, rfl, ?_⟩
        rw [dI]
        exact k
      · rw [isTrueN e] at k
        exact k
    · refine ⟨_, rfl, _, _, _, _, false, rfl, .own _, ty, kt, _, rfl, iteF ?_⟩
      exact k
theorem ok_end_text {P : Program} {w : World} {K : PySem.W.Frag} {mg : Str → Option Value} {base : Heap} {φ : Fds} (T : Txt K mg φ) : FnOk P w K mg base CX0 5 (He.fAd K ("end_text", none)) φ.end_text p_end_text (sp_endt (He.ga K "Measure")) := by
  obtain ⟨_, B0v, B0⟩ := b_Measure_str_1 T
  refine T.f_end_text.ok sc_end_text (fun vs H Q E h => ?_) (fun cdv A outer s H vs Q E hr h => ?_)
  · obtain ⟨v, e, rfl, hv, lw, sz, k⟩ := h; rfl
  · obtain ⟨v, e, rfl, hv, lw, sz, k⟩ := h
    refine ⟨_, PSs.nox (pss_cons (ps_if (pt_cmpR op_isN (pv 0) pe_non (nomark _))
      (pss_one (ps_ret pe_str))
      pss_nil)
      (pss_one (ps_ret (pe_callTy (T := "str") (call_strO (ok_Measure_str T) T.me_Measure_str (bnil B0v B0) pass0 (hr.mono (by decide))) (by rfl) T.z_str (by decide +kernel) (pa_cons (pv 0) pa_nil))))), ?_⟩
    refine ⟨_, rfl, rfl, _, rfl, ?_⟩
    cases e with
    | none =>
      cases hv
      exact iteT (k _ (Same.refl _))
    | some a =>
      obtain ⟨p, rfl, dx, hp⟩ := hv
      refine iteF ?_
      exact ⟨_, rfl, _, rfl, p, dx, _, rfl, hp, p, a.1, a.2, rfl, ⟨dx, hp⟩, lw.pos, sz.1, sz.2, fun H' s => ⟨_, rfl, k H' s⟩⟩
theorem ok_Stretch_str {P : Program} {w : World} {K : PySem.W.Frag} {mg : Str → Option Value} {base : Heap} {φ : Fds} (T : Txt K mg φ) : FnOk P w K mg base CX0 6 (He.fAd K ("Stretch", some "__str__")) φ.Stretch_str p_Stretch_str (sp_sstr (He.ga K "Measure") (He.ga K "Stretch")) := by
  obtain ⟨_, B0v, B0⟩ := b_end_text_1 T
  refine T.f_Stretch_str.ok sc_Stretch_str (fun vs H Q E h => ?_) (fun cdv A outer s H vs Q E hr h => ?_)
  · obtain ⟨p, lo, hi, li, hj, rfl, ⟨⟨dx, l, h, hp, ml, mh⟩, l1, l2, _, _⟩, s1, s2, k⟩ := h; rfl
  · obtain ⟨p, lo, hi, li, hj, rfl, ⟨⟨dx, l, h, hp, ml, mh⟩, l1, l2, _, _⟩, s1, s2, k⟩ := h
    refine ⟨_, PSs.nox (pss_one (ps_ret (pe_join pe_str (pe_lst (pa_cons (pe_cut (pe_ifExp (pt_val (fldK (K := K) (pv 0) rfl)) pe_str pe_str)) (pa_cons (pe_call (ok_end_text T) (hr.mono (by decide)) rfl T.g_end_text T.f_end_text.kp B0 B0v pass0 (pa_cons (fldK (K := K) (pv 0) rfl) pa_nil)) (pa_cons pe_str (pa_cons (pe_call (ok_end_text T) (hr.mono (by decide)) rfl T.g_end_text T.f_end_text.kp B0 B0v pass0 (pa_cons (fldK (K := K) (pv 0) rfl) pa_nil)) (pa_cons (pe_cut (pe_ifExp (pt_val (fldK (K := K) (pv 0) rfl)) pe_str pe_str)) pa_nil))))))))), ?_⟩
    refine ⟨⟨_, rfl⟩, ?_⟩
    refine ⟨fun v H' => H = H' ∧ v = .str (if li then "[" else "("), ?_, ?_⟩
    · refine ⟨_, rfl, _, _, _, _, _, rfl, hp, T.cl_Stretch, T.na_Stretch_low_in, sf_low_in _ _ _ _, _, rfl, ?_⟩
      cases li with
      | true => exact iteT ⟨rfl, rfl⟩
      | false => exact iteF ⟨rfl, rfl⟩
    rintro v H' ⟨rfl, rfl⟩
    refine ⟨_, rfl, _, _, _, _, _, rfl, hp, T.cl_Stretch, T.na_Stretch_low, sf_low _ _ _ _, l, lo, rfl, ml, l1, s1, fun H1 t1 => ?_⟩
    refine ⟨_, rfl, _, _, _, _, _, rfl, (t1 _ _ hp), T.cl_Stretch, T.na_Stretch_high, sf_high _ _ _ _, h, hi, rfl, mh.same t1, l2, s2, fun H2 t2 => ?_⟩
    refine ⟨fun v H' => H2 = H' ∧ v = .str (if hj then "]" else ")"), ?_, ?_⟩
    · refine ⟨_, rfl, _, _, _, _, _, rfl, (t2 _ _ (t1 _ _ hp)), T.cl_Stretch, T.na_Stretch_high_in, sf_high_in _ _ _ _, _, rfl, ?_⟩
      cases hj with
      | true => exact iteT ⟨rfl, rfl⟩
      | false => exact iteF ⟨rfl, rfl⟩
    rintro v H' ⟨rfl, rfl⟩
    refine ⟨by show 5 ≤ sizeLine; decide, fun q nq => ?_⟩
    refine ⟨_, q, [if li then "[" else "(", eT lo, ", ", eT hi, if hj then "]" else ")"], rfl, rfl, .inl (SqL.of upd_same), ?_, k _ ((t1.trans t2).up nq)⟩
    have e1 := eT_len l1 s1
    have e2 := eT_len l2 s2
    have e3 : (if li then ("[" : Str) else "(").length = 1 := by cases li <;> rfl
    have e4 : (if hj then ("]" : Str) else ")").length = 1 := by cases hj <;> rfl
    show (if li then ("[" : Str) else "(").length + ((eT lo).length + (2 + ((eT hi).length + ((if hj then ("]" : Str) else ")").length + 0)))) + 5 * 0 ≤ 16777216
    omega
theorem ok_Stretch_repr {P : Program} {w : World} {K : PySem.W.Frag} {mg : Str → Option Value} {base : Heap} {φ : Fds} (T : Txt K mg φ) : FnOk P w K mg base CX0 2 (He.fAd K ("Stretch", some "__repr__")) φ.Stretch_repr p_Stretch_repr (sp_srep (He.ga K "Measure") (He.ga K "Stretch")) := by
  obtain ⟨_, B0v, B0⟩ := b_Measure_repr_1 T
  refine T.f_Stretch_repr.ok sc_Stretch_repr (fun vs H Q E h => ?_) (fun cdv A outer s H vs Q E hr h => ?_)
  · obtain ⟨p, lo, hi, li, hj, rfl, ⟨⟨dx, l, h, hp, ml, mh⟩, l1, l2, _, _⟩, s1, s2, k⟩ := h; rfl
  · obtain ⟨p, lo, hi, li, hj, rfl, ⟨⟨dx, l, h, hp, ml, mh⟩, l1, l2, _, _⟩, s1, s2, k⟩ := h
    refine ⟨_, PSs.nox (pss_one (ps_ret (pe_joined (PJ.cons pe_str (PJ.cons (pe_fmtRO (ok_Measure_repr T) T.me_Measure_repr (bnil B0v B0) pass0 (hr.mono (by decide)) (fldK (K := K) (pv 0) rfl)) (PJ.cons pe_str (PJ.cons (pe_fmtRO (ok_Measure_repr T) T.me_Measure_repr (bnil B0v B0) pass0 (hr.mono (by decide)) (fldK (K := K) (pv 0) rfl)) (PJ.cons pe_str (PJ.cons (pe_fmtB (fldK (K := K) (pv 0) rfl)) (PJ.cons pe_str (PJ.cons (pe_fmtB (fldK (K := K) (pv 0) rfl)) (PJ.cons pe_str PJ.nil)))))))))))), ?_⟩
    have e1 := rT_len s1
    have e2 := rT_len s2
    have b1 := bTxt_len li
    have b2 := bTxt_len hj
    have z0 : Str.empty.length = 0 := rfl
    have z1 : (Str.ofString "Stretch(").length = 8 := rfl
    have z2 : (Str.ofString ", ").length = 2 := rfl
    have z3 : (Str.ofString ")").length = 1 := rfl
    have zN : (Str.ofString "None").length = 4 := rfl
    refine ⟨_, rfl, (by rw [sizeLine_eq]; simp only [Str.length_append]; omega), _, rfl, _, _, _, _, _, rfl, hp, T.cl_Stretch, T.na_Stretch_low, sf_low _ _ _ _, ?_⟩
    cases lo with
    | none =>
      cases ml
      refine .inl ⟨rfl, ?_⟩
      refine ⟨_, rfl, (by rw [sizeLine_eq]; simp only [Str.length_append]; omega), _, rfl, (by rw [sizeLine_eq]; simp only [Str.length_append]; omega), _, rfl, _, _, _, _, _, rfl, hp, T.cl_Stretch, T.na_Stretch_high, sf_high _ _ _ _, ?_⟩
      cases hi with
      | none =>
        cases mh
        refine .inl ⟨rfl, ?_⟩
        exact ⟨_, rfl, (by rw [sizeLine_eq]; simp only [Str.length_append]; omega), _, rfl, (by rw [sizeLine_eq]; simp only [Str.length_append]; omega), _, rfl, _, _, _, _, _, rfl, hp, T.cl_Stretch, T.na_Stretch_low_in, sf_low_in _ _ _ _, _, rfl, _, rfl, (by rw [sizeLine_eq]; simp only [Str.length_append]; omega), _, rfl, (by rw [sizeLine_eq]; simp only [Str.length_append]; omega), _, rfl, _, _, _, _, _, rfl, hp, T.cl_Stretch, T.na_Stretch_high_in, sf_high_in _ _ _ _, _, rfl, _, rfl, (by rw [sizeLine_eq]; simp only [Str.length_append]; omega), _, rfl, (by rw [sizeLine_eq]; simp only [Str.length_append]; omega), k⟩
      | some b =>
        obtain ⟨pb, rfl, db, hb⟩ := mh
        have wb := mRep_len s2.1 s2.2
        refine .inr ⟨pb, db, _, rfl, hb, pb, b.1, b.2, rfl, ⟨db, hb⟩, s2.1, s2.2, _, rfl, ⟨_, rfl, (by rw [sizeLine_eq]; omega)⟩, ?_⟩
        exact ⟨_, rfl, (by rw [sizeLine_eq]; simp only [Str.length_append]; omega), _, rfl, (by rw [sizeLine_eq]; simp only [Str.length_append]; omega), _, rfl, _, _, _, _, _, rfl, hp, T.cl_Stretch, T.na_Stretch_low_in, sf_low_in _ _ _ _, _, rfl, _, rfl, (by rw [sizeLine_eq]; simp only [Str.length_append]; omega), _, rfl, (by rw [sizeLine_eq]; simp only [Str.length_append]; omega), _, rfl, _, _, _, _, _, rfl, hp, T.cl_Stretch, T.na_Stretch_high_in, sf_high_in _ _ _ _, _, rfl, _, rfl, (by rw [sizeLine_eq]; simp only [Str.length_append]; omega), _, rfl, (by rw [sizeLine_eq]; simp only [Str.length_append]; omega), k⟩
    | some a =>
      obtain ⟨pa, rfl, da, ha⟩ := ml
      have wa := mRep_len s1.1 s1.2
      refine .inr ⟨pa, da, _, rfl, ha, pa, a.1, a.2, rfl, ⟨da, ha⟩, s1.1, s1.2, _, rfl, ⟨_, rfl, (by rw [sizeLine_eq]; omega)⟩, ?_⟩
      refine ⟨_, rfl, (by rw [sizeLine_eq]; simp only [Str.length_append]; omega), _, rfl, (by rw [sizeLine_eq]; simp only [Str.length_append]; omega), _, rfl, _, _, _, _, _, rfl, hp, T.cl_Stretch, T.na_Stretch_high, sf_high _ _ _ _, ?_⟩
      cases hi with
      | none =>
        cases mh
        refine .inl ⟨rfl, ?_⟩
        exact ⟨_, rfl, (by rw [sizeLine_eq]; simp only [Str.length_append]; omega), _, rfl, (by rw [sizeLine_eq]; simp only [Str.length_append]; omega), _, rfl, _, _, _, _, _, rfl, hp, T.cl_Stretch, T.na_Stretch_low_in, sf_low_in _ _ _ _, _, rfl, _, rfl, (by rw [sizeLine_eq]; simp only [Str.length_append]; omega), _, rfl, (by rw [sizeLine_eq]; simp only [Str.length_append]; omega), _, rfl, _, _, _, _, _, rfl, hp, T.cl_Stretch, T.na_Stretch_high_in, sf_high_in _ _ _ _, _, rfl, _, rfl, (by rw [sizeLine_eq]; simp only [Str.length_append]; omega), _, rfl, (by rw [sizeLine_eq]; simp only [Str.length_append]; omega), k⟩
      | some b =>
        obtain ⟨pb, rfl, db, hb⟩ := mh
        have wb := mRep_len s2.1 s2.2
        refine .inr ⟨pb, db, _, rfl, hb, pb, b.1, b.2, rfl, ⟨db, hb⟩, s2.1, s2.2, _, rfl, ⟨_, rfl, (by rw [sizeLine_eq]; omega)⟩, ?_⟩
        exact ⟨_, rfl, (by rw [sizeLine_eq]; simp only [Str.length_append]; omega), _, rfl, (by rw [sizeLine_eq]; simp only [Str.length_append]; omega), _, rfl, _, _, _, _, _, rfl, hp, T.cl_Stretch, T.na_Stretch_low_in, sf_low_in _ _ _ _, _, rfl, _, rfl, (by rw [sizeLine_eq]; simp only [Str.length_append]; omega), _, rfl, (by rw [sizeLine_eq]; simp only [Str.length_append]; omega), _, rfl, _, _, _, _, _, rfl, hp, T.cl_Stretch, T.na_Stretch_high_in, sf_high_in _ _ _ _, _, rfl, _, rfl, (by rw [sizeLine_eq]; simp only [Str.length_append]; omega), _, rfl, (by rw [sizeLine_eq]; simp only [Str.length_append]; omega), k⟩
theorem ok_Stretch_eq {P : Program} {w : World} {K : PySem.W.Frag} {mg : Str → Option Value} {base : Heap} {φ : Fds} (T : Txt K mg φ) : FnOk P w K mg base CX0 2 (He.fAd K ("Stretch", some "__eq__")) φ.Stretch_eq p_Stretch_eq (spEqB (REqS K (He.ga K "Measure") (He.ga K "Stretch"))) := by
  obtain ⟨_, B0v, B0⟩ := b_Measure_eq_2 T
  refine T.f_Stretch_eq.ok sc_Stretch_eq (fun vs H Q E h => ?_) (fun cdv A outer s H vs Q E hr h => ?_)
  · obtain ⟨x, y, b, rfl, ⟨p, lo, hi, li, hj, rfl, ⟨⟨dp, l, h, hp, ml, mh⟩, l1, l2, _, _⟩, hy⟩, k⟩ := h; rfl
  · obtain ⟨x, y, b, rfl, ⟨p, lo, hi, li, hj, rfl, ⟨⟨dp, l, h, hp, ml, mh⟩, l1, l2, _, _⟩, hy⟩, k⟩ := h
    refine ⟨_, PSs.nox (pss_one (ps_ret (pe_and (pe_callB (id := "isinstance") (isi (K := K)) (by rfl) T.z_isinstance (by decide +kernel) (pa_cons (pv 1) (pa_cons (pe_glob (v := .ref (He.ga K "Stretch")) rfl T.g_Stretch rfl) pa_nil))) (pe_and (pe_cmpR (op_eqB (RcB.or (RcB.or (rcB_own (ok_Measure_eqX T) T.me_Measure_eq (bnil B0v B0) pass0) (rcB_ref (ok_Measure_eqX T) T.me_Measure_eq T.ec_Measure (bnil B0v B0) pass0)) rcB_nn) (hr.mono (by decide))) (fldK (K := K) (pv 0) rfl) (fldK (K := K) (pv 1) rfl) (nomark _)) (pe_and (pe_cmpR (op_eqB (RcB.or (RcB.or (rcB_own (ok_Measure_eqX T) T.me_Measure_eq (bnil B0v B0) pass0) (rcB_ref (ok_Measure_eqX T) T.me_Measure_eq T.ec_Measure (bnil B0v B0) pass0)) rcB_nn) (hr.mono (by decide))) (fldK (K := K) (pv 0) rfl) (fldK (K := K) (pv 1) rfl) (nomark _)) (pe_and (pe_cmpR op_eq (fldK (K := K) (pv 0) rfl) (fldK (K := K) (pv 1) rfl) (nomark _)) (pe_one (pe_cmpR op_eq (fldK (K := K) (pv 0) rfl) (fldK (K := K) (pv 1) rfl) (nomark _))))))))), ?_⟩
    rcases hy with ⟨q, lo', hi', li', hj', rfl, ⟨⟨dq, l', h', hq, ml', mh'⟩, l1', l2', _, _⟩, rfl⟩ | ⟨tv, ty, kt, rfl⟩
    · refine ⟨_, rfl, _, _, _, _, true, rfl, .own _, tyM hq T.cl_Stretch T.ii_Stretch, T.k_Stretch_Stretch, _, rfl, iteT ?_⟩
      unfold eqS at k
      refine ⟨_, rfl, _, _, _, _, _, rfl, hp, T.cl_Stretch, T.na_Stretch_low, sf_low _ _ _ _, _, rfl, _, _, _, _, _, rfl, hq, T.cl_Stretch, T.na_Stretch_low, sf_low _ _ _ _, _, ms_eq T.cl_Measure T.ii_Measure T.ec_Measure ml ml' l1 l1', _, rfl, ?_⟩
      refine ite2 (fun e => ?_) (fun e => ?_)
      · rw [e] at k
        refine ⟨_, rfl, _, _, _, _, _, rfl, hp, T.cl_Stretch, T.na_Stretch_high, sf_high _ _ _ _, _, rfl, _, _, _, _, _, rfl, hq, T.cl_Stretch, T.na_Stretch_high, sf_high _ _ _ _, _, ms_eq T.cl_Measure T.ii_Measure T.ec_Measure mh mh' l2 l2', _, rfl, ?_⟩
        refine ite2 (fun e => ?_) (fun e => ?_)
        · rw [e] at k
          refine ⟨_, rfl, _, _, _, _, _, rfl, hp, T.cl_Stretch, T.na_Stretch_low_in, sf_low_in _ _ _ _, _, rfl, _, _, _, _, _, rfl, hq, T.cl_Stretch, T.na_Stretch_low_in, sf_low_in _ _ _ _, rfl, _, rfl, ?_⟩
          refine ite2 (fun e => ?_) (fun e => ?_)
          · rw [e] at k
            exact ⟨_, rfl, _, _, _, _, _, rfl, hp, T.cl_Stretch, T.na_Stretch_high_in, sf_high_in _ _ _ _, _, rfl, _, _, _, _, _, rfl, hq, T.cl_Stretch, T.na_Stretch_high_in, sf_high_in _ _ _ _, rfl, k⟩
          · rw [isTrueN e] at k
            exact k
        · rw [isTrueN e] at k
          exact k
      · rw [isTrueN e] at k
        exact k
    · refine ⟨_, rfl, _, _, _, _, false, rfl, .own _, ty, kt, _, rfl, iteF ?_⟩
      exact k
theorem ok_l_truth {P : Program} {w : World} {K : PySem.W.Frag} {mg : Str → Option Value} {base : Heap} {φ : Fds} (T : Txt K mg φ) : FnOk P w K mg base CX0 1 (He.fAd K ("_law_truth", none)) φ.l_truth p_l_truth sp_truth := by
  refine T.f_l_truth.ok sc_l_truth (fun vs H Q E h => ?_) (fun cdv A outer s H vs Q E hr h => ?_)
  · obtain ⟨b, c, rfl, k⟩ := h; rfl
  · obtain ⟨b, c, rfl, k⟩ := h
    refine ⟨_, PSs.nox (pss_one (ps_ret (pe_and (pe_callB (id := "isinstance") (isi (K := K)) (by rfl) T.z_isinstance (by decide +kernel) (pa_cons (pv 0) (pa_cons (pe_bltn (v := .ty "bool") rfl T.z_bool (by decide +kernel) rfl) pa_nil))) (pe_one (pe_cmpR op_eq (pv 0) (pv 1) (nomark _)))))), ?_⟩
    refine ⟨_, rfl, _, _, _, _, true, rfl, .ty _, .base (.bl _), kit_ty (r := true) (by decide +kernel), _, rfl, iteT ?_⟩
    refine ⟨_, rfl, _, rfl, rfl, ?_⟩
    rw [decB]
    exact k
theorem ok_l_thrice {P : Program} {w : World} {K : PySem.W.Frag} {mg : Str → Option Value} {base : Heap} {φ : Fds} (T : Txt K mg φ) : FnOk P w K mg base CX0 6 (He.fAd K ("_law_thrice", none)) φ.l_thrice p_l_thrice (sp_thrice (He.ga K "Measure") (He.ga K "Stretch")) := by
  obtain ⟨_, B0v, B0⟩ := b_Stretch_cut_2 T
  refine T.f_l_thrice.ok sc_l_thrice (fun vs H Q E h => ?_) (fun cdv A outer s H vs Q E hr h => ?_)
  · obtain ⟨P, P', P'', m1, m2, n1, n2, r1, r2, i1, i2, j1, j2, k1, k2, rfl, S1, S2, S3, z1, z2, z3, z4, z5, z6, k⟩ := h; rfl
  · obtain ⟨P, P', P'', m1, m2, n1, n2, r1, r2, i1, i2, j1, j2, k1, k2, rfl, S1, S2, S3, z1, z2, z3, z4, z5, z6, k⟩ := h
    refine ⟨_, PSs.nox (pss_cons (ps_set (i := 3) sc_l_thrice.nd rfl (Or.inl rfl) (pe_meth (pv 0) T.cl_Stretch T.me_Stretch_cut (ok_Stretch_cut T) (hr.mono (by decide)) B0 B0v pass0 (pa_cons (pv 1) pa_nil)))
      (pss_one (ps_ret (pe_ifExp (pt_cmpR op_isN (pv 3) pe_non (nomark _)) pe_non (pe_meth (pv 3) T.cl_Stretch T.me_Stretch_cut (ok_Stretch_cut T) (hr.mono (by decide)) B0 B0v pass0 (pa_cons (pv 2) pa_nil)))))), ?_⟩
    obtain ⟨dx1, fs1, hx1, no1⟩ := (S1).raw (m := "cut") (by decide +kernel) (by decide +kernel) (by decide +kernel) (by decide +kernel)
    refine ⟨_, rfl, P, dx1, fs1, rfl, hx1, no1, _, rfl, P, P', m1, m2, n1, n2, i1, i2, j1, j2, rfl, S1, S2, fun v H1 s1 C1 => ?_⟩
    refine ⟨_, rfl, rfl, _, rfl, ?_⟩
    have p1 := cutLo_pos (i := i1) (j := j1) S1.l1.posO S2.l1.posO
    have p2 := cutHi_pos (i := i2) (j := j2) S1.l2.posO S2.l2.posO
    rcases C1 with ⟨e, r, rfl, S4⟩ | ⟨e, rfl⟩
    · refine iteF ?_
      obtain ⟨dx2, fs2, hx2, no2⟩ := (S4).raw (m := "cut") (by decide +kernel) (by decide +kernel) (by decide +kernel) (by decide +kernel)
      refine ⟨_, rfl, r, dx2, fs2, rfl, hx2, no2, _, rfl, r, P'', _, _, _, _, _, _, _, _, rfl, S4, S3.same s1, fun w H2 s2 C2 => ?_⟩
      refine k w H2 _ _ (s1.trans s2) C2 (cutLo_alike (Alike.refl p1).normL (Alike.refl (x := (r1, k1)) S3.l1.posO)) (cutHi_alike (Alike.refl p2).normL (Alike.refl (x := (r2, k2)) S3.l2.posO)) ?_ ?_
      · exact cutLo_sz (cutLo_sz z1 z3) z5
      · exact cutHi_sz (cutHi_sz z2 z4) z6
    · refine iteT ?_
      refine k .non H1 _ _ s1 (.inr ⟨?_, rfl⟩) (Alike.refl (cutLo_pos p1 S3.l1.posO)) (Alike.refl (cutHi_pos p2 S3.l2.posO)) (cutLo_sz (cutLo_sz z1 z3) z5) (cutHi_sz (cutHi_sz z2 z4) z6)
      cases q : someB (cutLo (cutLo m1 i1 n1 j1).1 (cutLo m1 i1 n1 j1).2 r1 k1).1 (cutHi (cutHi m2 i2 n2 j2).1 (cutHi m2 i2 n2 j2).2 r2 k2).1 (cutLo (cutLo m1 i1 n1 j1).1 (cutLo m1 i1 n1 j1).2 r1 k1).2 (cutHi (cutHi m2 i2 n2 j2).1 (cutHi m2 i2 n2 j2).2 r2 k2).2 with
      | false => rfl
      | true =>
        rw [some3 S1.l1.posO S2.l1.posO S3.l1.posO S1.l2.posO S2.l2.posO S3.l2.posO q] at e
        cases e
theorem ok_l_both_right {P : Program} {w : World} {K : PySem.W.Frag} {mg : Str → Option Value} {base : Heap} {φ : Fds} (T : Txt K mg φ) : FnOk P w K mg base CX0 9 (He.fAd K ("_law_both_right", none)) φ.l_both_right p_l_both_right (sp_bothr (He.ga K "Measure") (He.ga K "Stretch")) := by
  obtain ⟨_, B0v, B0⟩ := b_Stretch_shared_2 T
  obtain ⟨_, B1v, B1⟩ := b_Stretch_cut_2 T
  obtain ⟨_, B2v, B2⟩ := b_l_truth_2 T
  obtain ⟨_, B3v, B3⟩ := b_Stretch_meets_2 T
  obtain ⟨_, B4v, B4⟩ := b_Stretch_holds_2 T
  obtain ⟨_, B5v, B5⟩ := b_Stretch_str_1 T
  obtain ⟨_, B6v, B6⟩ := b_Stretch_eq_2 T
  refine T.f_l_both_right.ok sc_l_both_right (fun vs H Q E h => ?_) (fun cdv A outer s H vs Q E hr h => ?_)
  · obtain ⟨P, P', l, ys, m1, m2, n1, n2, i1, i2, j1, j2, rfl, S1, S2, z1, z2, z3, z4, hl, py, k⟩ := h; rfl
  · obtain ⟨P, P', l, ys, m1, m2, n1, n2, i1, i2, j1, j2, rfl, S1, S2, z1, z2, z3, z4, hl, py, k⟩ := h
    refine ⟨_, PSs.nox (pss_cons (ps_par (i := 3) (j := 4) rfl sc_l_both_right.nd rfl rfl (by decide) rfl rfl (pa_cons (pe_meth (pv 0) T.cl_Stretch T.me_Stretch_cut (ok_Stretch_cut T) (hr.mono (by decide)) B1 B1v pass0 (pa_cons (pv 1) pa_nil)) (pa_cons (pe_meth (pv 0) T.cl_Stretch T.me_Stretch_shared (ok_Stretch_shared T) (hr.mono (by decide)) B0 B0v pass0 (pa_cons (pv 1) pa_nil)) pa_nil)) (by rfl))
      (pss_cons (ps_if (PW.pt (pw_or (pt_not (pt_val (pe_call (ok_l_truth T) (hr.mono (by decide)) rfl T.g_l_truth T.f_l_truth.kp B2 B2v pass0 (pa_cons (pe_meth (pv 0) T.cl_Stretch T.me_Stretch_meets (ok_Stretch_meets T) (hr.mono (by decide)) B3 B3v pass0 (pa_cons (pv 1) pa_nil)) (pa_cons (pe_cmpR op_notN (pv 3) pe_non (nomark _)) pa_nil))))) (pw_or1 (pt_cmpR op_ne (pe_cmpR op_isN (pv 4) pe_non (nomark _)) (pe_cmpR op_isN (pv 3) pe_non (nomark _)) (nomark _)))))
      (pss_one (ps_ret pe_bl))
      pss_nil)
      (pss_cons (ps_if (PW.pt (pw_and (pt_cmpR op_notN (pv 4) pe_non (nomark _)) (pw_and1 (pt_not (PW.pt (pw_and (pt_val (pe_meth (pv 0) T.cl_Stretch T.me_Stretch_holds (ok_Stretch_holds T) (hr.mono (by decide)) B4 B4v pass0 (pa_cons (pv 4) pa_nil))) (pw_and (pt_val (pe_meth (pv 1) T.cl_Stretch T.me_Stretch_holds (ok_Stretch_holds T) (hr.mono (by decide)) B4 B4v pass0 (pa_cons (pv 4) pa_nil))) (pw_and1 (pt_val (pe_meth (pv 3) T.cl_Stretch T.me_Stretch_holds (ok_Stretch_holds T) (hr.mono (by decide)) B4 B4v pass0 (pa_cons (pv 4) pa_nil)))))))))))
      (pss_one (ps_ret pe_bl))
      pss_nil)
      (pss_cons (ps_for PassesOwn.never rfl (pi_list (pv 2)) (pg_name (i := 5) sc_l_both_right.nd rfl (Or.inl rfl))
      (pss_cons (ps_set (i := 6) sc_l_both_right.nd rfl (Or.inl rfl) (pe_cut (pe_and (pe_meth (pv 0) T.cl_Stretch T.me_Stretch_holds (ok_Stretch_holds T) (hr.mono (by decide)) B4 B4v pass0 (pa_cons (pv 5) pa_nil)) (pe_one (pe_meth (pv 1) T.cl_Stretch T.me_Stretch_holds (ok_Stretch_holds T) (hr.mono (by decide)) B4 B4v pass0 (pa_cons (pv 5) pa_nil))))))
      (pss_one (ps_if (pt_not (pt_val (pe_call (ok_l_truth T) (hr.mono (by decide)) rfl T.g_l_truth T.f_l_truth.kp B2 B2v pass0 (pa_cons (pv 6) (pa_cons (pe_cut (pe_and (pe_cmpR op_notN (pv 3) pe_non (nomark _)) (pe_one (pe_meth (pv 3) T.cl_Stretch T.me_Stretch_holds (ok_Stretch_holds T) (hr.mono (by decide)) B4 B4v pass0 (pa_cons (pv 5) pa_nil))))) pa_nil)))))
      (pss_one (ps_ret pe_bl))
      pss_nil))))
      (pss_cons (ps_set (i := 7) sc_l_both_right.nd rfl (Or.inl rfl) (pe_meth (pv 1) T.cl_Stretch T.me_Stretch_cut (ok_Stretch_cut T) (hr.mono (by decide)) B1 B1v pass0 (pa_cons (pv 0) pa_nil)))
      (pss_one (ps_ret (pe_and (pe_cmpR (op_eqB (RcB.or (rcB_own (ok_Stretch_eq T) T.me_Stretch_eq (bnil B6v B6) pass0) rcB_nn) (hr.mono (by decide))) (pv 3) (pv 7) (nomark _)) (pe_one (pe_or (pe_cmpR op_isN (pv 3) pe_non (nomark _)) (pe_one (pe_and (pe_cmpR (op_eqB (rcB_own (ok_Stretch_eq T) T.me_Stretch_eq (bnil B6v B6) pass0) (hr.mono (by decide))) (pe_meth (pv 3) T.cl_Stretch T.me_Stretch_cut (ok_Stretch_cut T) (hr.mono (by decide)) B1 B1v pass0 (pa_cons (pv 0) pa_nil)) (pv 3) (nomark _)) (pe_one (pe_cmpR op_eq (pe_callTy (T := "str") (call_strO (ok_Stretch_str T) T.me_Stretch_str (bnil B5v B5) pass0 (hr.mono (by decide))) (by rfl) T.z_str (by decide +kernel) (pa_cons (pv 3) pa_nil)) (pe_callTy (T := "str") (call_strO (ok_Stretch_str T) T.me_Stretch_str (bnil B5v B5) pass0 (hr.mono (by decide))) (by rfl) T.z_str (by decide +kernel) (pa_cons (pv 7) pa_nil)) (nomark _))))))))))))))), ?_⟩
    obtain ⟨dx1, fs1, hx1, no1⟩ := (S1).raw (m := "cut") (by decide +kernel) (by decide +kernel) (by decide +kernel) (by decide +kernel)
    refine ⟨_, rfl, P, dx1, fs1, rfl, hx1, no1, _, rfl, P, P', m1, m2, n1, n2, i1, i2, j1, j2, rfl, S1, S2, fun v H1 s1 C1 => ?_⟩
    obtain ⟨dx2, fs2, hx2, no2⟩ := (S1.same s1).raw (m := "shared") (by decide +kernel) (by decide +kernel) (by decide +kernel) (by decide +kernel)
    refine ⟨_, rfl, P, dx2, fs2, rfl, hx2, no2, _, rfl, P, P', m1, m2, n1, n2, i1, i2, j1, j2, rfl, S1.same s1, S2.same s1, fun w H2 s2 W2 => ⟨_, _, rfl, ?_⟩⟩
    have s02 := s1.trans s2
    obtain ⟨dx3, fs3, hx3, no3⟩ := (S1.same s02).raw (m := "meets") (by decide +kernel) (by decide +kernel) (by decide +kernel) (by decide +kernel)
    refine ⟨_, rfl, P, dx3, fs3, rfl, hx3, no3, _, rfl, P, P', m1, m2, n1, n2, i1, i2, j1, j2, rfl, S1.same s02, S2.same s02, fun H4 s4 => ?_⟩
    have s04 := s02.trans s4
    have T1 := S1.same s04
    have T2 := S2.same s04
    have hl4 := s04 _ _ hl
    have p1 := cutLo_pos (i := i1) (j := j1) S1.l1.posO S2.l1.posO
    have p2 := cutHi_pos (i := i2) (j := j2) S1.l2.posO S2.l2.posO
    rcases C1 with ⟨e, r, rfl, S3⟩ | ⟨e, rfl⟩
    · rcases W2 with ⟨_, r2, xs, rfl, hd1, hd2⟩ | ⟨e2, rfl⟩
      · have T3 := (S3.same s2).same s4
        have h1 := hd1.same s4
        have h2 := hd2.same s4
        rw [e]
        refine ⟨_, rfl, rfl, _, _, rfl, _, rfl, iteF ?_⟩
        refine ⟨_, rfl, rfl, _, rfl, rfl, rfl, _, rfl, iteF ?_⟩
        refine ⟨_, rfl, rfl, _, rfl, iteT ?_⟩
        obtain ⟨dx4, fs4, hx4, no4⟩ := (T1).raw (m := "holds") (by decide +kernel) (by decide +kernel) (by decide +kernel) (by decide +kernel)
        refine ⟨_, rfl, P, dx4, fs4, rfl, hx4, no4, _, rfl, P, r2, _, _, _, _, _, rfl, T1, h1.at_, h1.pos, h1.s1.mono (by decide), h1.s2.mono (by decide), _, rfl, ?_⟩
        rw [h1.low, h1.high]
        refine iteT ?_
        obtain ⟨dx5, fs5, hx5, no5⟩ := (T2).raw (m := "holds") (by decide +kernel) (by decide +kernel) (by decide +kernel) (by decide +kernel)
        refine ⟨_, rfl, P', dx5, fs5, rfl, hx5, no5, _, rfl, P', r2, _, _, _, _, _, rfl, T2, h2.at_, h2.pos, h2.s1.mono (by decide), h2.s2.mono (by decide), _, rfl, ?_⟩
        rw [h2.low, h2.high]
        refine iteT ?_
        obtain ⟨dx6, fs6, hx6, no6⟩ := (T3).raw (m := "holds") (by decide +kernel) (by decide +kernel) (by decide +kernel) (by decide +kernel)
        refine ⟨_, rfl, r, dx6, fs6, rfl, hx6, no6, _, rfl, r, r2, _, _, _, _, _, rfl, T3, h1.at_, h1.pos, h1.s1.mono (by decide), h1.s2.mono (by decide), _, rfl, ?_⟩
        rw [loIn_flag, hiIn_flag, cutLo_in S1.l1.posO S2.l1.posO h1.pos, cutHi_in S1.l2.posO S2.l2.posO h1.pos, h1.low, h1.high, h2.low, h2.high]
        refine iteF ?_
        refine ⟨_, rfl, l, rfl, ⟨_, SqL.of hl4⟩, for_list (K := K) (a := l) (xs := ys) (fun j σ H' => ∃ w1 w2 : Option V, σ = [some (.ref P), some (.ref P'), some (.ref l), some (.ref r), some (.ref r2), w1, w2, none] ∧ Same H4 H')
          ⟨_, _, rfl, Same.refl _⟩ (fun j σ H' _ ⟨_, _, _, s⟩ => s.seq (SqL.of hl4)) ?_ ?_⟩
        · rintro j y σ G1 hy ⟨w1, w2, rfl, g1⟩
          obtain ⟨q, x, rfl, mq, px, sx1, sx2⟩ := ((py y (List.mem_of_getElem? hy)).same s04).same g1
          refine ⟨fun v H' => G1 = H' ∧ v = .bl ((loIn m1 i1 x && hiIn m2 i2 x) && (loIn n1 j1 x && hiIn n2 j2 x)), ?_, ?_⟩
          · obtain ⟨dx11, fs11, hx11, no11⟩ := (T1.same g1).raw (m := "holds") (by decide +kernel) (by decide +kernel) (by decide +kernel) (by decide +kernel)
            obtain ⟨dx12, fs12, hx12, no12⟩ := (T2.same g1).raw (m := "holds") (by decide +kernel) (by decide +kernel) (by decide +kernel) (by decide +kernel)
            refine ⟨_, rfl, P, dx11, fs11, rfl, hx11, no11, _, rfl, P, q, _, _, _, _, _, rfl, T1.same g1, mq, px, sx1, sx2, _, rfl, ?_⟩
            cases (loIn m1 i1 x && hiIn m2 i2 x) with
            | true => exact iteT ⟨_, rfl, P', dx12, fs12, rfl, hx12, no12, _, rfl, P', q, _, _, _, _, _, rfl, T2.same g1, mq, px, sx1, sx2, rfl, rfl⟩
            | false => exact iteF ⟨rfl, rfl⟩
          rintro v H' ⟨rfl, rfl⟩
          refine ⟨_, rfl, ?_⟩
          refine ⟨fun v H' => G1 = H' ∧ v = .bl ((loIn m1 i1 x && hiIn m2 i2 x) && (loIn n1 j1 x && hiIn n2 j2 x)), ?_, ?_⟩
          · refine ⟨_, rfl, rfl, _, rfl, iteT ?_⟩
            obtain ⟨dx13, fs13, hx13, no13⟩ := (T3.same g1).raw (m := "holds") (by decide +kernel) (by decide +kernel) (by decide +kernel) (by decide +kernel)
            refine ⟨_, rfl, r, dx13, fs13, rfl, hx13, no13, _, rfl, r, q, _, _, _, _, _, rfl, T3.same g1, mq, px, sx1, sx2, rfl, ?_⟩
            rw [loIn_flag, hiIn_flag, cutLo_in S1.l1.posO S2.l1.posO px, cutHi_in S1.l2.posO S2.l2.posO px]
            refine congrArg V.bl ?_
            cases loIn m1 i1 x <;> cases hiIn m2 i2 x <;> cases loIn n1 j1 x <;> cases hiIn n2 j2 x <;> rfl
          rintro v H' ⟨rfl, rfl⟩
          refine ⟨_, _, rfl, _, rfl, ?_⟩
          rw [decide_eq_true rfl]
          refine iteF ?_
          exact ⟨_, _, rfl, g1⟩
        · rintro σ G1 ⟨w1, w2, rfl, g1⟩
          have s01 := s04.trans g1
          obtain ⟨dx21, fs21, hx21, no21⟩ := (S2.same s01).raw (m := "cut") (by decide +kernel) (by decide +kernel) (by decide +kernel) (by decide +kernel)
          refine ⟨_, rfl, P', dx21, fs21, rfl, hx21, no21, _, rfl, P', P, n1, n2, m1, m2, j1, j2, i1, i2, rfl, S2.same s01, S1.same s01, fun v5 H5 s5 C5 => ?_⟩
          have C0 : CutV (He.ga K "Measure") (He.ga K "Stretch") H5 (.ref r) (cutLo m1 i1 n1 j1) (cutHi m2 i2 n2 j2) := .inl ⟨e, r, rfl, (T3.same g1).same s5⟩
          rcases cutV_two C0 C5 (cutLo_comm S1.l1.posO S2.l1.posO).symm (cutHi_comm S1.l2.posO S2.l2.posO).symm with ⟨e', _⟩ | ⟨_, pp, qq, ep, rfl, SA, SB⟩
          · rw [e] at e'; cases e'
          cases ep
          have D1 : DOwn K (He.ga K "Stretch") (REqS K (He.ga K "Measure") (He.ga K "Stretch")) (.ref r) (.ref qq) H5 true := LikeS.fwd (two T) (by have := LikeS.st SA SB; rw [eqS_self] at this; exact this)
          refine ⟨_, rfl, _, rfl, true, .inl D1, _, rfl, iteT ?_⟩
          refine ⟨_, rfl, rfl, _, rfl, iteF ?_⟩
          obtain ⟨dx22, fs22, hx22, no22⟩ := (SA).raw (m := "cut") (by decide +kernel) (by decide +kernel) (by decide +kernel) (by decide +kernel)
          have s15 := s01.trans s5
          refine ⟨_, rfl, r, dx22, fs22, rfl, hx22, no22, _, rfl, r, P, _, _, _, _, _, _, _, _, rfl, SA, S1.same s15, fun v6 H6 s6 C6 => ?_⟩
          have AL : Alike (cutLo (cutLo m1 i1 n1 j1).1 ((cutLo m1 i1 n1 j1).2 && (cutLo m1 i1 n1 j1).1.isSome) m1 i1) (cutLo m1 i1 n1 j1) := (cutLo_alike (Alike.refl p1).normL (Alike.refl (x := (m1, i1)) S1.l1.posO)).trans (cutLo_abs S1.l1.posO S2.l1.posO)
          have AH : Alike (cutHi (cutHi m2 i2 n2 j2).1 ((cutHi m2 i2 n2 j2).2 && (cutHi m2 i2 n2 j2).1.isSome) m2 i2) (cutHi m2 i2 n2 j2) := (cutHi_alike (Alike.refl p2).normL (Alike.refl (x := (m2, i2)) S1.l2.posO)).trans (cutHi_abs S1.l2.posO S2.l2.posO)
          have z9 := AL.someB AH
          rw [e] at z9
          rcases C6 with ⟨_, r6, rfl, S6⟩ | ⟨e6, _⟩
          · have lk : LikeS (He.ga K "Measure") (He.ga K "Stretch") H6 r6 (.ref r) true := st_like S6 (SA.same s6) (AL.normL.trans (Alike.refl p1).normL.symm) (AH.normL.trans (Alike.refl p2).normL.symm)
            refine ⟨_, rfl, true, LikeS.fwd (two T) lk, _, rfl, iteT ?_⟩
            have y1 := cutLo_sz (i := i1) (j := j1) z1 z3
            have y2 := cutHi_sz (i := i2) (j := j2) z2 z4
            have SA6 := SA.same s6
            have SB6 := SB.same s6
            obtain ⟨⟨da, la, ha, hpa, _⟩, _⟩ := _root_.id SA6
            refine ⟨_, rfl, _, rfl, r, da, _, rfl, hpa, r, _, _, _, _, rfl, SA6, y1, y2, fun H7 s7 => ⟨_, rfl, ?_⟩⟩
            obtain ⟨⟨db, lb, hb, hpb, _⟩, _⟩ := _root_.id (SB6.same s7)
            refine ⟨_, rfl, _, rfl, qq, db, _, rfl, hpb, qq, _, _, _, _, rfl, SB6.same s7, y1, y2, fun H8 s8 => ⟨_, rfl, rfl, ?_⟩⟩
            rw [decide_eq_true rfl]
            exact k _ (((s15.trans s6).trans s7).trans s8)
          · rw [e6] at z9; cases z9
      · rw [e] at e2; cases e2
    · rcases W2 with ⟨e2, _⟩ | ⟨_, rfl⟩
      · rw [e] at e2; cases e2
      · rw [e]
        refine ⟨_, rfl, rfl, _, _, rfl, _, rfl, iteF ?_⟩
        refine ⟨_, rfl, rfl, _, rfl, rfl, rfl, _, rfl, iteF ?_⟩
        refine ⟨_, rfl, rfl, _, rfl, iteF (iteF ?_)⟩
        refine ⟨_, rfl, l, rfl, ⟨_, SqL.of hl4⟩, for_list (K := K) (a := l) (xs := ys) (fun j σ H' => ∃ w1 w2 : Option V, σ = [some (.ref P), some (.ref P'), some (.ref l), some .non, some .non, w1, w2, none] ∧ Same H4 H')
          ⟨_, _, rfl, Same.refl _⟩ (fun j σ H' _ ⟨_, _, _, s⟩ => s.seq (SqL.of hl4)) ?_ ?_⟩
        · rintro j y σ G1 hy ⟨w1, w2, rfl, g1⟩
          obtain ⟨q, x, rfl, mq, px, sx1, sx2⟩ := ((py y (List.mem_of_getElem? hy)).same s04).same g1
          refine ⟨fun v H' => G1 = H' ∧ v = .bl ((loIn m1 i1 x && hiIn m2 i2 x) && (loIn n1 j1 x && hiIn n2 j2 x)), ?_, ?_⟩
          · obtain ⟨dx11, fs11, hx11, no11⟩ := (T1.same g1).raw (m := "holds") (by decide +kernel) (by decide +kernel) (by decide +kernel) (by decide +kernel)
            obtain ⟨dx12, fs12, hx12, no12⟩ := (T2.same g1).raw (m := "holds") (by decide +kernel) (by decide +kernel) (by decide +kernel) (by decide +kernel)
            refine ⟨_, rfl, P, dx11, fs11, rfl, hx11, no11, _, rfl, P, q, _, _, _, _, _, rfl, T1.same g1, mq, px, sx1, sx2, _, rfl, ?_⟩
            cases (loIn m1 i1 x && hiIn m2 i2 x) with
            | true => exact iteT ⟨_, rfl, P', dx12, fs12, rfl, hx12, no12, _, rfl, P', q, _, _, _, _, _, rfl, T2.same g1, mq, px, sx1, sx2, rfl, rfl⟩
            | false => exact iteF ⟨rfl, rfl⟩
          rintro v H' ⟨rfl, rfl⟩
          refine ⟨_, rfl, ?_⟩
          refine ⟨fun v H' => G1 = H' ∧ v = .bl ((loIn m1 i1 x && hiIn m2 i2 x) && (loIn n1 j1 x && hiIn n2 j2 x)), ?_, ?_⟩
          · refine ⟨_, rfl, rfl, _, rfl, iteF ?_⟩
            refine ⟨rfl, congrArg V.bl ?_⟩
            cases w1 : loIn m1 i1 x <;> cases w2 : hiIn m2 i2 x <;> cases w3 : loIn n1 j1 x <;> cases w4 : hiIn n2 j2 x
            all_goals first
              | rfl
              | (have c1 := cutLo_in (i := i1) (j := j1) S1.l1.posO S2.l1.posO px
                 have c2 := cutHi_in (i := i2) (j := j2) S1.l2.posO S2.l2.posO px
                 rw [w1, w3] at c1
                 rw [w2, w4] at c2
                 rw [in_some (cutLo_pos S1.l1.posO S2.l1.posO) (cutHi_pos S1.l2.posO S2.l2.posO) px c1 c2] at e
                 cases e)
          rintro v H' ⟨rfl, rfl⟩
          refine ⟨_, _, rfl, _, rfl, ?_⟩
          rw [decide_eq_true rfl]
          refine iteF ?_
          exact ⟨_, _, rfl, g1⟩
        · rintro σ G1 ⟨w1, w2, rfl, g1⟩
          have s01 := s04.trans g1
          obtain ⟨dx21, fs21, hx21, no21⟩ := (S2.same s01).raw (m := "cut") (by decide +kernel) (by decide +kernel) (by decide +kernel) (by decide +kernel)
          refine ⟨_, rfl, P', dx21, fs21, rfl, hx21, no21, _, rfl, P', P, n1, n2, m1, m2, j1, j2, i1, i2, rfl, S2.same s01, S1.same s01, fun v5 H5 s5 C5 => ?_⟩
          have C0 : CutV (He.ga K "Measure") (He.ga K "Stretch") H5 .non (cutLo m1 i1 n1 j1) (cutHi m2 i2 n2 j2) := .inr ⟨e, rfl⟩
          rcases cutV_two C0 C5 (cutLo_comm S1.l1.posO S2.l1.posO).symm (cutHi_comm S1.l2.posO S2.l2.posO).symm with ⟨_, _, rfl⟩ | ⟨e', _⟩
          · refine ⟨_, rfl, _, rfl, true, .inr ⟨rfl, rfl, rfl⟩, _, rfl, iteT ?_⟩
            refine ⟨_, rfl, rfl, _, rfl, iteT ?_⟩
            exact k _ (s01.trans s5)
          · rw [e] at e'; cases e'
theorem ok_law {P : Program} {w : World} {K : PySem.W.Frag} {mg : Str → Option Value} {base : Heap} {φ : Fds} (T : Txt K mg φ) : FnOk P w K mg base CX0 12 (He.fAd K ("law", none)) φ.law p_law (sp_law K) := by
  obtain ⟨_, B0v, B0⟩ := b_l_hand_of_2 T
  obtain ⟨_, B1v, B1⟩ := b_l_pair_of_1 T
  obtain ⟨_, B2v, B2⟩ := b_l_ends_of_1 T
  obtain ⟨_, B3v, B3⟩ := b_l_points_2 T
  obtain ⟨_, B4v, B4⟩ := b_l_measure_1 T
  obtain ⟨_, B5v, B5⟩ := b_l_made_1 T
  obtain ⟨_, B6v, B6⟩ := b_l_both_right_3 T
  obtain ⟨_, B7v, B7⟩ := b_l_thrice_3 T
  obtain ⟨_, B8v, B8⟩ := b_Stretch_eq_2 T
  obtain ⟨_, B9v, B9⟩ := b_Stretch_cut_2 T
  obtain ⟨_, B10v, B10⟩ := b_Stretch_repr_1 T
  refine T.f_law.ok sc_law (fun vs H Q E h => ?_) (fun cdv A outer s H vs Q E hr h => ?_)
  · obtain ⟨a, ns, rfl, hS, hlen, kk⟩ := h; rfl
  · obtain ⟨a, ns, rfl, hS, hlen, kk⟩ := h
    refine ⟨_, PSs.nox (pss_cons (ps_for PassesOwn.never rfl (pi_range1 rfl T.z_range (pa_cons (pe_op op_add pe_int (pe_callB (id := "min") (call_min2 rfl) (by rfl) T.z_min (by decide +kernel) (pa_cons pe_int (pa_cons (pe_callB (id := "len") (lenS (K := K)) (by rfl) T.z_len PySem.boot_len (pa_cons (pv 0) pa_nil)) pa_nil)))) pa_nil)) (pg_name (i := 1) sc_law.nd rfl (Or.inl rfl))
      (pss_cons (ps_set (i := 2) sc_law.nd rfl (Or.inl rfl) (pe_call (ok_l_hand_of T) (hr.mono (by decide)) rfl T.g_l_hand_of T.f_l_hand_of.kp B0 B0v pass0 (pa_cons (pv 0) (pa_cons (pv 1) pa_nil))))
      (pss_cons (ps_asg (pe_call (ok_l_pair_of T) (hr.mono (by decide)) rfl T.g_l_pair_of T.f_l_pair_of.kp B1 B1v pass0 (pa_cons (pv 2) pa_nil)) (pg_tup rfl (pgs_cons (pg_name (i := 3) sc_law.nd rfl (Or.inl rfl)) (pgs_cons (pg_name (i := 4) sc_law.nd rfl (Or.inl rfl)) pgs_nil))))
      (pss_cons (ps_set (i := 5) sc_law.nd rfl (Or.inl rfl) (pe_call (ok_l_ends_of T) (hr.mono (by decide)) rfl T.g_l_ends_of T.f_l_ends_of.kp B2 B2v pass0 (pa_cons (pv 2) pa_nil)))
      (pss_cons (ps_setLc (i := 6) (own := [("_law_point", 11)]) (g := gName 11) rfl sc_law.nd rfl rfl (sw_true rfl rfl rfl (by decide +kernel)) (pi_list (pe_call (ok_l_points T) (hr.mono (by decide)) rfl T.g_l_points T.f_l_points.kp B3 B3v pass0 (pa_cons (pv 2) (pa_cons (pe_callTy (T := "list") call_list_of (by rfl) T.z_list (by decide +kernel) (pa_cons (pe_op (catT (K := K)) (pe_op (catT (K := K)) (pe_slice (slT (K := K)) (pv 3) po_none (po_some pe_int)) (pe_slice (slT (K := K)) (pv 4) po_none (po_some pe_int))) (pe_slice (slT (K := K)) (pv 5) po_none (po_some pe_int))) pa_nil)) pa_nil)))) (blkOk_by (own := [("_law_point", 11)]) (N := N_law) (sc := defScope s_law) (by decide +kernel)) (fun _ _ _ _ _ => (pg_name (i := 11) sc_law.nd rfl (Or.inl rfl))) (fun _ _ _ _ _ => pts_nil) (fun _ _ _ _ _ => (pe_call (ok_l_measure T) (hr.mono (by decide)) rfl T.g_l_measure T.f_l_measure.kp B4 B4v pass0 (pa_cons (pv 11) pa_nil))))
      (pss_cons (ps_set (i := 7) sc_law.nd rfl (Or.inl rfl) (pe_lst (pa_cons (pe_call (ok_l_made T) (hr.mono (by decide)) rfl T.g_l_made T.f_l_made.kp B5 B5v pass0 (pa_cons (pv 3) pa_nil)) (pa_cons (pe_call (ok_l_made T) (hr.mono (by decide)) rfl T.g_l_made T.f_l_made.kp B5 B5v pass0 (pa_cons (pv 4) pa_nil)) (pa_cons (pe_call (ok_l_made T) (hr.mono (by decide)) rfl T.g_l_made T.f_l_made.kp B5 B5v pass0 (pa_cons (pv 5) pa_nil)) pa_nil)))))
      (pss_cons (ps_for PassesOwn.never rfl (pi_tup (pe_tup (pa_cons (pe_tup (pa_cons pe_int (pa_cons pe_int pa_nil))) (pa_cons (pe_tup (pa_cons pe_int (pa_cons pe_int pa_nil))) (pa_cons (pe_tup (pa_cons pe_int (pa_cons pe_int pa_nil))) (pa_cons (pe_tup (pa_cons pe_int (pa_cons pe_int pa_nil))) pa_nil)))))) (pg_tup rfl (pgs_cons (pg_name (i := 8) sc_law.nd rfl (Or.inl rfl)) (pgs_cons (pg_name (i := 9) sc_law.nd rfl (Or.inl rfl)) pgs_nil)))
      (pss_one (ps_if (pt_not (pt_val (pe_call (ok_l_both_right T) (hr.mono (by decide)) rfl T.g_l_both_right T.f_l_both_right.kp B6 B6v pass0 (pa_cons (pe_ix (ixl (K := K)) (pv 7) (pv 8) (fun _ _ => rfl)) (pa_cons (pe_ix (ixl (K := K)) (pv 7) (pv 9) (fun _ _ => rfl)) (pa_cons (pv 6) pa_nil))))))
      (pss_one (ps_ret pe_bl))
      pss_nil)))
      (pss_cons (ps_set (i := 10) sc_law.nd rfl (Or.inl rfl) (pe_lst (pa_cons (pe_call (ok_l_thrice T) (hr.mono (by decide)) rfl T.g_l_thrice T.f_l_thrice.kp B7 B7v pass0 (pa_cons (pe_ix (ixl (K := K)) (pv 7) pe_int (fun _ _ => rfl)) (pa_cons (pe_ix (ixl (K := K)) (pv 7) pe_int (fun _ _ => rfl)) (pa_cons (pe_ix (ixl (K := K)) (pv 7) pe_int (fun _ _ => rfl)) pa_nil)))) (pa_cons (pe_call (ok_l_thrice T) (hr.mono (by decide)) rfl T.g_l_thrice T.f_l_thrice.kp B7 B7v pass0 (pa_cons (pe_ix (ixl (K := K)) (pv 7) pe_int (fun _ _ => rfl)) (pa_cons (pe_ix (ixl (K := K)) (pv 7) pe_int (fun _ _ => rfl)) (pa_cons (pe_ix (ixl (K := K)) (pv 7) pe_int (fun _ _ => rfl)) pa_nil)))) pa_nil))))
      (pss_one (ps_if (PW.pt (pw_or (pt_cmpR (opR_or (op_neB (ok_Stretch_eq T) T.me_Stretch_eq T.ec_Stretch (bnil B8v B8) pass0 (hr.mono (by decide))) op_ne) (pe_ix (ixl (K := K)) (pv 10) pe_int (fun _ _ => rfl)) (pe_ix (ixl (K := K)) (pv 10) pe_int (fun _ _ => rfl)) (nomark _)) (pw_or (pt_cmpR op_ne (pe_callB (id := "repr") (call_reprO (ok_Stretch_repr T) T.me_Stretch_repr (bnil B10v B10) pass0 (hr.mono (by decide))) (by rfl) T.z_repr (by decide +kernel) (pa_cons (pe_ix (ixl (K := K)) (pv 10) pe_int (fun _ _ => rfl)) pa_nil)) (pe_callB (id := "repr") (call_reprO (ok_Stretch_repr T) T.me_Stretch_repr (bnil B10v B10) pass0 (hr.mono (by decide))) (by rfl) T.z_repr (by decide +kernel) (pa_cons (pe_ix (ixl (K := K)) (pv 10) pe_int (fun _ _ => rfl)) pa_nil)) (nomark _)) (pw_or1 (pt_cmpR (op_neB (ok_Stretch_eq T) T.me_Stretch_eq T.ec_Stretch (bnil B8v B8) pass0 (hr.mono (by decide))) (pe_meth (pe_ix (ixl (K := K)) (pv 7) pe_int (fun _ _ => rfl)) T.cl_Stretch T.me_Stretch_cut (ok_Stretch_cut T) (hr.mono (by decide)) B9 B9v pass0 (pa_cons (pe_ix (ixl (K := K)) (pv 7) pe_int (fun _ _ => rfl)) pa_nil)) (pe_ix (ixl (K := K)) (pv 7) pe_int (fun _ _ => rfl)) (nomark _))))))
      (pss_one (ps_ret pe_bl))
      pss_nil))))))))))
      (pss_one (ps_ret pe_bl))), ?_⟩
    refine ⟨_, rfl, a, _, rfl, .inl hS, _, _, rfl, _, _, rfl, rfl, _, rfl, ?_, ?_, for_range (fun i σ H' => ∃ v1 v2 v3 v4 v5 v6 v7 v8 v9 v10 v11 : Option V, σ = [some (.ref a), v1, v2, v3, v4, v5, v6, v7, v8, v9, v10, v11] ∧ Old H H') ⟨none, none, none, none, none, none, none, none, none, none, none, rfl, Old.refl _⟩ ?_ ?_⟩
    · split <;> omega
    · split <;> omega
    · rintro i σ H1 hi ⟨v1, v2, v3, v4, v5, v6, v7, v8, v9, v10, v11, rfl, s1⟩
      rw [Int.zero_add]
      have hi2 : i ≤ 1000 := by
        split at hi <;> omega
      refine ⟨_, rfl, _, rfl, a, ns, i, rfl, s1.s.seq hS, hi2, fun h H2 nh s2 hh2 => ?_⟩
      have nH : H h = none := s1.s.free nh
      have O2 : Old H H2 := s1.then s2
      refine ⟨_, rfl, h, 0, rfl, hh2, by decide, fun r p1 p2 ea eb fa fb ia ib ja jb H3 hr3 E1 E2 hh3 k3 => ?_⟩
      refine ⟨r, _, rfl, SqT.of hr3, rfl, _, _, rfl, _, _, rfl, rfl, ?_⟩
      have O3 := O2.kp nH k3
      refine ⟨_, rfl, h, _, rfl, hh3, by decide, fun p3 ec ed ic id H4 E3 hh4 k4 => ?_⟩
      have O4 := O3.kp nH k4
      replace E1 := E1.kp hh3 k4
      replace E2 := E2.kp hh3 k4
      obtain ⟨⟨va, vb, e1, wa, wb⟩, so1⟩ := _root_.id E1
      obtain ⟨⟨ua, ub, e2, xa, xb⟩, so2⟩ := _root_.id E2
      obtain ⟨⟨ta, tb, e3, ya, yb⟩, so3⟩ := _root_.id E3
      -- the points
      refine ⟨_, rfl, _, rfl, _, rfl, p1, _, rfl, SqT.of e1, (by show ¬ (HT.sIx 4 0 none = 0 ∧ HT.sIx 4 4 (some 2) = 4); decide), fun t1 nt1 => ?_⟩
      refine ⟨_, rfl, _, rfl, p2, _, rfl, SqT.of (up1 nt1 e2), (by show ¬ (HT.sIx 4 0 none = 0 ∧ HT.sIx 4 4 (some 2) = 4); decide), fun t2 nt2 => ?_⟩
      refine ⟨t1, t2, [va, vb], [ua, ub], rfl, rfl, SqT.of (up1 nt2 upd_same), SqT.of upd_same, (fun z => nomatch z), by show 4 ≤ sizeLine; decide, (fun z => nomatch z), fun _ t3 nt3 => ?_⟩
      refine ⟨_, rfl, _, rfl, p3, _, rfl, SqT.of (up1 nt3 (up1 nt2 (up1 nt1 e3))), (by show ¬ (HT.sIx 4 0 none = 0 ∧ HT.sIx 4 4 (some 2) = 4); decide), fun t4 nt4 => ?_⟩
      refine ⟨t3, t4, [va, vb, ua, ub], [ta, tb], rfl, rfl, SqT.of (up1 nt4 upd_same), SqT.of upd_same, (fun z => nomatch z), by show 6 ≤ sizeLine; decide, (fun z => nomatch z), fun _ t5 nt5 => ?_⟩
      refine ⟨t5, [va, vb, ua, ub, ta, tb], rfl, .inr (SqT.of upd_same), fun t6 nt6 => ?_⟩
      generalize hF : upd (upd (upd (upd (upd (upd H4 t1 _) t2 _) t3 _) t4 _) t5 _) t6 _ = H5
      have s5 : Same H4 H5 := by
        rw [← hF]
        exact (((((same1 nt1 : Same H4 _).up nt2).up nt3).up nt4).up nt5).up nt6
      have h6 : H5 t6 = some (.lst [va, vb, ua, ub, ta, tb]) := by rw [← hF]; exact upd_same
      clear hF
      have hh5 := hh4.same s5
      refine ⟨h, t6, _, _, rfl, hh5, by decide, SqL.of h6, by show 6 ≤ 6; decide, ?_, fun lp yp H6 hlp ly py nlh hh6 k6 => ?_⟩
      · intro x hx
        simp at hx
        rcases hx with rfl | rfl | rfl | rfl | rfl | rfl
        · exact ⟨ea, wa.same s5⟩
        · exact ⟨eb, wb.same s5⟩
        · exact ⟨fa, xa.same s5⟩
        · exact ⟨fb, xb.same s5⟩
        · exact ⟨ec, ya.same s5⟩
        · exact ⟨ed, yb.same s5⟩
      have O6 := (O4.then s5).kp nH k6
      replace E1 := (E1.same s5).kp hh5 k6
      replace E2 := (E2.same s5).kp hh5 k6
      replace E3 := (E3.same s5).kp hh5 k6
      clear e1 e2 e3 wa wb xa xb ya yb
      refine ⟨lp, rfl, ⟨_, SqL.of hlp⟩, fun lq nlq => ?_⟩
      refine lcp (fun H y => PtM (He.ga K "Measure") H y) (fun _ _ _ r s => r.nl s) (xs := yp) (Nat.lt_of_le_of_lt ly (by decide)) (SqL.of hlp) nlq (fun j x HJ N M hx sJ hN hM => ?_) (fun H7 ys s7 hlq lz pz => ?_)
      · obtain ⟨pt, wp⟩ := py x (List.mem_of_getElem? hx)
        refine ⟨rfl, yesT ⟨_, rfl, x, some pt, rfl, (wp.same sJ).mono (by decide), fun v m HK sK mv rv lv => ?_⟩⟩
        cases m with
        | none => exact rv.elim
        | some b =>
          obtain ⟨q, rfl, mq⟩ := mv
          exact hN _ _ sK ⟨q, b, rfl, mq, lv.pos, lv.s1.mono (by decide), lv.s2.mono (by decide)⟩
      have O7 := O6.then s7
      replace E1 := E1.same s7
      replace E2 := E2.same s7
      replace E3 := E3.same s7
      -- the three
      refine ⟨_, rfl, p1, _, _, _, _, rfl, E1, fun P1 lo1 hi1 H8 s8 S1 r1 q1 => ?_⟩
      refine ⟨_, rfl, p2, _, _, _, _, rfl, E2.same s8, fun P2 lo2 hi2 H9 s9 S2 r2 q2 => ?_⟩
      refine ⟨_, rfl, p3, _, _, _, _, rfl, (E3.same s8).same s9, fun P3 lo3 hi3 H10 s10 S3 r3 q3 => ?_⟩
      refine ⟨by show 3 ≤ sizeLine; decide, fun lm nlm => ?_⟩
      have so : someB ea eb ia ib = true := E1.so
      have z1 := szE (E1.ob.choose_spec.choose_spec.2.1) r1 S1.l1
      have y1 := szE (E1.ob.choose_spec.choose_spec.2.2) q1 S1.l2
      have z2 := szE (E2.ob.choose_spec.choose_spec.2.1) r2 S2.l1
      have y2 := szE (E2.ob.choose_spec.choose_spec.2.2) q2 S2.l2
      have z3 := szE (E3.ob.choose_spec.choose_spec.2.1) r3 S3.l1
      have y3 := szE (E3.ob.choose_spec.choose_spec.2.2) q3 S3.l2
      have A1 : Alike (lo1, ia && ea.isSome) (ea, ia) := Alike.norm r1
      have B1 : Alike (hi1, ib && eb.isSome) (eb, ib) := Alike.norm q1
      clear E1 E2 E3
      -- the four pairs
      refine ⟨by show 2 ≤ sizeLine; decide, fun c1 n1 => ⟨by show 2 ≤ sizeLine; decide, fun c2 n2 => ⟨by show 2 ≤ sizeLine; decide, fun c3 n3 => ⟨by show 2 ≤ sizeLine; decide, fun c4 n4 => ⟨by show 4 ≤ sizeLine; decide, fun c5 n5 => ?_⟩⟩⟩⟩⟩
      generalize hF : upd (upd (upd (upd (upd (upd H10 lm _) c1 _) c2 _) c3 _) c4 _) c5 _ = HB
      have sB : Same H10 HB := by
        rw [← hF]
        exact (((((same1 nlm : Same H10 _).up n1).up n2).up n3).up n4).up n5
      have hlm : HB lm = some (.lst [.ref P1, .ref P2, .ref P3]) := by rw [← hF]; exact up1 n5 (up1 n4 (up1 n3 (up1 n2 (up1 n1 upd_same))))
      have hc1 : HB c1 = some (.tup [.int 0, .int 1]) := by rw [← hF]; exact up1 n5 (up1 n4 (up1 n3 (up1 n2 upd_same)))
      have hc2 : HB c2 = some (.tup [.int 1, .int 2]) := by rw [← hF]; exact up1 n5 (up1 n4 (up1 n3 upd_same))
      have hc3 : HB c3 = some (.tup [.int 2, .int 0]) := by rw [← hF]; exact up1 n5 (up1 n4 upd_same)
      have hc4 : HB c4 = some (.tup [.int 0, .int 0]) := by rw [← hF]; exact up1 n5 upd_same
      have hc5 : HB c5 = some (.tup [.ref c1, .ref c2, .ref c3, .ref c4]) := by rw [← hF]; exact upd_same
      clear hF
      have s7B : Same H7 HB := ((s8.trans s9).trans s10).trans sB
      have hlq : HB lq = some (.lst ys) := s7B _ _ hlq
      have pyB : ∀ y ∈ ys, PtM (He.ga K "Measure") HB y := fun y hy => (pz y hy).same s7B
      replace S1 := ((S1.same s9).same s10).same sB
      replace S2 := (S2.same s10).same sB
      replace S3 := S3.same sB
      have OB := O7.then s7B
      refine ⟨c5, rfl, ⟨_, SqT.of hc5⟩, for_tup (K := K) (a := c5) (xs := [.ref c1, .ref c2, .ref c3, .ref c4]) (fun j σ H' => ∃ w1 w2 : Option V, σ = [some (.ref a), some (.int i), some (.ref h), some (.ref p1), some (.ref p2), some (.ref p3), some (.ref lq), some (.ref lm), w1, w2, v10, v11] ∧ Same HB H')
        ⟨_, _, rfl, Same.refl _⟩ (fun j σ H' _ ⟨_, _, _, s⟩ => s.sqt (SqT.of hc5)) ?_ ?_⟩
      · rintro j x σ G1 hx ⟨w1, w2, rfl, g1⟩
        have hx := List.mem_of_getElem? hx
        simp at hx
        rcases hx with rfl | rfl | rfl | rfl
        · refine ⟨c1, _, rfl, SqT.of (g1 _ _ hc1), rfl, _, _, rfl, _, _, rfl, rfl, ?_⟩
          refine ⟨_, rfl, _, rfl, _, _, _, _, rfl, rfl, SqL.of (g1 _ _ hlm), rfl, _, rfl, _, rfl, _, _, _, _, rfl, rfl, SqL.of (g1 _ _ hlm), rfl, _, rfl, P1, P2, lq, _, _, _, _, _, _, _, _, _, rfl, S1.same g1, S2.same g1, z1, y1, z2, y2, g1 _ _ hlq, (fun y hy => (pyB y hy).same g1), fun G2 g2 => ⟨_, rfl, iteF ?_⟩⟩
          exact ⟨_, _, rfl, g1.trans g2⟩
        · refine ⟨c2, _, rfl, SqT.of (g1 _ _ hc2), rfl, _, _, rfl, _, _, rfl, rfl, ?_⟩
          refine ⟨_, rfl, _, rfl, _, _, _, _, rfl, rfl, SqL.of (g1 _ _ hlm), rfl, _, rfl, _, rfl, _, _, _, _, rfl, rfl, SqL.of (g1 _ _ hlm), rfl, _, rfl, P2, P3, lq, _, _, _, _, _, _, _, _, _, rfl, S2.same g1, S3.same g1, z2, y2, z3, y3, g1 _ _ hlq, (fun y hy => (pyB y hy).same g1), fun G2 g2 => ⟨_, rfl, iteF ?_⟩⟩
          exact ⟨_, _, rfl, g1.trans g2⟩
        · refine ⟨c3, _, rfl, SqT.of (g1 _ _ hc3), rfl, _, _, rfl, _, _, rfl, rfl, ?_⟩
          refine ⟨_, rfl, _, rfl, _, _, _, _, rfl, rfl, SqL.of (g1 _ _ hlm), rfl, _, rfl, _, rfl, _, _, _, _, rfl, rfl, SqL.of (g1 _ _ hlm), rfl, _, rfl, P3, P1, lq, _, _, _, _, _, _, _, _, _, rfl, S3.same g1, S1.same g1, z3, y3, z1, y1, g1 _ _ hlq, (fun y hy => (pyB y hy).same g1), fun G2 g2 => ⟨_, rfl, iteF ?_⟩⟩
          exact ⟨_, _, rfl, g1.trans g2⟩
        · refine ⟨c4, _, rfl, SqT.of (g1 _ _ hc4), rfl, _, _, rfl, _, _, rfl, rfl, ?_⟩
          refine ⟨_, rfl, _, rfl, _, _, _, _, rfl, rfl, SqL.of (g1 _ _ hlm), rfl, _, rfl, _, rfl, _, _, _, _, rfl, rfl, SqL.of (g1 _ _ hlm), rfl, _, rfl, P1, P1, lq, _, _, _, _, _, _, _, _, _, rfl, S1.same g1, S1.same g1, z1, y1, z1, y1, g1 _ _ hlq, (fun y hy => (pyB y hy).same g1), fun G2 g2 => ⟨_, rfl, iteF ?_⟩⟩
          exact ⟨_, _, rfl, g1.trans g2⟩
      · rintro σ G1 ⟨w1, w2, rfl, g1⟩
        have hm1 := g1 _ _ hlm
        refine ⟨_, rfl, _, _, _, _, rfl, rfl, SqL.of hm1, rfl, _, rfl, _, _, _, _, rfl, rfl, SqL.of hm1, rfl, _, rfl, _, _, _, _, rfl, rfl, SqL.of hm1, rfl, P1, P2, P3, _, _, _, _, _, _, _, _, _, _, _, _, rfl, S1.same g1, S2.same g1, S3.same g1, z1, y1, z2, y2, z3, y3, fun f1 G2 L1 U1 g2 C1 AL1 AH1 zL1 zH1 => ?_⟩
        have hm2 := g2 _ _ hm1
        have g12 := g1.trans g2
        refine ⟨_, rfl, _, _, _, _, rfl, rfl, SqL.of hm2, rfl, _, rfl, _, _, _, _, rfl, rfl, SqL.of hm2, rfl, _, rfl, _, _, _, _, rfl, rfl, SqL.of hm2, rfl, P3, P1, P2, _, _, _, _, _, _, _, _, _, _, _, _, rfl, S3.same g12, S1.same g12, S2.same g12, z3, y3, z1, y1, z2, y2, fun f2 G3 L2 U2 g3 C2 AL2 AH2 zL2 zH2 => ?_⟩
        refine ⟨by show 2 ≤ sizeLine; decide, fun lf nlf => ?_⟩
        generalize hF : upd G3 lf _ = G4
        have g4 : Same G3 G4 := by rw [← hF]; exact same1 nlf
        have hf4 : G4 lf = some (.lst [f1, f2]) := by rw [← hF]; exact upd_same
        clear hF
        have gg := (g12.trans g3).trans g4
        have K1 := (C1.same g3).same g4
        have K2 := C2.same g4
        have RL := AL1.trans ((cutLo_rot S1.l1.posO S2.l1.posO S3.l1.posO).trans AL2.symm)
        have RH := AH1.trans ((cutHi_rot S1.l2.posO S2.l2.posO S3.l2.posO).trans AH2.symm)
        have last : ∀ G5, Same G4 G5 → (∃ w9 : Option V, True) → Same G1 G5 := fun G5 g5 _ => ((g2.trans g3).trans g4).trans g5
        have S4 := S1.same gg
        have hm4 := gg _ _ hlm
        have hsome : someB (cutLo lo1 (ia && ea.isSome) lo1 (ia && ea.isSome)).1 (cutHi hi1 (ib && eb.isSome) hi1 (ib && eb.isSome)).1 (cutLo lo1 (ia && ea.isSome) lo1 (ia && ea.isSome)).2 (cutHi hi1 (ib && eb.isSome) hi1 (ib && eb.isSome)).2 = true :=
          (((cutLo_self S1.l1.posO).trans A1).someB ((cutHi_self S1.l2.posO).trans B1)).trans so
        rcases cutV_two K1 K2 RL RH with ⟨_, rfl, rfl⟩ | ⟨_, pp, qq, rfl, rfl, SA, SB⟩
        · refine ⟨_, rfl, _, _, _, _, rfl, rfl, SqL.of hf4, rfl, _, rfl, _, _, _, _, rfl, rfl, SqL.of hf4, rfl, .inr ⟨rfl, _, rfl, iteF ?_⟩⟩
          refine ⟨_, rfl, _, _, _, _, rfl, rfl, SqL.of hf4, rfl, _, rfl, .inl ⟨rfl, ?_⟩⟩
          refine ⟨_, rfl, _, _, _, _, rfl, rfl, SqL.of hf4, rfl, _, rfl, .inl ⟨rfl, rfl, _, rfl, iteF ?_⟩⟩
          obtain ⟨dx30, fs30, hx30, no30⟩ := (S4).raw (m := "cut") (by decide +kernel) (by decide +kernel) (by decide +kernel) (by decide +kernel)
          refine ⟨_, rfl, _, _, _, _, rfl, rfl, SqL.of hm4, rfl, P1, dx30, fs30, rfl, hx30, no30, _, rfl, _, _, _, _, rfl, rfl, SqL.of hm4, rfl, P1, P1, _, _, _, _, _, _, _, _, rfl, S4, S4, fun v6 G5 g5 C6 => ?_⟩
          rcases C6 with ⟨_, r6, rfl, S6⟩ | ⟨e6, _⟩
          · have lk : LikeS (He.ga K "Measure") (He.ga K "Stretch") G5 r6 (.ref P1) true := st_like S6 (S4.same g5) (cutLo_self S1.l1.posO).normL (cutHi_self S1.l2.posO).normL
            refine ⟨_, rfl, _, _, _, _, rfl, rfl, SqL.of (g5 _ _ hm4), rfl, true, LikeS.fwd (two T) lk, _, rfl, iteF ?_⟩
            exact ⟨_, _, _, _, _, _, _, _, _, _, _, rfl, OB.then (gg.trans g5)⟩
          · rw [hsome] at e6; cases e6
        · have D1 : DOwn K (He.ga K "Stretch") (REqS K (He.ga K "Measure") (He.ga K "Stretch")) (.ref pp) (.ref qq) G4 true := LikeS.fwd (two T) (by have := LikeS.st SA SB; rw [eqS_self] at this; exact this)
          refine ⟨_, rfl, _, _, _, _, rfl, rfl, SqL.of hf4, rfl, _, rfl, _, _, _, _, rfl, rfl, SqL.of hf4, rfl, .inl ⟨true, D1, _, rfl, iteF ?_⟩⟩
          obtain ⟨⟨da, la, ha, hpa, _⟩, _⟩ := _root_.id SA
          obtain ⟨⟨db, lb, hb, hpb, _⟩, _⟩ := _root_.id SB
          refine ⟨_, rfl, _, _, _, _, rfl, rfl, SqL.of hf4, rfl, _, rfl, .inr ⟨pp, da, _, rfl, hpa, pp, _, _, _, _, rfl, SA, zL1, zH1, ⟨_, rfl, ?_⟩⟩⟩
          refine ⟨_, rfl, _, _, _, _, rfl, rfl, SqL.of hf4, rfl, _, rfl, .inr ⟨qq, db, _, rfl, hpb, qq, _, _, _, _, rfl, SB, zL1, zH1, ⟨_, rfl, rfl, _, rfl, ?_⟩⟩⟩
          rw [decide_eq_true rfl]
          refine iteF ?_
          obtain ⟨dx30, fs30, hx30, no30⟩ := (S4).raw (m := "cut") (by decide +kernel) (by decide +kernel) (by decide +kernel) (by decide +kernel)
          refine ⟨_, rfl, _, _, _, _, rfl, rfl, SqL.of hm4, rfl, P1, dx30, fs30, rfl, hx30, no30, _, rfl, _, _, _, _, rfl, rfl, SqL.of hm4, rfl, P1, P1, _, _, _, _, _, _, _, _, rfl, S4, S4, fun v6 G5 g5 C6 => ?_⟩
          rcases C6 with ⟨_, r6, rfl, S6⟩ | ⟨e6, _⟩
          · have lk : LikeS (He.ga K "Measure") (He.ga K "Stretch") G5 r6 (.ref P1) true := st_like S6 (S4.same g5) (cutLo_self S1.l1.posO).normL (cutHi_self S1.l2.posO).normL
            refine ⟨_, rfl, _, _, _, _, rfl, rfl, SqL.of (g5 _ _ hm4), rfl, true, LikeS.fwd (two T) lk, _, rfl, iteF ?_⟩
            exact ⟨_, _, _, _, _, _, _, _, _, _, _, rfl, OB.then (gg.trans g5)⟩
          · rw [hsome] at e6; cases e6
    · rintro σ H1 ⟨v1, v2, v3, v4, v5, v6, v7, v8, v9, v10, v11, rfl, s1⟩
      exact kk _
end K12

namespace K12
open PySem PySem.Spec PyProof.Rows L2 My
/-! ### the head -/
def h_is_whole : He.DefD := ⟨("is_whole", none), "is_whole", "is_whole", defArgs s_is_whole, defBody s_is_whole, defScope s_is_whole, [], []⟩
def h_common_part : He.DefD := ⟨("common_part", none), "common_part", "common_part", defArgs s_common_part, defBody s_common_part, defScope s_common_part, [], []⟩
def h_written : He.DefD := ⟨("written", none), "written", "written", defArgs s_written, defBody s_written, defScope s_written, [], []⟩
def h_Measure_init : He.DefD := ⟨("Measure", some "__init__"), "__init__", "Measure.__init__", defArgs s_Measure_init, defBody s_Measure_init, defScope s_Measure_init, [.int 1], []⟩
def h_Measure_eq : He.DefD := ⟨("Measure", some "__eq__"), "__eq__", "Measure.__eq__", defArgs s_Measure_eq, defBody s_Measure_eq, defScope s_Measure_eq, [], []⟩
def h_Measure_str : He.DefD := ⟨("Measure", some "__str__"), "__str__", "Measure.__str__", defArgs s_Measure_str, defBody s_Measure_str, defScope s_Measure_str, [], []⟩
def h_Measure_repr : He.DefD := ⟨("Measure", some "__repr__"), "__repr__", "Measure.__repr__", defArgs s_Measure_repr, defBody s_Measure_repr, defScope s_Measure_repr, [], []⟩
def h_Measure_plus : He.DefD := ⟨("Measure", some "plus"), "plus", "Measure.plus", defArgs s_Measure_plus, defBody s_Measure_plus, defScope s_Measure_plus, [], []⟩
def h_Measure_minus : He.DefD := ⟨("Measure", some "minus"), "minus", "Measure.minus", defArgs s_Measure_minus, defBody s_Measure_minus, defScope s_Measure_minus, [], []⟩
def h_Measure_parted : He.DefD := ⟨("Measure", some "parted"), "parted", "Measure.parted", defArgs s_Measure_parted, defBody s_Measure_parted, defScope s_Measure_parted, [.int 2], []⟩
def h_Measure_is_below : He.DefD := ⟨("Measure", some "is_below"), "is_below", "Measure.is_below", defArgs s_Measure_is_below, defBody s_Measure_is_below, defScope s_Measure_is_below, [.bl false], []⟩
def h_is_measure_or_none : He.DefD := ⟨("is_measure_or_none", none), "is_measure_or_none", "is_measure_or_none", defArgs s_is_measure_or_none, defBody s_is_measure_or_none, defScope s_is_measure_or_none, [], []⟩
def h_is_empty : He.DefD := ⟨("is_empty", none), "is_empty", "is_empty", defArgs s_is_empty, defBody s_is_empty, defScope s_is_empty, [], []⟩
def h_end_text : He.DefD := ⟨("end_text", none), "end_text", "end_text", defArgs s_end_text, defBody s_end_text, defScope s_end_text, [], []⟩
def h_cut_low : He.DefD := ⟨("cut_low", none), "cut_low", "cut_low", defArgs s_cut_low, defBody s_cut_low, defScope s_cut_low, [], []⟩
def h_cut_high : He.DefD := ⟨("cut_high", none), "cut_high", "cut_high", defArgs s_cut_high, defBody s_cut_high, defScope s_cut_high, [], []⟩
def h_some_measure : He.DefD := ⟨("some_measure", none), "some_measure", "some_measure", defArgs s_some_measure, defBody s_some_measure, defScope s_some_measure, [], []⟩
def h_Stretch_init : He.DefD := ⟨("Stretch", some "__init__"), "__init__", "Stretch.__init__", defArgs s_Stretch_init, defBody s_Stretch_init, defScope s_Stretch_init, [.bl false, .bl true], []⟩
def h_Stretch_eq : He.DefD := ⟨("Stretch", some "__eq__"), "__eq__", "Stretch.__eq__", defArgs s_Stretch_eq, defBody s_Stretch_eq, defScope s_Stretch_eq, [], []⟩
def h_Stretch_str : He.DefD := ⟨("Stretch", some "__str__"), "__str__", "Stretch.__str__", defArgs s_Stretch_str, defBody s_Stretch_str, defScope s_Stretch_str, [], []⟩
def h_Stretch_repr : He.DefD := ⟨("Stretch", some "__repr__"), "__repr__", "Stretch.__repr__", defArgs s_Stretch_repr, defBody s_Stretch_repr, defScope s_Stretch_repr, [], []⟩
def h_Stretch_holds : He.DefD := ⟨("Stretch", some "holds"), "holds", "Stretch.holds", defArgs s_Stretch_holds, defBody s_Stretch_holds, defScope s_Stretch_holds, [], []⟩
def h_Stretch_meets : He.DefD := ⟨("Stretch", some "meets"), "meets", "Stretch.meets", defArgs s_Stretch_meets, defBody s_Stretch_meets, defScope s_Stretch_meets, [], []⟩
def h_Stretch_shared : He.DefD := ⟨("Stretch", some "shared"), "shared", "Stretch.shared", defArgs s_Stretch_shared, defBody s_Stretch_shared, defScope s_Stretch_shared, [], []⟩
def h_Stretch_cut : He.DefD := ⟨("Stretch", some "cut"), "cut", "Stretch.cut", defArgs s_Stretch_cut, defBody s_Stretch_cut, defScope s_Stretch_cut, [], []⟩
def h_l_hand_of : He.DefD := ⟨("_law_hand_of", none), "_law_hand_of", "_law_hand_of", defArgs s_l_hand_of, defBody s_l_hand_of, defScope s_l_hand_of, [], []⟩
def h_l_take : He.DefD := ⟨("_law_take", none), "_law_take", "_law_take", defArgs s_l_take, defBody s_l_take, defScope s_l_take, [], []⟩
def h_l_end_of : He.DefD := ⟨("_law_end_of", none), "_law_end_of", "_law_end_of", defArgs s_l_end_of, defBody s_l_end_of, defScope s_l_end_of, [], []⟩
def h_l_below : He.DefD := ⟨("_law_below", none), "_law_below", "_law_below", defArgs s_l_below, defBody s_l_below, defScope s_l_below, [], []⟩
def h_l_same : He.DefD := ⟨("_law_same", none), "_law_same", "_law_same", defArgs s_l_same, defBody s_l_same, defScope s_l_same, [], []⟩
def h_l_measure : He.DefD := ⟨("_law_measure", none), "_law_measure", "_law_measure", defArgs s_l_measure, defBody s_l_measure, defScope s_l_measure, [], []⟩
def h_l_some : He.DefD := ⟨("_law_some", none), "_law_some", "_law_some", defArgs s_l_some, defBody s_l_some, defScope s_l_some, [], []⟩
def h_l_ends_of : He.DefD := ⟨("_law_ends_of", none), "_law_ends_of", "_law_ends_of", defArgs s_l_ends_of, defBody s_l_ends_of, defScope s_l_ends_of, [], []⟩
def h_l_made : He.DefD := ⟨("_law_made", none), "_law_made", "_law_made", defArgs s_l_made, defBody s_l_made, defScope s_l_made, [], []⟩
def h_l_pair_of : He.DefD := ⟨("_law_pair_of", none), "_law_pair_of", "_law_pair_of", defArgs s_l_pair_of, defBody s_l_pair_of, defScope s_l_pair_of, [], []⟩
def h_l_beside : He.DefD := ⟨("_law_beside", none), "_law_beside", "_law_beside", defArgs s_l_beside, defBody s_l_beside, defScope s_l_beside, [], []⟩
def h_l_points : He.DefD := ⟨("_law_points", none), "_law_points", "_law_points", defArgs s_l_points, defBody s_l_points, defScope s_l_points, [], []⟩
def h_l_truth : He.DefD := ⟨("_law_truth", none), "_law_truth", "_law_truth", defArgs s_l_truth, defBody s_l_truth, defScope s_l_truth, [], []⟩
def h_l_both_right : He.DefD := ⟨("_law_both_right", none), "_law_both_right", "_law_both_right", defArgs s_l_both_right, defBody s_l_both_right, defScope s_l_both_right, [], []⟩
def h_l_thrice : He.DefD := ⟨("_law_thrice", none), "_law_thrice", "_law_thrice", defArgs s_l_thrice, defBody s_l_thrice, defScope s_l_thrice, [], []⟩
def h_law : He.DefD := ⟨("law", none), "law", "law", defArgs s_law, defBody s_law, defScope s_law, [], []⟩
def fn : List He.DefD := [h_is_whole, h_common_part, h_written, h_Measure_init, h_Measure_eq, h_Measure_str, h_Measure_repr, h_Measure_plus, h_Measure_minus, h_Measure_parted, h_Measure_is_below, h_is_measure_or_none, h_is_empty, h_end_text, h_cut_low, h_cut_high, h_some_measure, h_Stretch_init, h_Stretch_eq, h_Stretch_str, h_Stretch_repr, h_Stretch_holds, h_Stretch_meets, h_Stretch_shared, h_Stretch_cut, h_l_hand_of, h_l_take, h_l_end_of, h_l_below, h_l_same, h_l_measure, h_l_some, h_l_ends_of, h_l_made, h_l_pair_of, h_l_beside, h_l_points, h_l_truth, h_l_both_right, h_l_thrice, h_law]
def fa : List He.Fa := [.glo "is_whole", .glo "common_part", .glo "written", .glo "is_measure_or_none", .glo "is_empty", .glo "end_text", .glo "cut_low", .glo "cut_high", .glo "some_measure", .glo "_law_hand_of", .glo "_law_take", .glo "_law_end_of", .glo "_law_below", .glo "_law_same", .glo "_law_measure", .glo "_law_some", .glo "_law_ends_of", .glo "_law_made", .glo "_law_pair_of", .glo "_law_beside", .glo "_law_points", .glo "_law_truth", .glo "_law_both_right", .glo "_law_thrice", .glo "law", .glo "Measure", .glo "Stretch", .free "abs", .free "bool", .free "divmod", .free "int", .free "isinstance", .free "len", .free "list", .free "min", .free "range", .free "repr", .free "str", .cls "Measure", .noat "Measure" "top", .noat "Measure" "bottom", .meth "Measure" "__eq__", .meth "Measure" "__str__", .meth "Measure" "__repr__", .meth "Measure" "plus", .meth "Measure" "minus", .meth "Measure" "parted", .meth "Measure" "is_below", .mkr "Measure", .cls "Stretch", .noat "Stretch" "low", .noat "Stretch" "high", .noat "Stretch" "low_in", .noat "Stretch" "high_in", .meth "Stretch" "__eq__", .meth "Stretch" "__str__", .meth "Stretch" "__repr__", .meth "Stretch" "holds", .meth "Stretch" "meets", .meth "Stretch" "shared", .meth "Stretch" "cut", .mkr "Stretch"]
abbrev R : PySem.W.OpenRow := PySem.W.OpenLaw.row PySem.Challenge.rw_sizeladders_k12_whole_points_of_stretche
def ex : List (PySem.W.Frag → Bool) := [isCB "Measure", isCB "Stretch", eqCB "Measure", eqCB "Stretch", nfB "Measure" "Stretch", nfB "Stretch" "Measure", kitF (.inl "Measure") (.inl "Measure") true, kitF (.inl "Stretch") (.inl "Stretch") true, kitF (.inl "Measure") (.inl "Stretch") false, kitF (.inl "Stretch") (.inl "Measure") false]
abbrev hk : PySem.W.Hook := hookM 5 fa fn ex
def ob (s : PySem.W.SharedT) : He.AlD × Bool := obsM 5 fa fn ex (HandSHeadRun.getT s)
theorem ob_eq (s : PySem.W.SharedT) : ob s = hk.obs s.abs := obsM_eq (HandSHeadRun.getT_eq s)
theorem run (w : World) : HandSHeadRun.RunEq R (PySem.W.view R.prog [36]) hk ob 20000 [("_wall" : PySem.Str), ("LadderError" : PySem.Str), ("NoMeasure" : PySem.Str), ("NoStretch" : PySem.Str), ("NoBottom" : PySem.Str), ("is_whole" : PySem.Str), ("common_part" : PySem.Str), ("written" : PySem.Str), ("Measure" : PySem.Str), ("is_measure_or_none" : PySem.Str), ("is_empty" : PySem.Str), ("end_text" : PySem.Str), ("cut_low" : PySem.Str), ("cut_high" : PySem.Str), ("some_measure" : PySem.Str), ("Stretch" : PySem.Str), ("_law_hand_of" : PySem.Str), ("_law_take" : PySem.Str), ("_law_end_of" : PySem.Str), ("_law_below" : PySem.Str), ("_law_same" : PySem.Str), ("_law_measure" : PySem.Str), ("_law_some" : PySem.Str), ("_law_ends_of" : PySem.Str), ("_law_made" : PySem.Str), ("_law_pair_of" : PySem.Str), ("_law_beside" : PySem.Str), ("_law_points" : PySem.Str), ("_law_truth" : PySem.Str), ("_law_both_right" : PySem.Str), ("_law_thrice" : PySem.Str)] w := by
  intro os
  kernel_rfl
theorem facts {K : PySem.W.Frag} {h : Heap} {mg : Str → Option Value} (X : K.In h) (G : h.Ns mainGlobals mg) (c : He.SaysD fa fn K) (cx : (ex.all fun f => f K) = true) : ∃ φ : Fds, Txt K mg φ := by
  obtain ⟨d0, F0⟩ := c.def_ 0 (d := h_is_whole) rfl
  obtain ⟨d1, F1⟩ := c.def_ 1 (d := h_common_part) rfl
  obtain ⟨d2, F2⟩ := c.def_ 2 (d := h_written) rfl
  obtain ⟨d3, F3⟩ := c.def_ 3 (d := h_Measure_init) rfl
  obtain ⟨d4, F4⟩ := c.def_ 4 (d := h_Measure_eq) rfl
  obtain ⟨d5, F5⟩ := c.def_ 5 (d := h_Measure_str) rfl
  obtain ⟨d6, F6⟩ := c.def_ 6 (d := h_Measure_repr) rfl
  obtain ⟨d7, F7⟩ := c.def_ 7 (d := h_Measure_plus) rfl
  obtain ⟨d8, F8⟩ := c.def_ 8 (d := h_Measure_minus) rfl
  obtain ⟨d9, F9⟩ := c.def_ 9 (d := h_Measure_parted) rfl
  obtain ⟨d10, F10⟩ := c.def_ 10 (d := h_Measure_is_below) rfl
  obtain ⟨d11, F11⟩ := c.def_ 11 (d := h_is_measure_or_none) rfl
  obtain ⟨d12, F12⟩ := c.def_ 12 (d := h_is_empty) rfl
  obtain ⟨d13, F13⟩ := c.def_ 13 (d := h_end_text) rfl
  obtain ⟨d14, F14⟩ := c.def_ 14 (d := h_cut_low) rfl
  obtain ⟨d15, F15⟩ := c.def_ 15 (d := h_cut_high) rfl
  obtain ⟨d16, F16⟩ := c.def_ 16 (d := h_some_measure) rfl
  obtain ⟨d17, F17⟩ := c.def_ 17 (d := h_Stretch_init) rfl
  obtain ⟨d18, F18⟩ := c.def_ 18 (d := h_Stretch_eq) rfl
  obtain ⟨d19, F19⟩ := c.def_ 19 (d := h_Stretch_str) rfl
  obtain ⟨d20, F20⟩ := c.def_ 20 (d := h_Stretch_repr) rfl
  obtain ⟨d21, F21⟩ := c.def_ 21 (d := h_Stretch_holds) rfl
  obtain ⟨d22, F22⟩ := c.def_ 22 (d := h_Stretch_meets) rfl
  obtain ⟨d23, F23⟩ := c.def_ 23 (d := h_Stretch_shared) rfl
  obtain ⟨d24, F24⟩ := c.def_ 24 (d := h_Stretch_cut) rfl
  obtain ⟨d25, F25⟩ := c.def_ 25 (d := h_l_hand_of) rfl
  obtain ⟨d26, F26⟩ := c.def_ 26 (d := h_l_take) rfl
  obtain ⟨d27, F27⟩ := c.def_ 27 (d := h_l_end_of) rfl
  obtain ⟨d28, F28⟩ := c.def_ 28 (d := h_l_below) rfl
  obtain ⟨d29, F29⟩ := c.def_ 29 (d := h_l_same) rfl
  obtain ⟨d30, F30⟩ := c.def_ 30 (d := h_l_measure) rfl
  obtain ⟨d31, F31⟩ := c.def_ 31 (d := h_l_some) rfl
  obtain ⟨d32, F32⟩ := c.def_ 32 (d := h_l_ends_of) rfl
  obtain ⟨d33, F33⟩ := c.def_ 33 (d := h_l_made) rfl
  obtain ⟨d34, F34⟩ := c.def_ 34 (d := h_l_pair_of) rfl
  obtain ⟨d35, F35⟩ := c.def_ 35 (d := h_l_beside) rfl
  obtain ⟨d36, F36⟩ := c.def_ 36 (d := h_l_points) rfl
  obtain ⟨d37, F37⟩ := c.def_ 37 (d := h_l_truth) rfl
  obtain ⟨d38, F38⟩ := c.def_ 38 (d := h_l_both_right) rfl
  obtain ⟨d39, F39⟩ := c.def_ 39 (d := h_l_thrice) rfl
  obtain ⟨d40, F40⟩ := c.def_ 40 (d := h_law) rfl
  refine ⟨⟨d0, d1, d2, d3, d4, d5, d6, d7, d8, d9, d10, d11, d12, d13, d14, d15, d16, d17, d18, d19, d20, d21, d22, d23, d24, d25, d26, d27, d28, d29, d30, d31, d32, d33, d34, d35, d36, d37, d38, d39, d40⟩, ?_⟩
  exact {
    g_is_whole := He.glo_ok X G (c.fact 0 (f := .glo "is_whole") rfl),
    g_common_part := He.glo_ok X G (c.fact 1 (f := .glo "common_part") rfl),
    g_written := He.glo_ok X G (c.fact 2 (f := .glo "written") rfl),
    g_is_measure_or_none := He.glo_ok X G (c.fact 3 (f := .glo "is_measure_or_none") rfl),
    g_is_empty := He.glo_ok X G (c.fact 4 (f := .glo "is_empty") rfl),
    g_end_text := He.glo_ok X G (c.fact 5 (f := .glo "end_text") rfl),
    g_cut_low := He.glo_ok X G (c.fact 6 (f := .glo "cut_low") rfl),
    g_cut_high := He.glo_ok X G (c.fact 7 (f := .glo "cut_high") rfl),
    g_some_measure := He.glo_ok X G (c.fact 8 (f := .glo "some_measure") rfl),
    g_l_hand_of := He.glo_ok X G (c.fact 9 (f := .glo "_law_hand_of") rfl),
    g_l_take := He.glo_ok X G (c.fact 10 (f := .glo "_law_take") rfl),
    g_l_end_of := He.glo_ok X G (c.fact 11 (f := .glo "_law_end_of") rfl),
    g_l_below := He.glo_ok X G (c.fact 12 (f := .glo "_law_below") rfl),
    g_l_same := He.glo_ok X G (c.fact 13 (f := .glo "_law_same") rfl),
    g_l_measure := He.glo_ok X G (c.fact 14 (f := .glo "_law_measure") rfl),
    g_l_some := He.glo_ok X G (c.fact 15 (f := .glo "_law_some") rfl),
    g_l_ends_of := He.glo_ok X G (c.fact 16 (f := .glo "_law_ends_of") rfl),
    g_l_made := He.glo_ok X G (c.fact 17 (f := .glo "_law_made") rfl),
    g_l_pair_of := He.glo_ok X G (c.fact 18 (f := .glo "_law_pair_of") rfl),
    g_l_beside := He.glo_ok X G (c.fact 19 (f := .glo "_law_beside") rfl),
    g_l_points := He.glo_ok X G (c.fact 20 (f := .glo "_law_points") rfl),
    g_l_truth := He.glo_ok X G (c.fact 21 (f := .glo "_law_truth") rfl),
    g_l_both_right := He.glo_ok X G (c.fact 22 (f := .glo "_law_both_right") rfl),
    g_l_thrice := He.glo_ok X G (c.fact 23 (f := .glo "_law_thrice") rfl),
    g_law := He.glo_ok X G (c.fact 24 (f := .glo "law") rfl),
    g_Measure := He.glo_ok X G (c.fact 25 (f := .glo "Measure") rfl),
    g_Stretch := He.glo_ok X G (c.fact 26 (f := .glo "Stretch") rfl),
    z_abs := He.free_ok X G (c.fact 27 (f := .free "abs") rfl),
    z_bool := He.free_ok X G (c.fact 28 (f := .free "bool") rfl),
    z_divmod := He.free_ok X G (c.fact 29 (f := .free "divmod") rfl),
    z_int := He.free_ok X G (c.fact 30 (f := .free "int") rfl),
    z_isinstance := He.free_ok X G (c.fact 31 (f := .free "isinstance") rfl),
    z_len := He.free_ok X G (c.fact 32 (f := .free "len") rfl),
    z_list := He.free_ok X G (c.fact 33 (f := .free "list") rfl),
    z_min := He.free_ok X G (c.fact 34 (f := .free "min") rfl),
    z_range := He.free_ok X G (c.fact 35 (f := .free "range") rfl),
    z_repr := He.free_ok X G (c.fact 36 (f := .free "repr") rfl),
    z_str := He.free_ok X G (c.fact 37 (f := .free "str") rfl),
    cl_Measure := He.cls_ok (c.fact 38 (f := .cls "Measure") rfl),
    na_Measure_top := He.noat_ok (c.fact 39 (f := .noat "Measure" "top") rfl),
    na_Measure_bottom := He.noat_ok (c.fact 40 (f := .noat "Measure" "bottom") rfl),
    me_Measure_eq := He.meth_ok (c.fact 41 (f := .meth "Measure" "__eq__") rfl),
    me_Measure_str := He.meth_ok (c.fact 42 (f := .meth "Measure" "__str__") rfl),
    me_Measure_repr := He.meth_ok (c.fact 43 (f := .meth "Measure" "__repr__") rfl),
    me_Measure_plus := He.meth_ok (c.fact 44 (f := .meth "Measure" "plus") rfl),
    me_Measure_minus := He.meth_ok (c.fact 45 (f := .meth "Measure" "minus") rfl),
    me_Measure_parted := He.meth_ok (c.fact 46 (f := .meth "Measure" "parted") rfl),
    me_Measure_is_below := He.meth_ok (c.fact 47 (f := .meth "Measure" "is_below") rfl),
    mk_Measure := He.mkr_ok (c.fact 48 (f := .mkr "Measure") rfl),
    cl_Stretch := He.cls_ok (c.fact 49 (f := .cls "Stretch") rfl),
    na_Stretch_low := He.noat_ok (c.fact 50 (f := .noat "Stretch" "low") rfl),
    na_Stretch_high := He.noat_ok (c.fact 51 (f := .noat "Stretch" "high") rfl),
    na_Stretch_low_in := He.noat_ok (c.fact 52 (f := .noat "Stretch" "low_in") rfl),
    na_Stretch_high_in := He.noat_ok (c.fact 53 (f := .noat "Stretch" "high_in") rfl),
    me_Stretch_eq := He.meth_ok (c.fact 54 (f := .meth "Stretch" "__eq__") rfl),
    me_Stretch_str := He.meth_ok (c.fact 55 (f := .meth "Stretch" "__str__") rfl),
    me_Stretch_repr := He.meth_ok (c.fact 56 (f := .meth "Stretch" "__repr__") rfl),
    me_Stretch_holds := He.meth_ok (c.fact 57 (f := .meth "Stretch" "holds") rfl),
    me_Stretch_meets := He.meth_ok (c.fact 58 (f := .meth "Stretch" "meets") rfl),
    me_Stretch_shared := He.meth_ok (c.fact 59 (f := .meth "Stretch" "shared") rfl),
    me_Stretch_cut := He.meth_ok (c.fact 60 (f := .meth "Stretch" "cut") rfl),
    mk_Stretch := He.mkr_ok (c.fact 61 (f := .mkr "Stretch") rfl),
    ii_Measure := isC_ok (ex_at cx 0 (f := isCB "Measure") rfl),
    ii_Stretch := isC_ok (ex_at cx 1 (f := isCB "Stretch") rfl),
    ec_Measure := eqC_ok (ex_at cx 2 (f := eqCB "Measure") rfl),
    ec_Stretch := eqC_ok (ex_at cx 3 (f := eqCB "Stretch") rfl),
    nf_Measure_Stretch := nf_ok (ex_at cx 4 (f := nfB "Measure" "Stretch") rfl),
    nf_Stretch_Measure := nf_ok (ex_at cx 5 (f := nfB "Stretch" "Measure") rfl),
    k_Measure_Measure := kitF_ok (ex_at cx 6 (f := kitF (.inl "Measure") (.inl "Measure") true) rfl),
    k_Stretch_Stretch := kitF_ok (ex_at cx 7 (f := kitF (.inl "Stretch") (.inl "Stretch") true) rfl),
    k_Measure_Stretch := kitF_ok (ex_at cx 8 (f := kitF (.inl "Measure") (.inl "Stretch") false) rfl),
    k_Stretch_Measure := kitF_ok (ex_at cx 9 (f := kitF (.inl "Stretch") (.inl "Measure") false) rfl),
    f_is_whole := F0,
    f_common_part := F1,
    f_written := F2,
    f_Measure_init := F3,
    f_Measure_eq := F4,
    f_Measure_str := F5,
    f_Measure_repr := F6,
    f_Measure_plus := F7,
    f_Measure_minus := F8,
    f_Measure_parted := F9,
    f_Measure_is_below := F10,
    f_is_measure_or_none := F11,
    f_is_empty := F12,
    f_end_text := F13,
    f_cut_low := F14,
    f_cut_high := F15,
    f_some_measure := F16,
    f_Stretch_init := F17,
    f_Stretch_eq := F18,
    f_Stretch_str := F19,
    f_Stretch_repr := F20,
    f_Stretch_holds := F21,
    f_Stretch_meets := F22,
    f_Stretch_shared := F23,
    f_Stretch_cut := F24,
    f_l_hand_of := F25,
    f_l_take := F26,
    f_l_end_of := F27,
    f_l_below := F28,
    f_l_same := F29,
    f_l_measure := F30,
    f_l_some := F31,
    f_l_ends_of := F32,
    f_l_made := F33,
    f_l_pair_of := F34,
    f_l_beside := F35,
    f_l_points := F36,
    f_l_truth := F37,
    f_l_both_right := F38,
    f_l_thrice := F39,
    f_law := F40 }
end K12
open PySem PySem.W PySem.Calls PyProof.Rows
set_option maxRecDepth 100000 in
set_option maxHeartbeats 0 in
theorem PySem.Challenge.cw_sizeladders_k12_whole_points_of_stretche_holds : PySem.Challenge.rw_sizeladders_k12_whole_points_of_stretche.Holds := by
  w_on; o_law
  refine HandSHeadRun.head_any (r := OpenLaw.row PySem.Challenge.rw_sizeladders_k12_whole_points_of_stretche) (q := view (OpenLaw.row PySem.Challenge.rw_sizeladders_k12_whole_points_of_stretche).prog [36]) (H := K12.hk) (ob := K12.ob) (M := 20000) (loose := [("_wall" : PySem.Str), ("LadderError" : PySem.Str), ("NoMeasure" : PySem.Str), ("NoStretch" : PySem.Str), ("NoBottom" : PySem.Str), ("is_whole" : PySem.Str), ("common_part" : PySem.Str), ("written" : PySem.Str), ("Measure" : PySem.Str), ("is_measure_or_none" : PySem.Str), ("is_empty" : PySem.Str), ("end_text" : PySem.Str), ("cut_low" : PySem.Str), ("cut_high" : PySem.Str), ("some_measure" : PySem.Str), ("Stretch" : PySem.Str), ("_law_hand_of" : PySem.Str), ("_law_take" : PySem.Str), ("_law_end_of" : PySem.Str), ("_law_below" : PySem.Str), ("_law_same" : PySem.Str), ("_law_measure" : PySem.Str), ("_law_some" : PySem.Str), ("_law_ends_of" : PySem.Str), ("_law_made" : PySem.Str), ("_law_pair_of" : PySem.Str), ("_law_beside" : PySem.Str), ("_law_points" : PySem.Str), ("_law_truth" : PySem.Str), ("_law_both_right" : PySem.Str), ("_law_thrice" : PySem.Str)]) (d := HandSHeadRun.topDef (OpenLaw.row PySem.Challenge.rw_sizeladders_k12_whole_points_of_stretche).prog 36) (kwd := []) K12.ob_eq
    (by kernel_rfl) (fun s => by kernel_rfl) K12.run (by kernel_rfl) (by kernel_rfl) (by kernel_rfl) (by rfl) (by first | assumption | decide +kernel) (by decide +kernel) ⟨rfl, rfl, rfl, rfl, rfl, by decide +kernel⟩ ?hw ?hc
  case hw => w_witness2
  case hc =>
    refine L2.walk_ofE (l := PySem.Challenge.rw_sizeladders_k12_whole_points_of_stretche) (n := 63) (k := 12) (x := "_law_script") (CX := L2.CX0) rfl (by decide) (by kernel_rfl) ⟨rfl, by decide, by decide⟩ ?F (fun _ _ _ _ z => z)
    intro w mg fa h Y G hmg0
    obtain ⟨K, KX, c, cx⟩ := Y
    have hmg : mg ("law" : PySem.Str) = some (.ref fa) := by
      have e : (HandSHeadRun.topDef (OpenLaw.row PySem.Challenge.rw_sizeladders_k12_whole_points_of_stretche).prog 36).name = ("law" : PySem.Str) := by kernel_rfl
      rw [← e]
      exact hmg0
    obtain ⟨φ, T⟩ := K12.facts KX G c cx
    have e := hmg.symm.trans T.g_law
    cases e
    have b := L2.FunD.bindsA (ps := K12.p_law) T.f_law fun _ _ _ _ _ _ us hl => match us, hl with | [_], _ => rfl
    exact ⟨K, φ.law, K12.sp_law K, KX, fun s v => b s [v] rfl, fun H a ns hl _ hS => ⟨a, ns, rfl, hS, hl, fun _ => rfl⟩, fun base _ _ => K12.ok_law T⟩
