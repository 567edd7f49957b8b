import PyProof.Rows.All
import Wide.All
import OpenK.AllK
import Wide.FinOn
import PySem.Challenge.RW_filterorders_k15_formulas
import HandS.ForMost
import HandS.Wide
import KE.KStateDown
import KE.KOpsOwn
import HandS.Exc
import HandS.ExcOwn
import HandS.ExcInit
import HandS.TryOnly
import HandS.WordsExc
import HandS.Defaults
import HandS.MakeKw
import HandS.MakeKwOnly
import HandS.Property
import HandS.IsInst
import HandS.OwnEq
import HandS.Gcd
import HandS.RaiseMore
import HandS.HeadHook1
import HandS.HeadHook2
import HandS.HeadNt
import HandS.HeadEnd
import HandS.Head2
import HandS.CallSlots
import HandS.ClsMeth
import PyProof.ReprRoads
import PyProof.ReprHeadsEmpty
import PyProof.InstNe
import HandS.Comp
import HandS.Iter
import HandS.Text
import PyProof.TupleKey
import HandS.List
import HandS.Zip
import HandS.SortKw
import HandS.More
import KE.DataAny
import HandS.Walk
import HandS.DictComp
import HandS.DictEq
import KE.KDictCopyH
import KE.KeyNested
import HandS.Conv
import KE.KMinKey
import HandS.TupLe
import HandS.TryMany
import KE.KMathG
import HandS.Finally
set_option Elab.async false
set_option linter.all false
set_option maxRecDepth 100000
/-! Fractions in lowest terms, sizes of whole numbers. Plain mathematics. -/
namespace FoM
/-! ### sizes -/
def Sz (n : Nat) (i : Int) : Prop := i.natAbs < 2 ^ n
theorem Sz.mono {n m : Nat} {i : Int} (h : Sz n i) (l : n ≤ m) : Sz m i := Nat.lt_of_lt_of_le h (Nat.pow_le_pow_right (by decide) l)
theorem Sz.mul {n m : Nat} {i j : Int} (h : Sz n i) (g : Sz m j) : Sz (n + m) (i * j) := by
  unfold Sz
  rw [Nat.pow_add 2, Int.natAbs_mul]
  exact Nat.mul_lt_mul'' h g
theorem Sz.add {n : Nat} {i j : Int} (h : Sz n i) (g : Sz n j) : Sz (n + 1) (i + j) := by
  unfold Sz at *
  have e : 2 ^ (n + 1) = 2 ^ n + 2 ^ n := by rw [Nat.pow_succ]; omega
  omega
theorem Sz.sub {n : Nat} {i j : Int} (h : Sz n i) (g : Sz n j) : Sz (n + 1) (i - j) := by
  unfold Sz at *
  have e : 2 ^ (n + 1) = 2 ^ n + 2 ^ n := by rw [Nat.pow_succ]; omega
  omega
theorem Sz.neg {n : Nat} {i : Int} (h : Sz n i) : Sz n (-i) := by
  unfold Sz at *
  omega
theorem Sz.le {n : Nat} {i j : Int} (h : Sz n j) (l : i.natAbs ≤ j.natAbs) : Sz n i := Nat.lt_of_le_of_lt l h
theorem Sz.mulok {n m : Nat} {i j : Int} (h : Sz n i) (g : Sz m j) (h0 : 0 < n := by decide) (g0 : 0 < m := by decide) (l : n + m ≤ 1000000 := by decide) : L2.CMulW i j :=
  L2.wide_mul h g h0 g0 l
/-! ### the greatest common divisor, with the sign of the lower number -/
def gc (u d : Int) : Int := if d < 0 then -((Nat.gcd u.natAbs d.natAbs : Nat) : Int) else ((Nat.gcd u.natAbs d.natAbs : Nat) : Int)
def frN (u d : Int) : Int := u.fdiv (gc u d)
def frD (u d : Int) : Int := d.fdiv (gc u d)
theorem gc_abs (u d : Int) : (gc u d).natAbs = Nat.gcd u.natAbs d.natAbs := by
  unfold gc
  split <;> omega
theorem gc_ne {u d : Int} (h : d ≠ 0) : gc u d ≠ 0 := by
  intro e
  have z := gc_abs u d
  rw [e] at z
  have p : 0 < Nat.gcd u.natAbs d.natAbs := Nat.gcd_pos_of_pos_right _ (by omega)
  omega
theorem gc_le {u d : Int} (h : d ≠ 0) : (gc u d).natAbs ≤ d.natAbs := by
  rw [gc_abs]
  exact Nat.le_of_dvd (by omega) (Nat.gcd_dvd_right _ _)
theorem gc_dvd_l (u d : Int) : gc u d ∣ u := by
  rw [← Int.natAbs_dvd_natAbs, gc_abs]
  exact Nat.gcd_dvd_left _ _
theorem gc_dvd_r (u d : Int) : gc u d ∣ d := by
  rw [← Int.natAbs_dvd_natAbs, gc_abs]
  exact Nat.gcd_dvd_right _ _
theorem frN_mul {u d : Int} : frN u d * gc u d = u := Int.fdiv_mul_cancel (gc_dvd_l u d)
theorem frD_mul {u d : Int} : frD u d * gc u d = d := Int.fdiv_mul_cancel (gc_dvd_r u d)
theorem frD_ne {u d : Int} (h : d ≠ 0) : frD u d ≠ 0 := fun e => h (by rw [← frD_mul (u := u) (d := d), e, Int.zero_mul])
theorem gc_sign {u d : Int} (h : d ≠ 0) : (d < 0 ∧ gc u d < 0) ∨ (0 < d ∧ 0 < gc u d) := by
  have p : 0 < Nat.gcd u.natAbs d.natAbs := Nat.gcd_pos_of_pos_right _ (by omega)
  by_cases hd : d < 0
  · refine .inl ⟨hd, ?_⟩
    unfold gc
    rw [if_pos hd]
    omega
  · refine .inr ⟨by omega, ?_⟩
    unfold gc
    rw [if_neg hd]
    omega
theorem frD_pos {u d : Int} (h : d ≠ 0) : 0 < frD u d := by
  have e := frD_mul (u := u) (d := d)
  rcases gc_sign (u := u) h with ⟨a, b⟩ | ⟨a, b⟩
  · by_cases z : 0 < frD u d
    · exact z
    · have : 0 ≤ frD u d * gc u d := Int.mul_nonneg_of_nonpos_of_nonpos (by omega) (by omega)
      omega
  · by_cases z : 0 < frD u d
    · exact z
    · have : frD u d * gc u d ≤ 0 := Int.mul_nonpos_of_nonpos_of_nonneg (by omega) (by omega)
      omega
theorem fr_cop {u d : Int} (h : d ≠ 0) : Nat.gcd (frN u d).natAbs (frD u d).natAbs = 1 := by
  have e1 := congrArg Int.natAbs (frN_mul (u := u) (d := d))
  have e2 := congrArg Int.natAbs (frD_mul (u := u) (d := d))
  rw [Int.natAbs_mul, gc_abs] at e1 e2
  have p : 0 < Nat.gcd u.natAbs d.natAbs := Nat.gcd_pos_of_pos_right _ (by omega)
  have q : Nat.gcd ((frN u d).natAbs * Nat.gcd u.natAbs d.natAbs) ((frD u d).natAbs * Nat.gcd u.natAbs d.natAbs) = Nat.gcd u.natAbs d.natAbs := by rw [e1, e2]
  rw [Nat.gcd_mul_right] at q
  exact Nat.eq_of_mul_eq_mul_right p (by rw [Nat.one_mul]; exact q)
theorem frN_le {u d : Int} (h : d ≠ 0) : (frN u d).natAbs ≤ u.natAbs := by
  have e1 := congrArg Int.natAbs (frN_mul (u := u) (d := d))
  rw [Int.natAbs_mul, gc_abs] at e1
  have p : 0 < Nat.gcd u.natAbs d.natAbs := Nat.gcd_pos_of_pos_right _ (by omega)
  calc (frN u d).natAbs = (frN u d).natAbs * 1 := (Nat.mul_one _).symm
    _ ≤ (frN u d).natAbs * Nat.gcd u.natAbs d.natAbs := Nat.mul_le_mul_left _ p
    _ = u.natAbs := e1
theorem frD_le {u d : Int} (h : d ≠ 0) : (frD u d).natAbs ≤ d.natAbs := by
  have e1 := congrArg Int.natAbs (frD_mul (u := u) (d := d))
  rw [Int.natAbs_mul, gc_abs] at e1
  have p : 0 < Nat.gcd u.natAbs d.natAbs := Nat.gcd_pos_of_pos_right _ (by omega)
  calc (frD u d).natAbs = (frD u d).natAbs * 1 := (Nat.mul_one _).symm
    _ ≤ (frD u d).natAbs * Nat.gcd u.natAbs d.natAbs := Nat.mul_le_mul_left _ p
    _ = d.natAbs := e1
/-- the same fraction -/
theorem fr_cross {u d : Int} : frN u d * d = u * frD u d := by
  have e1 := frN_mul (u := u) (d := d)
  have e2 := frD_mul (u := u) (d := d)
  calc frN u d * d = frN u d * (frD u d * gc u d) := by rw [e2]
    _ = (frN u d * gc u d) * frD u d := by rw [Int.mul_comm (frD u d), Int.mul_assoc]
    _ = u * frD u d := by rw [e1]
/-- lowest terms are unique -/
theorem low_uniq {a b c e : Int} (hb : 0 < b) (he : 0 < e) (g1 : Nat.gcd a.natAbs b.natAbs = 1) (g2 : Nat.gcd c.natAbs e.natAbs = 1) (h : a * e = c * b) : a = c ∧ b = e := by
  have hn : a.natAbs * e.natAbs = c.natAbs * b.natAbs := by rw [← Int.natAbs_mul, ← Int.natAbs_mul, h]
  have d1 : b.natAbs ∣ e.natAbs := by
    have : b.natAbs ∣ a.natAbs * e.natAbs := ⟨c.natAbs, by rw [hn, Nat.mul_comm]⟩
    exact Nat.Coprime.dvd_of_dvd_mul_left (by rw [Nat.coprime_comm]; exact g1) this
  have d2 : e.natAbs ∣ b.natAbs := by
    have : e.natAbs ∣ c.natAbs * b.natAbs := ⟨a.natAbs, by rw [← hn, Nat.mul_comm]⟩
    exact Nat.Coprime.dvd_of_dvd_mul_left (by rw [Nat.coprime_comm]; exact g2) this
  have eb : b.natAbs = e.natAbs := Nat.dvd_antisymm d1 d2
  have eb' : b = e := by omega
  subst eb'
  refine ⟨?_, rfl⟩
  exact Int.eq_of_mul_eq_mul_right (by omega) h
theorem fr_eq {u d u' d' : Int} (h : d ≠ 0) (h' : d' ≠ 0) (e : u * d' = u' * d) : frN u d = frN u' d' ∧ frD u d = frD u' d' := by
  refine low_uniq (frD_pos h) (frD_pos h') (fr_cop h) (fr_cop h') ?_
  have c1 := fr_cross (u := u) (d := d)
  have c2 := fr_cross (u := u') (d := d')
  have hz : d * d' ≠ 0 := Int.mul_ne_zero h h'
  refine Int.eq_of_mul_eq_mul_right hz ?_
  calc frN u d * frD u' d' * (d * d') = (frN u d * d) * (frD u' d' * d') := by
        rw [Int.mul_assoc, Int.mul_assoc, ← Int.mul_assoc (frD u' d') d d', Int.mul_comm (frD u' d') d, Int.mul_assoc]
    _ = (u * frD u d) * (frD u' d' * d') := by rw [c1]
    _ = (u * d') * (frD u d * frD u' d') := by
        rw [Int.mul_assoc, Int.mul_assoc, Int.mul_comm (frD u' d') d', ← Int.mul_assoc (frD u d), Int.mul_comm (frD u d) d', Int.mul_assoc]
    _ = (u' * d) * (frD u d * frD u' d') := by rw [e]
    _ = (u' * frD u' d') * (frD u d * d) := by
        rw [Int.mul_assoc, Int.mul_assoc, Int.mul_comm (frD u d) (frD u' d'), ← Int.mul_assoc d, Int.mul_comm d, Int.mul_assoc (frD u' d'), Int.mul_comm d]
    _ = (frN u' d' * d') * (frD u d * d) := by rw [c2]
    _ = frN u' d' * frD u d * (d * d') := by
        rw [Int.mul_assoc, Int.mul_assoc, ← Int.mul_assoc d', Int.mul_comm d' (frD u d), Int.mul_assoc, Int.mul_comm d' d]
theorem fr_low {a b : Int} (hb : 0 < b) (g : Nat.gcd a.natAbs b.natAbs = 1) : frN a b = a ∧ frD a b = b := by
  have e : gc a b = 1 := by
    unfold gc
    rw [if_neg (by omega), g]
    rfl
  unfold frN frD
  rw [e]
  exact ⟨Int.fdiv_one a, Int.fdiv_one b⟩
theorem fr_one (a : Int) : frN a 1 = a ∧ frD a 1 = 1 := fr_low (by decide) (by simp)
/-- the sign of the upper number of a fraction with a lower number above 0 -/
theorem frN_sign {u d : Int} (h : 0 < d) : (0 < frN u d ↔ 0 < u) ∧ (frN u d < 0 ↔ u < 0) := by
  have c := fr_cross (u := u) (d := d)
  have p := frD_pos (u := u) (d := d) (by omega)
  refine ⟨⟨fun z => ?_, fun z => ?_⟩, ⟨fun z => ?_, fun z => ?_⟩⟩
  · have q : 0 < u * frD u d := by rw [← c]; exact Int.mul_pos z h
    exact Int.pos_of_mul_pos_left q p
  · have q : 0 < frN u d * d := by rw [c]; exact Int.mul_pos z p
    exact Int.pos_of_mul_pos_left q h
  · have q : u * frD u d < 0 := by rw [← c]; exact Int.mul_neg_of_neg_of_pos z h
    exact Int.neg_of_mul_neg_left q p
  · have q : frN u d * d < 0 := by rw [c]; exact Int.mul_neg_of_neg_of_pos z p
    exact Int.neg_of_mul_neg_left q h
end FoM

set_option maxHeartbeats 4100000
/-! Rules that the layer lacks: operators of own classes, powers and quotients of greater ints, calls by keywords alone. -/
namespace FoA
open PySem PySem.Spec PyProof.Rows L2
section
variable {X : Cx}
/-! ### numbers -/
def CPowW (i j : Int) : Prop := 0 ≤ j ∧ j ≤ 1000 ∧ i.natAbs < 2 ^ 1000
theorem bits_of {i : Int} {n : Nat} (h0 : 0 < n) (h : i.natAbs < 2 ^ n) : Builtin.Int.intBits i ≤ n := by
  have z := PySem.Flt.log2_lt_of h0 h
  unfold Builtin.Int.intBits
  split <;> omega
theorem op_powW : OpR X (binaryOp .Pow) (rI CPowW fun i j => .int (i ^ j.toNat)) := opI fun i j _ _ _ _ _ hc q => by
  obtain ⟨h1, h2, h3⟩ := hc
  refine pow_int h1 ?_ q
  have b := bits_of (by decide) h3
  have b2 : (Builtin.Int.intBits i : Int) ≤ 1000 := by omega
  have b3 : (Builtin.Int.intBits i : Int) * j ≤ 1000 * 1000 := Int.mul_le_mul b2 h2 h1 (by decide)
  exact Int.le_trans b3 (by decide)
/-- // by any divisor but 0 below 2 ^ 9000 -/
def CDivZ (_ j : Int) : Prop := j ≠ 0 ∧ j.natAbs.log2 < 9000
theorem op_fdivZ : OpR X (binaryOp .FloorDiv) (rI CDivZ fun i j => .int (i.fdiv j)) :=
  opI fun _ _ _ _ _ _ _ hc q => floordiv_int hc.1 q (.inl (PyProof.noPylong_of_log2 hc.2))
theorem divZ_of {i j : Int} {b : Nat} (h : j ≠ 0) (hb : j.natAbs < 2 ^ b) (h0 : 0 < b) (h9 : b ≤ 9000) : CDivZ i j :=
  ⟨h, Nat.lt_of_lt_of_le (PySem.Flt.log2_lt_of h0 hb) h9⟩

/-! ### what a method hands back is never NotImplemented -/
theorem back_ok {pz : List (Addr × Obj)} {τ : L2.St} {Q : VK} {u : Value} {s : Shared} (h : EP X pz τ Q u s) :
    PySem.W.CmpBack (EP X pz τ Q) u s := by
  obtain ⟨v, H, I, r, q⟩ := h
  have z : EP X pz τ Q u s := ⟨v, H, I, r, q⟩
  cases v with
  | non => cases (show u = Value.none from r); exact z
  | bl b => cases (show u = Value.bool b from r); exact z
  | int i => obtain ⟨t, e⟩ := (show ∃ t, u = Value.int i t from r); cases e; exact z
  | str x => obtain ⟨t, e⟩ := (show ∃ t, u = Value.str x t from r); cases e; exact z
  | byt b => obtain ⟨t, e⟩ := (show ∃ t, u = Value.bytes b t from r); cases e; exact z
  | flt b => obtain ⟨t, e⟩ := (show ∃ t, u = Value.float b t from r); cases e; exact z
  | ref a => cases (show u = Value.ref a from r); exact z
  | ty n => cases (show u = Value.type n from r); exact z

/-! ### a op b, a of an own class, b of the class or an int -/
/-- what the written part says of the class's method for op -/
structure BinC (K : PySem.W.Frag) (C f : Addr) (op : Operator) : Prop where
  sf : PySem.W.selfFirst K C = true
  at_ : PySem.W.findIn K (.ref C) (PySem.dunder op.info.2) = some (some (.ref f))
  (fn : PySem.W.isFn K (.ref f) = true)
  nr : PySem.W.findIn K (.ref C) (dunderR op.info.2) = some none
  ni : PySem.W.subIn K (.type "int") (.ref C) = some false
def rBin (C : Addr) (sp : Sp) (E : XK) : R2 := fun x y H Q => ∃ a dx fs, x = .ref a ∧ H a = some (.ins C dx fs) ∧
  ((∃ i, y = .int i) ∨ ∃ b dy gs, y = .ref b ∧ H b = some (.ins C dy gs)) ∧ sp [x, y] H Q E
section
variable {CX : CXT} {k : Nat} {C f : Addr} {fd : FuncData} {ps : List Str} {sp : Sp} {E : XK} {op : Operator}
theorem op_own {fo ro : Option Value} (F : FnOk X.prog X.w X.K X.mg X.base CX k f fd ps sp) (hr : Room k X.A) (hb : Binds X.K fd ps []) (hx : Passes CX X E) (B : BinC X.K C f op)
    (h1 : PySem.W.findIn X.K (.type "int") (PySem.dunder op.info.2) = some fo) (h2 : PySem.W.findIn X.K (.type "int") (dunderR op.info.2) = some ro) : OpR X (binaryOp op) (rBin C sp E) := by
  intro pz s τ H x y v u Q I rx ry h
  obtain ⟨a, dx, fs, rfl, ea, hy, q⟩ := h
  cases rx
  obtain ⟨mA, J, _⟩ := ins_get I.hok ea
  obtain ⟨od, J, _⟩ := J.look
  obtain ⟨m, hF⟩ := I.fr
  have call := run_fn (us := [.ref a, u]) (vs := [.ref a, y]) (dvs := []) F hr hb .nil hx I (.cons rfl (.cons ry .nil)) (by simpa using q)
  have back := wpAny_mono call (fun r s' z => back_ok z) fun _ _ e => e
  rcases hy with ⟨i, rfl⟩ | ⟨b, dy, gs, rfl, eb⟩
  · obtain ⟨t, rfl⟩ := ry
    exact PySem.W.ksp_binT hF I.ok.mod.kin J rfl B.sf B.at_ B.fn B.nr (.inl rfl) h1 h2 B.ni back
  · cases ry
    obtain ⟨mB, J', _⟩ := ins_get I.hok eb
    obtain ⟨od', J', _⟩ := J'.look; exact PySem.W.binop_K hF I.ok.mod.kin J J'.type B.sf B.at_ B.fn back
/-- -a, a of an own class -/
theorem un_own (F : FnOk X.prog X.w X.K X.mg X.base CX k f fd ps sp) (hr : Room k X.A) (hb : Binds X.K fd ps []) (hx : Passes CX X E)
    (h1 : PySem.W.findIn X.K (.ref C) "__neg__" = some (some (.ref f))) (h2 : PySem.W.isFn X.K (.ref f) = true) :
    UnR X (unaryOp .USub) (fun x H Q => ∃ a dx fs, x = .ref a ∧ H a = some (.ins C dx fs) ∧ sp [x] H Q E) := by
  intro pz s τ H x v Q I rx h
  obtain ⟨a, dx, fs, rfl, ea, q⟩ := h
  cases rx
  obtain ⟨mA, J, _⟩ := ins_get I.hok ea
  obtain ⟨od, J, _⟩ := J.look
  obtain ⟨m, hF⟩ := I.fr
  exact PySem.W.ksp_neg hF I.ok.mod.kin J h1 h2 (run_fn (us := [.ref a]) (vs := [.ref a]) (dvs := []) F hr hb .nil hx I (.cons rfl .nil) (by simpa using q))
/-! ### a == b, a < b, a <= b by an own method: b a plain value, a list, a tuple, a dict, an object of the class -/
inductive OthV (H : Hp) (C : Addr) : V → Prop where
  | non : OthV H C .non
  | bl (b : Bool) : OthV H C (.bl b)
  | int (i : Int) : OthV H C (.int i)
  | str (x : Str) : OthV H C (.str x)
  | lst {a : Addr} {xs : List V} (e : H a = some (.lst xs)) : OthV H C (.ref a)
  | tup {a : Addr} {xs : List V} (e : H a = some (.tup xs)) : OthV H C (.ref a)
  | dK {a : Addr} {xs : List (Key × V)} (e : H a = some (.dK xs)) : OthV H C (.ref a)
  | ins {a dx : Addr} {fs : List (Str × V)} (e : H a = some (.ins C dx fs)) : OthV H C (.ref a)
structure CmpC (K : PySem.W.Frag) (C f : Addr) (op : CmpOp) : Prop where
  at_ : PySem.W.findIn K (.ref C) (cmpInfo op).2.1 = some (some (.ref f))
  (fn : PySem.W.isFn K (.ref f) = true)
  nt : ∀ T ∈ ["NoneType", "bool", "int", "str", "list", "tuple", "dict"], PySem.W.subIn K (.type T) (.ref C) = some false
theorem CmpC.ty {K : PySem.W.Frag} {C f : Addr} {op : CmpOp} (c : CmpC K C f op) {T : String} (h : T ∈ ["NoneType", "bool", "int", "str", "list", "tuple", "dict"]) : PySem.W.notFirst K C (.type T) = true := by
  unfold PySem.W.notFirst
  rw [c.nt T h]
  exact Bool.or_eq_true_iff.mpr (.inr (beq_self_eq_true _))
def rCmp (C : Addr) (sp : Sp) (E : XK) : R2 := fun x y H Q => ∃ a dx fs, x = .ref a ∧ H a = some (.ins C dx fs) ∧ OthV H C y ∧ sp [x, y] H Q E
theorem look_type {pz : List (Addr × Obj)} {s : Shared} {τ : L2.St} {H : Hp} {a : Addr} {T : String} (o : Obj) (h : s.heap.get? a = some o) (c : o.cls = .type T) {M : Model} :
    PySem.W.Looks M s.heap (typeOf (.ref a)) (.type T) := fun A Q E s k q => wpAny_typeOf_ref (k _ _ h) (by rw [c]; exact q)
theorem op_ownC {op : CmpOp} (F : FnOk X.prog X.w X.K X.mg X.base CX k f fd ps sp) (hr : Room k X.A) (hb : Binds X.K fd ps []) (hx : Passes CX X E) (B : CmpC X.K C f op)
    (ho : ∀ v u : Value, compareOp op v u = richCompare op v u) : OpR X (compareOp op) (rCmp C sp E) := by
  intro pz s τ H x y v u Q I rx ry h
  obtain ⟨a, dx, fs, rfl, ea, hy, q⟩ := h
  cases rx
  rw [ho]
  obtain ⟨mA, J, _⟩ := ins_get I.hok ea
  obtain ⟨od, J, _⟩ := J.look
  obtain ⟨m, hF⟩ := I.fr
  have call := run_fn (us := [.ref a, u]) (vs := [.ref a, y]) (dvs := []) F hr hb .nil hx I (.cons rfl (.cons ry .nil)) (by simpa using q)
  have back := wpAny_mono call (fun r s' z => back_ok z) fun _ _ e => e
  have hu := hr.units0
  cases hy with
  | non => cases ry; exact PySem.W.cmp_K hu hF I.ok.mod.kin J (PySem.W.Looks.of_pure rfl) (B.ty (T := "NoneType") (by simp)) B.at_ B.fn back
  | bl b => cases ry; exact PySem.W.cmp_K hu hF I.ok.mod.kin J (PySem.W.Looks.of_pure rfl) (B.ty (T := "bool") (by simp)) B.at_ B.fn back
  | int i => obtain ⟨t, rfl⟩ := ry; exact PySem.W.cmp_K hu hF I.ok.mod.kin J (PySem.W.Looks.of_pure rfl) (B.ty (T := "int") (by simp)) B.at_ B.fn back
  | str z => obtain ⟨t, rfl⟩ := ry; exact PySem.W.cmp_K hu hF I.ok.mod.kin J (PySem.W.Looks.of_pure rfl) (B.ty (T := "str") (by simp)) B.at_ B.fn back
  | @lst b xs e =>
    cases ry
    obtain ⟨_, _, n, _, h1⟩ := (show ObjOk X.prog X.w H s.heap b (.lst xs) from I.hok b _ e)
    exact PySem.W.cmp_K hu hF I.ok.mod.kin J (look_type (pz := pz) (τ := τ) (H := H) _ h1 rfl) (B.ty (T := "list") (by simp)) B.at_ B.fn back
  | @tup b xs e =>
    cases ry
    obtain ⟨_, _, _, o, h1, h2, _⟩ := (show ObjOk X.prog X.w H s.heap b (.tup xs) from I.hok b _ e)
    exact PySem.W.cmp_K hu hF I.ok.mod.kin J (look_type (pz := pz) (τ := τ) (H := H) _ h1 h2) (B.ty (T := "tuple") (by simp)) B.at_ B.fn back
  | @dK b xs e =>
    cases ry
    obtain ⟨_, _, vs, _, o, es, ep, h1, h2, _⟩ := (show ObjOk X.prog X.w H s.heap b (.dK xs) from I.hok b _ e)
    exact PySem.W.cmp_K hu hF I.ok.mod.kin J (look_type (pz := pz) (τ := τ) (H := H) _ h1 h2.1) (B.ty (T := "dict") (by simp)) B.at_ B.fn back
  | @ins b dy gs e =>
    cases ry
    obtain ⟨mB, J', _⟩ := ins_get I.hok e
    obtain ⟨od', J', _⟩ := J'.look; exact PySem.W.cmp_K hu hF I.ok.mod.kin J J'.type (by simp [PySem.W.notFirst]) B.at_ B.fn back
end
end
section
variable {X : Cx}
theorem call_intI : CallR X (.type "int") (fun xs H Q => ∃ i, xs = [.int i] ∧ Q (.int i) H) := fun pz s τ H xs us Q I r h =>
  call_int1 pz s τ H xs us Q I r (.inl h)
theorem call_intB : CallR X (.type "int") (fun xs H Q => ∃ k, xs = [.bl k] ∧ Q (.int (if k then 1 else 0)) H) := fun pz s τ H xs us Q I r h =>
  call_int1 pz s τ H xs us Q I r (.inr h)
end
end FoA

set_option maxHeartbeats 4100000
/-! A hook whose facts are free Bools of the written part; defs at any address. -/
namespace FoZ
open PySem PySem.Spec PyProof.Rows L2
abbrev Fr1 := PySem.W.Frag
/-- what is looked at: all of the Bools, and the defs -/
def look (bs : List (Fr1 → Bool)) (ds : List He5.DefA) (K : Fr1) : Bool × List He.FnW :=
  ((bs.all fun b => b K) && ds.all fun d => d.ok K, ds.map fun d => He5.fnA K (d.at_ K))
def want (ds : List He5.DefA) : Bool × List He.FnW := (true, ds.map He5.DefA.val)
def Told (bs : List (Fr1 → Bool)) (ds : List He5.DefA) (K : Fr1) : Prop := look bs ds K = want ds
def lookG (n : Nat) (bs : List (Fr1 → Bool)) (ds : List He5.DefA) (g : Addr → Option Obj) : Bool × List He.FnW :=
  look bs ds (He.frG g (He5.asA g n))
/-- the same at addresses that are written out -/
def lookL (as : List Addr) (bs : List (Fr1 → Bool)) (ds : List He5.DefA) (g : Addr → Option Obj) : Bool × List He.FnW := look bs ds (He.frG g as)
def hookL (as : List Addr) (bs : List (Fr1 → Bool)) (ds : List He5.DefA) : PySem.W.Hook where
  α := Bool × List He.FnW
  obs := fun s => lookL as bs ds s.heap.get?
  val := fun _ => want ds
  says := fun _ h => ∃ K : Fr1, K.In h ∧ Told bs ds K
  of := fun _ _ e => ⟨_, He.frG_in, e⟩
  keeps := fun _ _ _ ⟨K, hKK, c⟩ k => ⟨K, PySem.W.Frag.In.keeps hKK k, c⟩
theorem lookL_eq {as : List Addr} {bs : List (Fr1 → Bool)} {ds : List He5.DefA} {g : Addr → Option Obj} {s : Shared}
    (h : ∀ a, g a = s.heap.get? a) : lookL as bs ds g = (hookL as bs ds).obs s := by
  have e : g = s.heap.get? := funext h; rw [e]
  rfl
def hook (n : Nat) (bs : List (Fr1 → Bool)) (ds : List He5.DefA) : PySem.W.Hook where
  α := Bool × List He.FnW
  obs := fun s => lookG n bs ds s.heap.get?
  val := fun _ => want ds
  says := fun _ h => ∃ K : Fr1, K.In h ∧ Told bs ds K
  of := fun _ _ e => ⟨_, He.frG_in, e⟩
  keeps := fun _ _ _ ⟨K, hKK, c⟩ k => ⟨K, PySem.W.Frag.In.keeps hKK k, c⟩
theorem lookG_eq {n : Nat} {bs : List (Fr1 → Bool)} {ds : List He5.DefA} {g : Addr → Option Obj} {s : Shared}
    (h : ∀ a, g a = s.heap.get? a) : lookG n bs ds g = (hook n bs ds).obs s := by
  have e : g = s.heap.get? := funext h; rw [e]
  rfl
section
variable {bs : List (Fr1 → Bool)} {ds : List He5.DefA} {K : Fr1}
theorem Told.bool (c : Told bs ds K) (i : Nat) {b : Fr1 → Bool} (h : bs[i]? = some b := by rfl) : b K = true := by
  have c0 : ((bs.all fun b => b K) && ds.all fun d => d.ok K) = true := congrArg Prod.fst c
  have c1 := (Bool.and_eq_true_iff.mp c0).1
  exact List.all_eq_true.mp c1 b (List.mem_of_getElem? h)
theorem Told.defn (c : Told bs ds K) (i : Nat) {d : He5.DefA} (h : ds[i]? = some d := by rfl) :
    ∃ fd, FunD K d.name d.qual d.params d.body d.scope (d.dvs K) (d.kws K) (d.at_ K) fd := by
  have c0 : ((bs.all fun b => b K) && ds.all fun d => d.ok K) = true := congrArg Prod.fst c
  have c1 := (Bool.and_eq_true_iff.mp c0).2
  have e : ds.map (fun d => He5.fnA K (d.at_ K)) = ds.map He5.DefA.val := congrArg Prod.snd c
  have e1 : (ds.map fun d => He5.fnA K (d.at_ K))[i]? = (ds.map He5.DefA.val)[i]? := by rw [e]
  rw [List.getElem?_map, List.getElem?_map, h] at e1
  exact He5.DefA.funD (Option.some.inj e1) (List.all_eq_true.mp c1 d (List.mem_of_getElem? h))
end
/-! ### further Bools -/
/-- the getter of a property m of the class that the name x stands for -/
def pg (K : Fr1) (x m : Str) : Addr := match PySem.W.recIn K (He.ma K (He.ga K x) m) "property" with
  | some (.ref g :: _) => g
  | _ => 0
def propB (x m : Str) (K : Fr1) : Bool :=
  He.eqO (PySem.W.findIn K (.ref (He.ga K x)) m) (some (some (.ref (He.ma K (He.ga K x) m)))) &&
  (He.eqO (PySem.W.specialIn K (.ref (He.ma K (He.ga K x) m)) "__get__") (some (some (.builtin "property.__get__"))) &&
  (decide (PySem.W.takesIn K (.ref (He.ma K (He.ga K x) m)) = some true) && (match PySem.W.recIn K (He.ma K (He.ga K x) m) "property" with
    | some (.ref _ :: _) => true
    | _ => false)))
theorem prop_ok {K : Fr1} {x m : Str} (h : propB x m K = true) : PropOf K (He.ga K x) m (He.ma K (He.ga K x) m) (pg K x m) := by
  obtain ⟨h1, h⟩ := He.ba h
  obtain ⟨h2, h⟩ := He.ba h
  obtain ⟨h3, h4⟩ := He.ba h
  refine ⟨He.eqO_ok h1, He.eqO_ok h2, of_decide_eq_true h3, ?_⟩
  unfold pg
  split at h4
  · rename_i g r e
    exact ⟨r, by rw [e]⟩
  · cases h4
def impB (x : Str) (id : String) (K : Fr1) : Bool := He.eqO (PySem.W.nsIn K mainGlobals x) (some (some (.builtin id)))
theorem imp_ok {K : Fr1} {h : Heap} {mg : Str → Option Value} (X : K.In h) (G : h.Ns mainGlobals mg) {x : Str} {id : String} (c : impB x id K = true) : mg x = some (.builtin id) :=
  PySem.W.mg_of X G (He.eqO_ok c)
def binB (x m r : Str) (K : Fr1) : Bool := PySem.W.selfFirst K (He.ga K x) && (He.eqO (PySem.W.findIn K (.ref (He.ga K x)) m) (some (some (.ref (He.ma K (He.ga K x) m)))) &&
  (PySem.W.isFn K (.ref (He.ma K (He.ga K x) m)) && (He.eqO (PySem.W.findIn K (.ref (He.ga K x)) r) (some none) && decide (PySem.W.subIn K (.type "int") (.ref (He.ga K x)) = some false))))
def tyNames : List String := ["NoneType", "bool", "int", "str", "list", "tuple", "dict"]
def cmpB (x m : Str) (K : Fr1) : Bool := He.eqO (PySem.W.findIn K (.ref (He.ga K x)) m) (some (some (.ref (He.ma K (He.ga K x) m)))) &&
  (PySem.W.isFn K (.ref (He.ma K (He.ga K x) m)) && tyNames.all fun T => decide (PySem.W.subIn K (.type T) (.ref (He.ga K x)) = some false))
/-- the binding of the law's one argument -/
theorem bind1 {K : Fr1} {x qual y : Str} {st : Stmt} {f : Addr} {fd : FuncData} (F : Fun K x qual st f fd) (s : Shared) (v : Value)
    (h : ∀ (kV doc pm : Value) (an : Option Addr) (cv ct : Value), bindArgs (PySem.W.fnOf x qual (defArgs st) (defBody st) (defScope st) .none kV doc pm an cv ct) ⟨[v], []⟩ = pure [(y, v)] := by intros; rfl) : BindsTo s fd ⟨[v], []⟩ [(y, v)] := by
  obtain ⟨oc, od, kV, doc, pm, an, cv, ct, osl, rfl, lk, hcd⟩ := F.ex
  exact .of_eq (h kV doc pm an cv ct)
end FoZ

set_option maxHeartbeats 4100000
namespace FoB
open PySem PySem.Spec PyProof.Rows L2 FoZ
section
variable {K : PySem.W.Frag} {x m r : Str}
theorem bin_raw {op : Operator} (h : binB x m r K = true) (hm : PySem.dunder op.info.2 = m) (hr : dunderR op.info.2 = r) : FoA.BinC K (He.ga K x) (He.ma K (He.ga K x) m) op := by
  obtain ⟨h1, h⟩ := He.ba h
  obtain ⟨h2, h⟩ := He.ba h
  obtain ⟨h3, h⟩ := He.ba h
  obtain ⟨h4, h5⟩ := He.ba h
  exact ⟨h1, by rw [hm]; exact He.eqO_ok h2, h3, by rw [hr]; exact He.eqO_ok h4, of_decide_eq_true h5⟩
theorem bin_add (h : binB x "__add__" "__radd__" K = true) : FoA.BinC K (He.ga K x) (He.ma K (He.ga K x) "__add__") .Add := bin_raw h (by kernel_rfl) (by kernel_rfl)
theorem bin_sub (h : binB x "__sub__" "__rsub__" K = true) : FoA.BinC K (He.ga K x) (He.ma K (He.ga K x) "__sub__") .Sub := bin_raw h (by kernel_rfl) (by kernel_rfl)
theorem bin_mul (h : binB x "__mul__" "__rmul__" K = true) : FoA.BinC K (He.ga K x) (He.ma K (He.ga K x) "__mul__") .Mult := bin_raw h (by kernel_rfl) (by kernel_rfl)
theorem cmp_raw {op : CmpOp} (h : cmpB x m K = true) (hm : (cmpInfo op).2.1 = m) : FoA.CmpC K (He.ga K x) (He.ma K (He.ga K x) m) op := by
  obtain ⟨h1, h⟩ := He.ba h
  obtain ⟨h2, h3⟩ := He.ba h
  exact ⟨by rw [hm]; exact He.eqO_ok h1, h2, fun T hT => of_decide_eq_true (List.all_eq_true.mp h3 T hT)⟩
theorem cmp_eq (h : cmpB x "__eq__" K = true) : FoA.CmpC K (He.ga K x) (He.ma K (He.ga K x) "__eq__") .Eq := cmp_raw h rfl
theorem cmp_lt (h : cmpB x "__lt__" K = true) : FoA.CmpC K (He.ga K x) (He.ma K (He.ga K x) "__lt__") .Lt := cmp_raw h rfl
theorem cmp_le (h : cmpB x "__le__" K = true) : FoA.CmpC K (He.ga K x) (He.ma K (He.ga K x) "__le__") .LtE := cmp_raw h rfl
end
section
variable {K : PySem.W.Frag} {x : Str}
/-! ### isinstance -/
/-- an object of x's class: what isinstance looks at; its class against int, bool, the class itself; the plain types against the class -/
def isiB (x : Str) (K : PySem.W.Frag) : Bool := He.eqO (PySem.W.findIn K (.ref (He.ga K x)) "__class__") (some (some (.builtin "object.__class__"))) &&
  (He.eqO (PySem.W.specialIn K (.builtin "object.__class__") "__get__") (some (some (.builtin "getset_descriptor.__get__"))) &&
  (decide (PySem.W.takesIn K (.builtin "object.__class__") = some true) && (decide (PySem.W.mroIn K (He.ga K x) (.type "object") = some true) &&
  (decide (PySem.W.kitOne K (.ref (He.ga K x)) (.type "int") = some false) && (decide (PySem.W.kitOne K (.ref (He.ga K x)) (.type "bool") = some false) &&
  tyNames.all fun T => decide (PySem.W.kitOne K (.type T) (.ref (He.ga K x)) = some false))))))
structure Isi (K : PySem.W.Frag) (D : Addr) : Prop where
  (ha : PySem.W.findIn K (.ref D) "__class__" = some (some (.builtin "object.__class__")))
  (hn : PySem.W.specialIn K (.builtin "object.__class__") "__get__" = some (some (.builtin "getset_descriptor.__get__")))
  (ht : PySem.W.takesIn K (.builtin "object.__class__") = some true)
  (hm : PySem.W.mroIn K D (.type "object") = some true)
  ki : PySem.W.kitOne K (.ref D) (.type "int") = some false
  kb : PySem.W.kitOne K (.ref D) (.type "bool") = some false
  kt : ∀ T ∈ tyNames, PySem.W.kitOne K (.type T) (.ref D) = some false
theorem isi_ok (h : isiB x K = true) : Isi K (He.ga K x) := by
  obtain ⟨h1, h⟩ := He.ba h
  obtain ⟨h2, h⟩ := He.ba h
  obtain ⟨h3, h⟩ := He.ba h
  obtain ⟨h4, h⟩ := He.ba h
  obtain ⟨h5, h⟩ := He.ba h
  obtain ⟨h6, h7⟩ := He.ba h
  exact ⟨He.eqO_ok h1, He.eqO_ok h2, of_decide_eq_true h3, of_decide_eq_true h4, of_decide_eq_true h5, of_decide_eq_true h6, fun T hT => of_decide_eq_true (List.all_eq_true.mp h7 T hT)⟩
theorem kit_self {K : PySem.W.Frag} {D : Addr} : PySem.W.kitOne K (.ref D) (.ref D) = some true := by
  unfold PySem.W.kitOne
  rw [if_pos (beq_self_eq_true (Value.ref D))]
/-- isinstance(e, D), e an object of D -/
theorem TyI {D a dx : Addr} {H : Hp} {fs : List (Str × V)} (i : Isi K D) (c : Cls K D) (e : H a = some (.ins D dx fs)) : TyX K H (.ref a) (.ref D) := .base (.ins e c i.ha i.hn i.ht i.hm)
/-! ### own errors -/
structure ErrC (K : PySem.W.Frag) (D : Addr) : Prop where
  ex : PySem.W.excIn K D He.veBase "ValueError.__new__" = true
  kp : PySem.W.keepIn K (.ref D) = true
  sb : PySem.W.subIn K (.ref D) (.type "BaseException") = some true
  ty : PySem.W.typeIn K (.ref D) = some (.type "type")
  me : PySem.W.exmOne K (.ref D) (.ref D) = some true
def errB (x : Str) (K : PySem.W.Frag) : Bool := (He.Fa.exc x).ok K && (He.Fa.exm x x true).ok K
theorem err_ok (h : errB x K = true) : ErrC K (He.ga K x) := by
  obtain ⟨h1, h2⟩ := He.ba h
  obtain ⟨a, b, c, d⟩ := He.exc_ok h1
  exact ⟨a, b, c, d, He.exm_ok h2⟩
/-- an error with an __init__ of its own -/
def oexB (x : Str) (f : Str) (K : PySem.W.Frag) : Bool := (match K.lookup (He.ga K x) with
    | some ⟨.type t, _, .cls cdt, slt⟩ => decide (t = "type") && ((match cdt.mro with
      | .ref D :: bm => decide (D = He.ga K x) && PySem.HandSPX.refsVE bm
      | _ => false) && (cdt.hasDict && (!cdt.hasDel && (match slt.toList with
      | [_, _, _, _, some (.builtin n), _] => decide (n = "ValueError.__new__")
      | _ => false))))
    | _ => false) &&
  (He.eqO (PySem.W.findIn K (.ref (He.ga K x)) "__setattr__") (some (some (.builtin "object.__setattr__"))) &&
  (decide (PySem.W.subIn K (.ref (He.ga K x)) (.type "BaseException") = some true) && (decide (PySem.W.typeIn K (.ref (He.ga K x)) = some (.type "type")) && (PySem.W.keepIn K (.ref (He.ga K x)) &&
  (He.eqO (PySem.W.findIn K (.ref (He.ga K x)) f) (some none) && ((He.Fa.exm x x true).ok K &&
  (He.eqO (PySem.W.findIn K (.ref (He.ga K x)) "__init__") (some (some (.ref (He.ma K (He.ga K x) "__init__")))) && (decide (PySem.W.typeIn K (.ref (He.ma K (He.ga K x) "__init__")) = some (.type "function")) &&
  (He.eqO (PySem.W.findIn K (.ref (He.ga K x)) "__getattribute__") (some (some (.builtin "BaseException.__getattribute__"))) && (He.eqO (PySem.W.findIn K (.ref (He.ga K x)) "__getattr__") (some none) && PySem.W.hasDictIn K (He.ga K x)))))))))))
structure OErr (K : PySem.W.Frag) (D fI : Addr) (f : Str) : Prop where
  ox : OexC K D
  no : PySem.W.findIn K (.ref D) f = some none
  me : PySem.W.exmOne K (.ref D) (.ref D) = some true
  iC : PySem.W.findIn K (.ref D) "__init__" = some (some (.ref fI))
  tI : PySem.W.typeIn K (.ref fI) = some (.type "function")
  ga : PySem.W.findIn K (.ref D) "__getattribute__" = some (some (.builtin "BaseException.__getattribute__"))
  gg : PySem.W.findIn K (.ref D) "__getattr__" = some none
  (hd : PySem.W.hasDictIn K D = true)
theorem oerr_ok {f : Str} (h : oexB x f K = true) : OErr K (He.ga K x) (He.ma K (He.ga K x) "__init__") f := by
  obtain ⟨h1, h⟩ := He.ba h
  obtain ⟨h2, h⟩ := He.ba h
  obtain ⟨h3, h⟩ := He.ba h
  obtain ⟨h4, h⟩ := He.ba h
  obtain ⟨h5, h⟩ := He.ba h
  obtain ⟨h6, h⟩ := He.ba h
  obtain ⟨h7, h⟩ := He.ba h
  obtain ⟨h8, h⟩ := He.ba h
  obtain ⟨h9, h⟩ := He.ba h
  obtain ⟨h10, h⟩ := He.ba h
  obtain ⟨h11, h12⟩ := He.ba h
  refine ⟨⟨?_, He.eqO_ok h2, of_decide_eq_true h3, of_decide_eq_true h4, h5⟩, He.eqO_ok h6, He.exm_ok h7, He.eqO_ok h8, of_decide_eq_true h9, He.eqO_ok h10, He.eqO_ok h11, h12⟩
  generalize He.ga K x = D at h1
  split at h1
  · rename_i t dd cdt slt lk
    obtain ⟨g1, g⟩ := He.ba h1
    obtain ⟨g2, g⟩ := He.ba g
    obtain ⟨g3, g⟩ := He.ba g
    obtain ⟨g4, g5⟩ := He.ba g
    have e1 : t = "type" := of_decide_eq_true g1
    subst e1
    split at g2
    · rename_i C' bm hm
      obtain ⟨q1, q2⟩ := He.ba g2
      have e2 : C' = D := of_decide_eq_true q1
      subst e2
      split at g5
      · rename_i k0 k1 k2 k3 n k5 hs
        have e3 : n = "ValueError.__new__" := of_decide_eq_true g5
        subst e3
        obtain ⟨nm, bs, mro, ns, qn, hd, sn, sub, ab, col, del⟩ := cdt
        dsimp only at hm g3 g4
        subst hm g3
        have e4 : del = false := by
          cases del
          · rfl
          · cases g4
        subst e4
        have hsl : slt = #[k0, k1, k2, k3, some (.builtin "ValueError.__new__"), k5] := by
          obtain ⟨l⟩ := slt
          simp only at hs
          rw [hs]
        subst hsl
        exact ⟨nm, qn, ns, bs, bm, sn, sub, ab, col, dd, k0, k1, k2, k3, k5, lk, q2⟩
      · cases g5
    · cases g2
  · cases h1
end
section
variable {X : Cx} {D : Addr}
/-- X() -/
theorem pmk_own0 {x : Str} {p pos : Pos} (e : ErrC X.K D) (gC : X.mg x = some (.ref D)) (hg : Gl X x) (hdq : (x == ("__debug__" : Str)) = false := by decide) :
    L2.PMk X (.Call (.Name x p) [] [] pos) (fun _ H Q => Q (.ref D) none H) := by
  intro pz s τ H Q I h
  refine wpAny_Call_Name_kw (ld_glob I hg gC ?_ hdq)
  refine PySem.W.callWith_K0 I.kIn e.kp ?_
  show wpAny _ _ (call (.ref D) []) _ _ _
  obtain ⟨bm, N, nm, qn, bs, hdct, sn, sub, ab, col, dd, k0, k1, k2, k3, k5, mN, hC, hN, hni, T⟩ := exc_obj I.kIn e.ex
  refine wpAny_call_exc_subT PySem.F.excBase_ValueError T hC hN hni (fun h' e' hm => ?_) (Nat.zero_le _)
  exact mk_of I hm (raises_own e.sb e.ty) h (I.hok.gone hm.new)
end
end FoB

set_option maxHeartbeats 4100000
/-! The head of a program that begins with imports: the opening and the top by one kernel run each. -/
noncomputable section
namespace FoI
open PySem PySem.W PySem.Calls PyProof.Rows HandSHeadRun
/-- the state behind the opening, its heap as a tree -/
def treeOf (s : Shared) (r : PySem.W.BT × Nat) : SharedT := ⟨r.1, r.2, s.heap.life, s.gens, s.drawn, s.toks, s.os⟩
theorem treeOf_abs {s : Shared} {t : PySem.W.BT} {n : Nat} (e : putAll s.heap.objs.toList .nil 0 = some (t, n)) : (treeOf s (t, n)).abs = s := by
  have h := putAll_heap e
  show (⟨absHeap t n s.heap.life, s.gens, s.drawn, s.toks, s.os⟩ : Shared) = s
  rw [h]
def endS (st : SharedT → Thread → Option (SharedT × Thread)) (M : Nat) (p : Program) (s0 : Shared) : Option SharedT := match putAll s0.heap.objs.toList .nil 0 with
  | some (t, n) => frNat n fun n0 => goF st n0 (s0.heap.nsMap mainGlobals "__annotations__") M (treeOf s0 (t, n0)) (topStub p)
  | none => none
theorem endS_ok {M : Nat} {p : Program} {w : World} {s0 : Shared} {s : SharedT} (h : endS (stepT (denote treeTable) p w) M p s0 = some s) :
    topRun treeTable p w s0.heap.objs.size (s0.heap.nsMap mainGlobals "__annotations__") M s0 (topStub p) = some s.abs := by
  unfold endS at h
  cases e : putAll s0.heap.objs.toList .nil 0 with
  | none =>
    rw [e] at h
    cases h
  | some r =>
    obtain ⟨t, n⟩ := r
    rw [e] at h
    have h1 : (frNat n fun n0 => goF (stepT (denote treeTable) p w) n0 (s0.heap.nsMap mainGlobals "__annotations__") M (treeOf s0 (t, n0)) (topStub p)) = some s := h
    rw [frNat_eq] at h1
    have q := goF_ok h1
    have en : s0.heap.objs.size = n := by
      have eh := putAll_heap e
      have z : (absHeap t n s0.heap.life).objs.size = s0.heap.objs.size := by rw [eh]
      rw [← z]
      exact absHeap_size t n _
    rw [treeOf_abs e] at q
    rw [en]
    exact q
/-- the whole run, from nothing -/
def endI (tb : String → Option Builtin) (st : SharedT → Thread → Option (SharedT × Thread)) (M : Nat) (p : Program) (w : World) : Option (Shared × SharedT) :=
  match fencedOpening tb p w M with
  | some s0 => match endS st M p s0 with
    | some s => some (s0, s)
    | none => none
  | none => none
def looksI (p : Program) (s0 : Shared) (s : Shared) : Bool := (s0.heap.isNs mainGlobals && s0.gens.size == 0) && (staticsOk (importedModules p.main.body) s0.heap s.heap && namesBound p s.heap && gensDone s && laidKept s0.heap s.heap)
theorem left_imp {p q : Program} {lse : List PySem.Str} {Xt : Shared → Bool} {α : Type} {Yf : Shared → α} {Ya : World → α} {M : Nat}
    (run : ∀ w : World, (endI treeTable (stepT (denote treeTable) p w) M p w).map (fun s => (looksI p s.1 s.2.abs, openSeen q lse (importedModules p.main.body) Xt true s.2.abs, Yf s.2.abs)) = some (true, openGood q lse, Ya w)) :
    LeftO p q lse Xt Yf Ya M true := fun w => by
  obtain ⟨⟨s0, s⟩, hs, hv⟩ := Option.map_eq_some_iff.mp (run w)
  obtain ⟨m1, m2, m3⟩ : _ ∧ _ ∧ _ := by simpa only [Prod.mk.injEq] using hv
  unfold endI at hs
  cases e0 : fencedOpening treeTable p w M with
  | none =>
    rw [e0] at hs
    cases hs
  | some z =>
    rw [e0] at hs
    dsimp only at hs
    cases e1 : endS (stepT (denote treeTable) p w) M p z with
    | none =>
      rw [e1] at hs
      cases hs
    | some y =>
      rw [e1] at hs
      dsimp only at hs
      obtain ⟨rfl, rfl⟩ : z = s0 ∧ y = s := by
        have := Option.some.inj hs
        exact Prod.mk.inj this
      obtain ⟨a, b⟩ := Bool.and_eq_true_iff.mp m1
      have r := endS_ok e1
      have t : topFrom treeTable p w M z = some y.abs := by
        unfold topFrom
        rw [a]
        show (topRun treeTable p w z.heap.objs.size (z.heap.nsMap mainGlobals "__annotations__") M z (topStub p)).bind _ = _
        rw [r]
        show (match staticsOk (importedModules p.main.body) z.heap y.abs.heap && namesBound p y.abs.heap && gensDone y.abs && laidKept z.heap y.abs.heap with | true => some y.abs | false => none) = _
        rw [b]
      unfold openEnds
      rw [e0]
      show (topFrom treeTable p w M z).map _ = _
      rw [t]
      exact congrArg some (Prod.ext m2 m3)
/-- the run's equation at a world, by the library's twins -/
def RunI (r : OpenRow) (q : Program) (H : Hook) (ob : SharedT → H.α) (M : Nat) (lse : List PySem.Str) (w : World) : Prop :=
  (endI tabQ (stepQ (denQ tabQ) r.prog w) M r.prog w).map (fun s => (looksI r.prog s.1 s.2.abs, seenQ q lse (importedModules r.prog.main.body) (fun s => xlAt q [] s && recOk r.toRowW.records s) s.2.abs, ob s.2)) = some (true, openGood q lse, H.val w)
theorem head_imp {r : OpenRow} {q : Program} {H : Hook} {ob : SharedT → H.α} {M : Nat} {lse : List PySem.Str} {d : DefRec} {kwq : List (PySem.Str × PySem.Expr)} (ho : ∀ s : SharedT, ob s = H.obs s.abs)
    (run : ∀ w, RunI r q H ob M lse w)
    (hdef : defOf q r.name = some (d, kwq)) (hp : r.prog.theDef r.name = some (d.params, d.body, d.scope)) (hk : kwWritten? d.params.kwonlyargs d.params.kw_defaults = some kwq) (hwr : (!r.writes || r.records.isEmpty) = true)
    (k1 : r.wellSaid = true)
      (ok : (chainsOk q && opensWell r.prog && (frees r.toRowW && r.within.isEmpty)) = true) (hb : r.prog.bare) (hw : r.toRowW.promised)
    (call : WalkO q lse (XL q []) H.says r.toRowW d kwq fun f vs => PySem.call f vs) : r.Holds := by
  have lft : LeftO r.prog q lse (fun s => xlAt q [] s && recOk r.toRowW.records s) H.obs H.val M true :=
    left_imp fun w => by
      have z := run w
      have eob : ob = fun s => H.obs s.abs := funext ho
      unfold RunI at z
      rw [eob] at z
      have e2 : endI treeTable (stepT (denote treeTable) r.prog w) M r.prog w = endI tabQ (stepQ (denQ tabQ) r.prog w) M r.prog w := by
        rw [tabQ_eq, stepQ_eq, denQ_eq]
      rw [e2]
      simp only [seenQ_eq]
      exact z
  exact holds_open (r := r) (q := q) (loose := lse) (XP := XL q []) (YP := H.says) (d := d) (kwd := kwq) lft H.of H.keeps (fun s z => xl_of s (Bool.and_eq_true_iff.mp z).1) XL.keeps hdef hp hk (fun s z => recFacts_of (Bool.and_eq_true_iff.mp z).2) hwr k1 ok hb hw call
/-- the run told in parts: a declaration each -/
theorem run_of {r : OpenRow} {q : Program} {H : Hook} {ob : SharedT → H.α} {M : Nat} {lse : List PySem.Str} {w : World}
    (h1 : (endI tabQ (stepQ (denQ tabQ) r.prog w) M r.prog w).map (fun s => looksI r.prog s.1 s.2.abs) = some true)
    (h2 : (endI tabQ (stepQ (denQ tabQ) r.prog w) M r.prog w).map (fun s => seenQ q lse (importedModules r.prog.main.body) (fun s => xlAt q [] s && recOk r.toRowW.records s) s.2.abs) = some (openGood q lse))
    (h3 : (endI tabQ (stepQ (denQ tabQ) r.prog w) M r.prog w).map (fun s => ob s.2) = some (H.val w)) : RunI r q H ob M lse w := by
  unfold RunI
  revert h1 h2 h3
  generalize endI tabQ (stepQ (denQ tabQ) r.prog w) M r.prog w = x
  intro h1 h2 h3
  cases x with
  | none => cases h1
  | some s =>
    have a1 := Option.some.inj h1
    have a2 := Option.some.inj h2
    have a3 := Option.some.inj h3
    exact congrArg some (Prod.ext a1 (Prod.ext a2 a3))
theorem looks_app {n : Nat} {b1 b2 : List (FoZ.Fr1 → Bool)} {d1 d2 : List He5.DefA} {g : Addr → Option Obj} (h1 : FoZ.lookG n b1 d1 g = FoZ.want d1) (h2 : FoZ.lookG n b2 d2 g = FoZ.want d2) : FoZ.lookG n (b1 ++ b2) (d1 ++ d2) g = FoZ.want (d1 ++ d2) := by
  have a1 := (Prod.mk.inj h1)
  have a2 := (Prod.mk.inj h2)
  refine Prod.ext ?_ ?_
  · show ((b1 ++ b2).all _ && (d1 ++ d2).all _) = true
    obtain ⟨x1, y1⟩ := Bool.and_eq_true_iff.mp a1.1
    obtain ⟨x2, y2⟩ := Bool.and_eq_true_iff.mp a2.1
    rw [List.all_append, List.all_append, x1, x2, y1, y2]
    rfl
  · show (d1 ++ d2).map _ = (d1 ++ d2).map _
    rw [List.map_append, List.map_append]
    exact (congr (congrArg _ a1.2) a2.2)
theorem looks_map {α : Type} {x : Option (α × SharedT)} {n : Nat} {b1 b2 : List (FoZ.Fr1 → Bool)} {d1 d2 : List He5.DefA} (h1 : x.map (fun s => FoZ.lookG n b1 d1 (getT s.2)) = some (FoZ.want d1)) (h2 : x.map (fun s => FoZ.lookG n b2 d2 (getT s.2)) = some (FoZ.want d2)) :
    x.map (fun s => FoZ.lookG n (b1 ++ b2) (d1 ++ d2) (getT s.2)) = some (FoZ.want (d1 ++ d2)) := by
  cases x with
  | none => cases h1
  | some s => exact congrArg some (looks_app (Option.some.inj h1) (Option.some.inj h2))
theorem looks_appL {as : List Addr} {b1 b2 : List (FoZ.Fr1 → Bool)} {d1 d2 : List He5.DefA} {g : Addr → Option Obj} (h1 : FoZ.lookL as b1 d1 g = FoZ.want d1) (h2 : FoZ.lookL as b2 d2 g = FoZ.want d2) : FoZ.lookL as (b1 ++ b2) (d1 ++ d2) g = FoZ.want (d1 ++ d2) := by
  have a1 := (Prod.mk.inj h1)
  have a2 := (Prod.mk.inj h2)
  refine Prod.ext ?_ ?_
  · show ((b1 ++ b2).all _ && (d1 ++ d2).all _) = true
    obtain ⟨x1, y1⟩ := Bool.and_eq_true_iff.mp a1.1
    obtain ⟨x2, y2⟩ := Bool.and_eq_true_iff.mp a2.1
    rw [List.all_append, List.all_append, x1, x2, y1, y2]
    rfl
  · show (d1 ++ d2).map _ = (d1 ++ d2).map _
    rw [List.map_append, List.map_append]
    exact (congr (congrArg _ a1.2) a2.2)
theorem looks_mapL {α : Type} {x : Option (α × SharedT)} {as : List Addr} {b1 b2 : List (FoZ.Fr1 → Bool)} {d1 d2 : List He5.DefA} (h1 : x.map (fun s => FoZ.lookL as b1 d1 (getT s.2)) = some (FoZ.want d1)) (h2 : x.map (fun s => FoZ.lookL as b2 d2 (getT s.2)) = some (FoZ.want d2)) :
    x.map (fun s => FoZ.lookL as (b1 ++ b2) (d1 ++ d2) (getT s.2)) = some (FoZ.want (d1 ++ d2)) := by
  cases x with
  | none => cases h1
  | some s => exact congrArg some (looks_appL (Option.some.inj h1) (Option.some.inj h2))
end FoI

set_option maxHeartbeats 4100000
/-! Calls by keywords alone; calls whose exceptions are wished for at the caller's slots. -/
namespace FoC
open PySem PySem.Spec PyProof.Rows L2
section
variable {X : Cx} {CX : CXT} {k n : Nat} {f C : Addr} {fd : FuncData} {ps ks : List Str} {sp : Sp} {E : XK} {x m : Str} {p pos apos : Pos} {e o : Expr} {es : List Expr} {kws : List Keyword} {t tk : TA} {ta te : TE} {g : List Value → List Value → List Value} {gV : List V → List V → List V}
/-- f(k = v, ..) -/
theorem pe_callN0 (F : FnOk X.prog X.w X.K X.mg X.base CX k f fd ps sp) (hr : Room k X.A) (hg : Gl X x) (hg2 : X.mg x = some (.ref f)) (hk : PySem.W.keepIn X.K (.ref f) = true) (hb : KBn X.K fd ps 0 ks g gV) (hx : Passes CX X E)
    (hkw : PK X kws tk) (hall : (backToKw pos (keywordEach kws X.env)).all (·.1.isSome) = true := by rfl) (hks : (backToKw pos (keywordEach kws X.env)).filterMap (·.1) = ks := by rfl)
    (hdq : (x == ("__debug__" : Str)) = false := by decide) (hpq : ((backTo pos (starEach [] X.env)).any (·.1) || (backToKw pos (keywordEach kws X.env)).any (·.1.isNone)) = false := by rfl) :
    PE X (.Call (.Name x p) [] kws pos) (tCallN 0 ks.length sp gV E tNil tk) := by
  refine ⟨fun pz s τ H Q I h => ?_⟩
  refine wpAny_Call_Name_kw (ld_glob I hg hg2 ?_ hdq)
  refine PySem.W.callWith_KW0 (h₀ := X.base) I.ok.mod.kin hk hall ?_ hpq
  refine thn (hkw.run pos pz s τ H _ I h) fun ws s2 ⟨zz, H2, J2, rk, l1, l2, q2⟩ => ⟨J2.kIn, ?_⟩
  rw [hks]
  exact run_fnN (us := []) (vs := []) F hr hb hx J2 .nil rk l1 l2 q2
/-- o.m(k = v, ..) -/
def tMethN (C : Addr) (m : Str) (nk : Nat) (sp : Sp) (gV : List V → List V → List V) (E : XK) (ta : TE) (tk : TA) : TE := fun τ H Q => ta τ H fun x H1 => ∃ a dx fs, x = .ref a ∧ H1 a = some (.ins C dx fs) ∧ fs.lookup m = none ∧
  tk τ H1 fun zz H2 => zz.length = nk ∧ sp (gV [x] zz) H2 Q E
theorem pe_methN0 {pl : Sem Bool} (he : PE X o ta) (c : Cls X.K C) (hg2 : Meth X.K C m f) (F : FnOk X.prog X.w X.K X.mg X.base CX k f fd ps sp) (hr : Room k X.A) (hb : KBn X.K fd ps 1 ks g gV) (hx : Passes CX X E) (hkw : PK X kws tk)
    (hall : (backToKw pos (keywordEach kws X.env)).all (·.1.isSome) = true := by rfl) (hks : (backToKw pos (keywordEach kws X.env)).filterMap (·.1) = ks := by rfl)
    (hpq : ((backTo pos (starEach [] X.env)).any (·.1) || (backToKw pos (keywordEach kws X.env)).any (·.1.isNone)) = false := by rfl)
    (ht : eval (.Call (.Attribute o m apos) [] kws pos) X.env = (do
      let ov ← eval o X.env
      standAt apos.atName
      let (f, first) ← holding [ov] (getMethod ov m pl)
      callWith pos f first (backTo pos (starEach [] X.env)) (backToKw pos (keywordEach kws X.env))) := by rfl) :
    PE X (.Call (.Attribute o m apos) [] kws pos) (tMethN C m ks.length sp gV E ta tk) := by
  refine ⟨fun pz s τ H Q I h => ?_⟩
  refine PySem.W.methodCall_KW (pl := pl) (thn (he.run pz s τ H _ I h) fun u s1 ⟨x, H1, J1, rx, a, dx, fs, ex, ea, l, q⟩ => ?_) ht
  subst ex
  obtain rfl : u = Value.ref a := rx
  refine getmeth_ok J1 ea c hg2 l ?_
  refine PySem.W.callWith_KW0 (first := [.ref a]) (h₀ := X.base) I.ok.mod.kin hg2.kp hall ?_ hpq
  refine thn (hkw.run pos pz s1 τ H1 _ J1 q) fun ws s2 ⟨zz, H2, J2, rk, l2, q2⟩ => ⟨J2.kIn, ?_⟩
  rw [hks]
  exact run_fnN (us := [.ref a]) (vs := [.ref a]) F hr hb hx J2 (.cons rfl .nil) rk rfl l2 q2
/-- how a def without defaults binds: n values and the keywords ks -/
theorem kbn {K : PySem.W.Frag} {x qual : Str} {st : Stmt} {f : Addr} {fd : FuncData} {ps ks : List Str} {n : Nat} (g : {α : Type} → List α → List α → List α) (F : Fun K x qual st f fd)
    (hrel : ∀ {vs zz : List V} {us ws : List Value}, Vals vs us → Vals zz ws → Vals (g vs zz) (g us ws))
    (h : ∀ (kV doc pm : Value) (an : Option Addr) (cv ct : Value) (us ws : List Value), us.length = n → ws.length = ks.length →
      bindArgs (PySem.W.fnOf x qual (defArgs st) (defBody st) (defScope st) .none kV doc pm an cv ct) ⟨us, ks.zip ws⟩ = pure (ps.zip (g us ws))) : KBn K fd ps n ks (fun us ws => g us ws) (fun vs zz => g vs zz) := by
  obtain ⟨oc, od, kV, doc, pm, an, cv, ct, ol, rfl, lk, hcd⟩ := F.ex
  exact ⟨fun s us ws _ l1 l2 => .of_eq (h kV doc pm an cv ct us ws l1 l2), fun r1 rr => hrel r1 rr⟩
end
section
variable {X : Cx} {CX : CXT} {k : Nat} {f C : Addr} {fd : FuncData} {ps : List Str} {sp : Sp} {dvs : List V} {ds : List Value} {E : L2.St → XK} {x m : Str} {p pos apos : Pos} {e o : Expr} {es : List Expr} {t : TA} {ta : TE}
/-- o.m(e, ..), what is raised wished for at the slots -/
def tMethS (C : Addr) (m : Str) (sp : Sp) (dvs : List V) (E : L2.St → XK) (ta : TE) (t : TA) : TE := fun τ H Q => ta τ H fun x H1 => ∃ a dx fs, x = .ref a ∧ H1 a = some (.ins C dx fs) ∧ fs.lookup m = none ∧
  t τ H1 fun vs H2 => sp (x :: (vs ++ dvs)) H2 Q (E τ)
theorem pe_methS {pl : Sem Bool} (he : PE X o ta) (c : Cls X.K C) (hg2 : Meth X.K C m f) (F : FnOk X.prog X.w X.K X.mg X.base CX k f fd ps sp) (hr : Room k X.A) (hb : Binds X.K fd ps ds) (hd : Vals dvs ds) (hx : ∀ τ, PassesAt CX X τ (E τ)) (ha : PA X (e :: es) t)
    (hst : starEach (e :: es) X.env = (false, eval e X.env) :: starEach es X.env := by rfl) (hpq : (backTo pos (starEach es X.env)).any (·.1) = false := by rfl)
    (ht : eval (.Call (.Attribute o m apos) (e :: es) [] pos) X.env = (do
      let ov ← eval o X.env
      standAt apos.atName
      let (f, first) ← holding [ov] (getMethod ov m pl)
      callWith pos f first (backTo pos (starEach (e :: es) X.env)) (backToKw pos (keywordEach [] X.env))) := by rfl) :
    PE X (.Call (.Attribute o m apos) (e :: es) [] pos) (tMethS C m sp dvs E ta t) := by
  refine ⟨fun pz s τ H Q I h => ?_⟩
  refine PySem.W.methodCall_KW (pl := pl) (thn (he.run pz s τ H _ I h) fun u s1 ⟨x, H1, J1, rx, a, dx, fs, ex, ea, l, q⟩ => ?_) ht
  subst ex
  obtain rfl : u = Value.ref a := rx
  refine getmeth_ok J1 ea c hg2 l ?_
  refine PySem.W.callWith_K (first := [.ref a]) (h₀ := X.base) I.ok.mod.kin hg2.kp (thn (ha.run pos pz s1 τ H1 _ J1 q) fun us s2 ⟨vs, H2, J2, r, q2⟩ => ⟨J2.kIn, ?_⟩) hst hpq
  exact run_fnSD (us := .ref a :: us) (vs := .ref a :: vs) F hr hb hd (hx τ) J2 (.cons rfl r) q2
/-- C(e, ..), what is raised wished for at the slots -/
def tMakeS (C : Addr) (sp : Sp) (dvs : List V) (E : L2.St → XK) (t : TA) : TE := fun τ H Q => t τ H fun vs H1 => ∀ x dx, H1 x = none → H1 dx = none → dx ≠ x →
  sp (.ref x :: (vs ++ dvs)) (upd (upd H1 dx (.own x)) x (.ins C dx [])) (fun v H2 => v = .non ∧ Q (.ref x) H2) (E τ)
theorem run_makeS {pz : List (Addr × Obj)} {τ : L2.St} {H : Hp} {s : Shared} {Q : VK} {us : List Value} {vs : List V} (M : Mk X.K C f) (F : FnOk X.prog X.w X.K X.mg X.base CX k f fd ps sp) (hr : Room (k + 1) X.A) (hb : Binds X.K fd ps ds) (hd : Vals dvs ds)
    (hx : PassesAt CX X τ (E τ)) (I : Inv X pz τ H s) (r : Vals vs us)
    (h : ∀ x dx, H x = none → H dx = none → dx ≠ x → sp (.ref x :: (vs ++ dvs)) (upd (upd H dx (.own x)) x (.ins C dx [])) (fun v H2 => v = .non ∧ Q (.ref x) H2) (E τ)) :
    wpAny (model X.prog X.w) X.A (call (.ref C) us) (EP X pz τ Q) X.xe s := by
  have hj := h (s.heap.objs.size + 1) s.heap.objs.size (I.hok.fresh (Nat.le_succ _)) (I.hok.fresh (Nat.le_refl _)) (Nat.ne_of_lt (Nat.lt_succ_self _)); have J2 := Inv.made (C := C) I
  have rr : Vals (V.ref (s.heap.objs.size + 1) :: (vs ++ dvs)) (Value.ref (s.heap.objs.size + 1) :: (us ++ ds)) := .cons rfl (r.append hd)
  have hn : (Value.ref (s.heap.objs.size + 1) :: us ++ ds).length = ps.length := by
    have e := rr.length
    rw [F.len _ _ _ _ hj] at e
    exact e.symm
  refine wpAny_call (make_map (f := f) I.kIn M.makes M.init (beq_iff_eq.mp M.fn) (codeAny_mono (F.run _ X.stack _ _ ⟨Value.ref (s.heap.objs.size + 1) :: us, []⟩ (Value.ref (s.heap.objs.size + 1) :: (us ++ ds)) _ _ (E τ) (hr.make C us [])
    (J2.env0.make C us []) (hb _ (Value.ref (s.heap.objs.size + 1) :: us) J2.kIn hn) rr hj) fun r s' hq' => ?_))
  cases r with
  | error e => exact hx pz _ _ e s' J2 hq'
  | ok fl =>
    cases fl with
    | ret u =>
      obtain ⟨v, H', I3, rv, ev, q9⟩ := J2.after hq'
      subst ev
      exact ⟨rv, ⟨V.ref (s.heap.objs.size + 1), H', I3, rfl, q9⟩⟩
    | next | brk | cont => exact False.elim hq'
theorem pe_makeS (M : Mk X.K C f) (F : FnOk X.prog X.w X.K X.mg X.base CX k f fd ps sp) (hr : Room (k + 1) X.A) (hg : Gl X x) (hg2 : X.mg x = some (.ref C)) (hb : Binds X.K fd ps ds) (hd : Vals dvs ds) (hx : ∀ τ, PassesAt CX X τ (E τ))
    (ha : PA X (e :: es) t) (hdq : (x == ("__debug__" : Str)) = false := by decide) (he : starEach (e :: es) X.env = (false, eval e X.env) :: starEach es X.env := by rfl) (hpq : (backTo pos (starEach es X.env)).any (·.1) = false := by rfl) :
    PE X (.Call (.Name x p) (e :: es) [] pos) (tMakeS C sp dvs E t) := by
  refine ⟨fun pz s τ H Q I h => ?_⟩
  refine wpAny_Call_Name_kw (ld_glob I hg hg2 ?_ hdq)
  refine PySem.W.callWith_K (h₀ := X.base) I.ok.mod.kin M.kp (thn (ha.run pos pz s τ H _ I h) fun us s1 ⟨vs, H1, J1, r, q⟩ => ⟨J1.kIn, ?_⟩) he hpq
  exact run_makeS M F hr hb hd (hx τ) J1 r q
end
/-! ### an own error's field, read where it is held -/
section
variable {X : Cx} {C fI : Addr} {f : Str}
/-- e.f, e the exception that the suite holds (at a; its class cls, its dict d) -/
def tExF (f : Str) (C : Addr) (a : Addr) (cls : Value) (d : Option Addr) (te : TE) : TE := fun τ H Q => te τ H fun x H1 => x = .ref a ∧ cls = .ref C ∧ ∃ (dd : Addr) (v : V) (fs : List (Str × V)), d = some dd ∧ H1 dd = some (.xd fs) ∧ fs.lookup f = some v ∧ Q v H1
theorem pe_exF {a : Addr} {oe : Obj} {cls : Value} {d : Option Addr} {e : Expr} {te : TE} {pos : Pos} (T : FoB.OErr X.K C fI f) (hz : Zc cls d oe) (hf : ∃ vs, oe.data = .fields vs) (hg2 : (a, oe) ∈ X.pn) (he : PE X e te)
    (hb : attributeBase e f X.env (eval e X.env) = eval e X.env := by rfl) :
    PE X (.Attribute e f pos) (tExF f C a cls d te) := by
  refine ⟨fun pz s τ H Q I h => ?_⟩
  refine attr_of hb (thn (he.run pz s τ H _ I h) fun u s1 hh => ?_)
  obtain ⟨x, H1, J1, rx, ex, ec, dd, v, fs, ed, ea, hl1, q⟩ := hh
  subst ex
  obtain rfl : u = Value.ref a := rx
  subst ec
  subst ed
  obtain ⟨ha, _⟩ := J1.pin (a, oe) (List.mem_append_left _ hg2)
  obtain ⟨vs, hd⟩ := hf
  have hx : ObjOk X.prog X.w H1 s1.heap dd (.xd fs) := J1.hok dd _ ea
  obtain ⟨mA, hns, hr⟩ := hx
  obtain ⟨od, ho, hn⟩ := lookIn_ns hns
  obtain ⟨u, hu, ru⟩ := RelO.some_of (v := v) (o := mA f) (by rw [← hl1]; exact hr f)
  have J : PySem.W.InstAt s1.heap a oe C (some od) := ⟨ha, hz.1, by unfold PySem.W.notCls; rw [hd] <;> rfl, by rw [hz.2]; exact ho⟩
  exact HandSPX.exc_get J1.kIn J T.ga T.gg T.ox.exC (PySem.W.findObj_own T.hd T.no rfl (by rw [hn, hu])) (handed_of ru) ⟨v, H1, J1.tok _, ru, q⟩
end
end FoC

set_option maxHeartbeats 4100000
/-! Classmethods that raise into a try, classmethods called by keywords alone, a class called by a local name. -/
namespace FoD
open PySem PySem.Spec PyProof.Rows L2 ClX
section
variable {X : Cx} {pz : List (Addr × Obj)} {τ : L2.St} {H : Hp} {s : Shared}
theorem run_cmS {CX : CXT} {k : Nat} {q g C : Addr} {sp : Sp} {fd : FuncData} {ps : List Str} {E : L2.St → XK} {Q : VK} {us : List Value} {vs : List V} (F : FnOk X.prog X.w X.K X.mg X.base CX k g fd ps sp) (hr : Room k X.A) (hb : Binds X.K fd ps []) (hx : PassesAt CX X τ (E τ))
    (I : Inv X ((q, PySem.W.methodObj (.ref g) (.ref C)) :: pz) τ H s) (r : Vals vs us) (h : sp (.ref C :: vs) H Q (E τ)) : wpAny (model X.prog X.w) X.A (call (.ref q) us) (EP X pz τ Q) X.xe s := by
  have rr : Vals (V.ref C :: vs) (Value.ref C :: us) := .cons rfl r
  have hn : (Value.ref C :: us).length = ps.length := by rw [← rr.length]; exact F.len _ _ _ _ h
  have b := hb s (Value.ref C :: us) I.kIn (by rw [List.append_nil]; exact hn)
  rw [List.append_nil] at b
  have z : wpAny (model X.prog X.w) X.A (call (.ref q) us) (EP X ((q, PySem.W.methodObj (.ref g) (.ref C)) :: pz) τ Q) X.xe s := by
    refine wpAny_call (PySem.W.method_call (pin_at I) (codeAny_mono (F.run X.A X.stack s H ⟨Value.ref C :: us, []⟩ (Value.ref C :: us) (V.ref C :: vs) Q (E τ) hr I.env0 b rr h) fun r s' hj => ?_))
    cases r with
    | error e => exact hx _ H s e s' I hj
    | ok fl =>
      cases fl with
      | ret u => exact I.after hj
      | next | brk | cont => exact False.elim hj
  exact thn z fun _ _ yy => unpinE yy
theorem run_cmN {CX : CXT} {k : Nat} {q g C : Addr} {sp : Sp} {fd : FuncData} {ps ks : List Str} {gf : List Value → List Value → List Value} {gV : List V → List V → List V} {E : XK} {Q : VK} {ws : List Value} {zs : List V} (F : FnOk X.prog X.w X.K X.mg X.base CX k g fd ps sp) (hr : Room k X.A) (hb : KBn X.K fd ps 1 ks gf gV) (hx : Passes CX X E)
    (I : Inv X ((q, PySem.W.methodObj (.ref g) (.ref C)) :: pz) τ H s) (rz : Vals zs ws) (l2 : zs.length = ks.length) (h : sp (gV [.ref C] zs) H Q E) : wpAny (model X.prog X.w) X.A (call (.ref q) [] (ks.zip ws)) (EP X pz τ Q) X.xe s := by
  have r1 : Vals [V.ref C] [Value.ref C] := .cons rfl .nil
  have rr := hb.rel r1 rz
  have z : wpAny (model X.prog X.w) X.A (call (.ref q) [] (ks.zip ws)) (EP X ((q, PySem.W.methodObj (.ref g) (.ref C)) :: pz) τ Q) X.xe s := by
    refine wpAny_call (PySem.W.method_call (pin_at I) (codeAny_mono (F.run X.A X.stack s H ⟨[Value.ref C], ks.zip ws⟩ (gf [Value.ref C] ws) _ Q E hr I.env0 (hb.to s [Value.ref C] ws I.kIn rfl (rz.length.symm.trans l2)) rr h) fun r s' hj => ?_))
    cases r with
    | error e => exact hx _ _ _ _ e s' I hj
    | ok fl =>
      cases fl with
      | ret u => exact I.after hj
      | next | brk | cont => exact False.elim hj
  exact thn z fun _ _ yy => unpinE yy
end
section
variable {X : Cx} {CX : CXT} {k : Nat} {C p g : Addr} {mc : Value} {sp : Sp} {fd : FuncData} {ps ks : List Str} {o e : Expr} {es : List Expr} {kws : List Keyword} {m : Str} {pos apos : Pos} {ta : TE} {t tk : TA} {pl : Sem Bool}
def tCMethS (C : Addr) (sp : Sp) (E : L2.St → XK) (ta : TE) (t : TA) : TE := fun τ H Q => ta τ H fun x H1 => x = .ref C ∧ t τ H1 fun vs H2 => sp (.ref C :: vs) H2 Q (E τ)
theorem pe_cmethS {E : L2.St → XK} (he : PE X o ta) (r : CRead X.K C mc) (c : CMet X.K C mc m p g) (F : FnOk X.prog X.w X.K X.mg X.base CX k g fd ps sp) (hr : Room k X.A) (hb : Binds X.K fd ps []) (hx : ∀ τ, PassesAt CX X τ (E τ)) (ha : PA X (e :: es) t)
    (hs2 : starEach (e :: es) X.env = (false, eval e X.env) :: starEach es X.env := by rfl) (hpq : (backTo pos (starEach es X.env)).any (·.1) = false := by rfl)
    (hev : eval (.Call (.Attribute o m apos) (e :: es) [] pos) X.env = (do
      let ov ← eval o X.env
      standAt apos.atName
      let (fn, fst) ← holding [ov] (getMethod ov m pl)
      callWith pos fn fst (backTo pos (starEach (e :: es) X.env)) (backToKw pos (keywordEach [] X.env))) := by rfl) :
    PE X (.Call (.Attribute o m apos) (e :: es) [] pos) (tCMethS C sp E ta t) := by
  refine ⟨fun pz s τ H Q I h => ?_⟩
  refine PySem.W.methodCall_KW (pl := pl) (thn (he.run pz s τ H _ I h) fun u s1 ⟨x, H1, I1, rx, ex, q⟩ => ?_) hev
  subst ex
  obtain rfl : u = Value.ref C := rx; refine getmethcm_ok I1 r c fun s2 I2 => ?_
  refine callwith_cm I2 (base_none I1 (Nat.le_refl _)) c.fi (thn (ha.run pos _ s2 τ H1 _ I2 q) fun us s3 ⟨vs, H2, I3, rv, q2⟩ => ⟨⟨pin_at I3, I3.kIn⟩, ?_⟩) hs2 hpq
  exact run_cmS F hr hb (hx τ) I3 rv q2
def tCMethN (C : Addr) (nk : Nat) (sp : Sp) (gV : List V → List V → List V) (E : XK) (ta : TE) (tk : TA) : TE := fun τ H Q => ta τ H fun x H1 => x = .ref C ∧ tk τ H1 fun zs H2 => zs.length = nk ∧ sp (gV [.ref C] zs) H2 Q E
theorem pe_cmethN0 {E : XK} {gf : List Value → List Value → List Value} {gV : List V → List V → List V} (he : PE X o ta) (r : CRead X.K C mc) (c : CMet X.K C mc m p g) (F : FnOk X.prog X.w X.K X.mg X.base CX k g fd ps sp) (hr : Room k X.A) (hb : KBn X.K fd ps 1 ks gf gV) (hx : Passes CX X E) (hkw : PK X kws tk)
    (hall : (backToKw pos (keywordEach kws X.env)).all (·.1.isSome) = true := by rfl) (hks : (backToKw pos (keywordEach kws X.env)).filterMap (·.1) = ks := by rfl)
    (hpq : ((backTo pos (starEach [] X.env)).any (·.1) || (backToKw pos (keywordEach kws X.env)).any (·.1.isNone)) = false := by rfl)
    (hev : eval (.Call (.Attribute o m apos) [] kws pos) X.env = (do
      let ov ← eval o X.env
      standAt apos.atName
      let (fn, fst) ← holding [ov] (getMethod ov m pl)
      callWith pos fn fst (backTo pos (starEach [] X.env)) (backToKw pos (keywordEach kws X.env))) := by rfl) :
    PE X (.Call (.Attribute o m apos) [] kws pos) (tCMethN C ks.length sp gV E ta tk) := by
  refine ⟨fun pz s τ H Q I h => ?_⟩
  refine PySem.W.methodCall_KW (pl := pl) (thn (he.run pz s τ H _ I h) fun u s1 ⟨x, H1, I1, rx, ex, q⟩ => ?_) hev
  subst ex
  obtain rfl : u = Value.ref C := rx; refine getmethcm_ok I1 r c fun s2 I2 => ?_
  refine PySem.W.callWith_of (P := PySem.W.MethP X.K s1.heap.objs.size g (.ref C)) hpq (PySem.W.keeps_M c.fi) (evalArgs_kw2_nil hall ?_)
  refine thn (hkw.run pos _ s2 τ H1 _ I2 q) fun ws s3 ⟨zs, H2, I3, rz, l2, q2⟩ => ⟨⟨pin_at I3, I3.kIn⟩, ?_⟩
  rw [hks]
  exact run_cmN F hr hb hx I3 rz l2 q2
end
/-! ### x(e, ..), x a local name that holds a class -/
section
variable {X : Cx} {CX : CXT} {k i : Nat} {f C : Addr} {fd : FuncData} {ps : List Str} {sp : Sp} {dvs : List V} {ds : List Value} {E : XK} {x : Str} {p pos : Pos} {e : Expr} {es : List Expr} {t : TA}
def tMakeL (i : Nat) (C : Addr) (sp : Sp) (dvs : List V) (E : XK) (t : TA) : TE := fun τ H Q => τ[i]? = some (some (.ref C)) ∧ tMake C sp dvs E t τ H Q
theorem pe_makeL (M : Mk X.K C f) (F : FnOk X.prog X.w X.K X.mg X.base CX k f fd ps sp) (hr : Room (k + 1) X.A) (hN : X.N[i]? = some x) (hv : Vis X.env.scope x) (hb : Binds X.K fd ps ds) (hd : Vals dvs ds) (hx : Passes CX X E) (ha : PA X (e :: es) t)
    (hdq : (x == ("__debug__" : Str)) = false := by decide) (hcq : (x == ("__classdict__" : Str)) = false := by decide)
    (hs2 : starEach (e :: es) X.env = (false, eval e X.env) :: starEach es X.env := by rfl) (hpq : (backTo pos (starEach es X.env)).any (·.1) = false := by rfl) : PE X (.Call (.Name x p) (e :: es) [] pos) (tMakeL i C sp dvs E t) := by
  refine ⟨fun pz s τ H Q I h => ?_⟩
  obtain ⟨hs, ht⟩ := h
  have look := (pe_var (pos := p) hN hv hdq hcq).run pz s τ H (fun v H1 => v = .ref C ∧ H1 = H) I ⟨.ref C, hs, rfl, rfl⟩
  refine wpAny_Call_Name_kw (thn look fun u s1 ⟨v, H1, I1, r1, q1⟩ => ?_)
  obtain ⟨rfl, rfl⟩ := q1
  cases r1
  refine PySem.W.callWith_K (h₀ := X.base) I.ok.mod.kin M.kp (thn (ha.run pos pz s1 τ _ _ I1 ht) fun us s2 ⟨vs, H2, I2, r, q⟩ => ⟨I2.kIn, ?_⟩) hs2 hpq
  exact run_make M F hr hb hd hx I2 r q
end
def creadB (x : Str) (K : PySem.W.Frag) : Bool := PySem.W.readsIn K (He.ga K x) (.type "type") && He.eqO (PySem.W.specialIn K (.ref (He.ga K x)) "__getattribute__") (some (some (.builtin "type.__getattribute__")))
theorem cread_ok {K : PySem.W.Frag} {x : Str} (h : creadB x K = true) : CRead K (He.ga K x) (.type "type") := by
  obtain ⟨h1, h2⟩ := He.ba h
  exact ⟨h1, He.eqO_ok h2⟩
def cmetB (x m : Str) (K : PySem.W.Frag) : Bool := He5.wrapB K (He.ga K x) "classmethod" "classmethod.__get__" m && PySem.W.fnIn K (He5.wf K (He.ga K x) "classmethod" m)
theorem cmet_ok {K : PySem.W.Frag} {x m : Str} (h : cmetB x m K = true) : CMet K (He.ga K x) (.type "type") m (He.ma K (He.ga K x) m) (He5.wf K (He.ga K x) "classmethod" m) := by
  obtain ⟨h1, h2⟩ := He.ba h
  exact He5.cmet_of h1 h2
end FoD

set_option maxHeartbeats 4100000
/-! repr of scalars, and of lists and tuples of scalars, whatever is under way below. -/
namespace FoR
open PySem PySem.Spec PyProof.Rows L2
/-- what stands below may be taken as known -/
theorem wpAny_guards {α : Type} {M : Model} {A : Around} {t : Sem α} {Q : α → Shared → Prop} {E : Value → Shared → Prop} {s : Shared} (h : ∀ g, wpAny M { A with guards := some g } t Q E s) : wpAny M A t Q E s :=
  fun Γ p hΓ => h (Γ.code.guards ++ guardsOf Γ.below) Γ p ⟨hΓ.1, hΓ.2.1, hΓ.2.2.1, fun g hgd => Option.some.inj hgd, hΓ.2.2.2.2⟩
abbrev gd (X : Cx) (g : List Code) : Cx := { X with A := { X.A with guards := some g } }
section
variable {X : Cx} {pz : List (Addr × Obj)} {τ : L2.St} {H : Hp} {s : Shared} {g : List Code}
theorem ok_gd (okx : X.Ok) : (gd X g).Ok :=
  ⟨okx.mod, okx.kind, okx.glob, okx.blt, okx.above, okx.inj, okx.has, okx.cab, okx.hd, okx.frames, okx.stk, okx.exf, okx.bs, okx.bsz, okx.noex, okx.exfs, okx.funs, okx.frf⟩
theorem inv_gd (I : Inv X pz τ H s) : Inv (gd X g) pz τ H s :=
  ⟨ok_gd I.ok, I.os, I.bare, I.base, I.loc, I.cell, I.free, I.freeC, I.pin, I.hok, I.len⟩
theorem inv_of {okx : X.Ok} (I : Inv (gd X g) pz τ H s) : Inv X pz τ H s :=
  ⟨okx, I.os, I.bare, I.base, I.loc, I.cell, I.free, I.freeC, I.pin, I.hok, I.len⟩
theorem pe_gd {e : Expr} {t : List Code → TE} (h : ∀ g, PE (gd X g) e (t g)) : PE X e (fun τ H Q => ∀ g, t g τ H Q) := by
  refine ⟨fun pz s τ H Q I q => wpAny_guards fun g => ?_⟩
  refine wpAny_mono ((h g).run pz s τ H Q (inv_gd I) (q g)) (fun u s' z => ?_) fun _ _ z => z
  obtain ⟨v, H', I', r, q'⟩ := z
  exact ⟨v, H', inv_of (okx := I.ok) I', r, q'⟩
end
/-! ### texts -/
def scText : V → Str
  | .non => "None"
  | .bl b => if b then "True" else "False"
  | .int i => toString i
  | .str x => reprText x
  | _ => "?"
inductive Sc : V → Prop where
  | non : Sc .non
  | bl (b : Bool) : Sc (.bl b)
  | int (i : Int) (h : i.natAbs.log2 < 1920) : Sc (.int i)
  | str (x : Str) (h : (reprText x).length ≤ sizeLine) : Sc (.str x)
def lstF (self : Value) : Code × Pos → Bool := fun
  | (.builtin "list.__repr__.loop" ⟨v :: _, _⟩, _) => Builtin.List.listSameRef v self
  | _ => false
theorem lstF_cons (self : Value) (id : String) (v : Value) (rest : List Value) (kw : List (Str × Value)) (p : Pos) : lstF self (.builtin id ⟨v :: rest, kw⟩, p) = (decide (id = "list.__repr__.loop") && Builtin.List.listSameRef v self) := by
  by_cases h : id = "list.__repr__.loop"
  · subst h
    simp [lstF]
  · simp only [h, decide_false, Bool.false_and]
    unfold lstF
    split <;> simp_all
theorem lstF_nil (self : Value) (id : String) (kw : List (Str × Value)) (p : Pos) : lstF self (.builtin id ⟨[], kw⟩, p) = false := by
  unfold lstF
  split <;> simp_all
theorem lstF_pos (self : Value) (c : Code) (p : Pos) : lstF self (c, p) = lstF self (c, default) := by
  cases c with
  | builtin id args =>
    obtain ⟨pos, kw⟩ := args
    cases pos with
    | nil => rw [lstF_nil, lstF_nil]
    | cons v rest => rw [lstF_cons, lstF_cons]
  | _ => rfl
theorem lstF_off (self : Value) (c : Code) (p : Pos) (hcc : c.isGuard = false) : lstF self (c, p) = false := by
  cases c with
  | builtin id args =>
    obtain ⟨pos, kw⟩ := args
    cases pos with
    | nil => exact lstF_nil _ _ _ _
    | cons v rest =>
      simp [Code.isGuard, guardIds] at hcc
      rw [lstF_cons]
      simp [hcc]
  | _ => rfl
def way (f : Code × Pos → Bool) (g : List Code) : Bool := g.any fun c => f (c, default)
/-- what repr tells, g what is under way below -/
def seqText (g : List Code) (a : Addr) : HO → Str
  | .lst xs => if xs = [] then "[]" else if way (lstF (.ref a)) g then "[...]" else listText (xs.map scText)
  | .tup xs => if way (tupGuardF (.ref a)) g then "(...)" else tupleText (xs.map scText)
  | .dK _ => if way (dictGuardF (.ref a)) g then "{...}" else "{}"
  | _ => "?"
def repText (g : List Code) (H : Hp) : V → Str
  | .ref a => match H a with
    | some o => seqText g a o
    | none => "?"
  | v => scText v
inductive Sho (H : Hp) : V → Prop where
  | sc {v : V} (h : Sc v) : Sho H v
  | lst {a : Addr} {xs : List V} (e : H a = some (.lst xs)) (h : ∀ y ∈ xs, Sc y) (z : (listText (xs.map scText)).length ≤ sizeLine) : Sho H (.ref a)
  | tup {a : Addr} {xs : List V} (e : H a = some (.tup xs)) (h : ∀ y ∈ xs, Sc y) (z : (tupleText (xs.map scText)).length ≤ sizeLine) : Sho H (.ref a)
  | dic {a : Addr} (e : H a = some (.dK [])) : Sho H (.ref a)
theorem sc_is {prog : Program} {w : World} {v : V} {u : Value} (h : Sc v) (r : RelV v u) : ReprIs prog w u (scText v) := by
  cases h with
  | non => cases r; exact ReprIs.none
  | bl b => cases r; exact ReprIs.bool b
  | int i z => obtain ⟨t, rfl⟩ := r; exact ReprIs.int t z
  | str x z => obtain ⟨t, rfl⟩ := r; exact ReprIs.str x t z
theorem sc_all {prog : Program} {w : World} : ∀ {l : List V} {its : List Value}, Vals l its → (∀ y ∈ l, Sc y) → ReprAll prog w its (l.map scText)
  | [], _, r, _ => by
    cases r
    exact .nil
  | y :: l, _, r, h => by
    cases r with
    | cons r1 r2 => exact .cons (sc_is (h y List.mem_cons_self) r1) (sc_all r2 fun z hz => h z (List.mem_cons_of_mem _ hz))
theorem all_item {prog : Program} {w : World} : ∀ {l : List V} {its : List Value}, Vals l its → (∀ y ∈ l, Sc y) → ∀ (i : Nat) (y : Value), its.toArray[i]? = some y → ∃ t, (l.map scText)[i]? = some t ∧ ReprIs prog w y t
  | _, _, .nil, _, i, y, e => by simp at e
  | x :: l, _, .cons r1 r2, h, 0, y, e => by
    simp at e
    subst e
    exact ⟨_, rfl, sc_is (h x List.mem_cons_self) r1⟩
  | x :: l, _, .cons r1 r2, h, i + 1, y, e => by
    obtain ⟨t, e1, e2⟩ := all_item r2 (fun z hz => h z (List.mem_cons_of_mem _ hz)) i y (by simpa using e)
    exact ⟨t, by simpa using e1, e2⟩
section
variable {prog : Program} {w : World} {A : Around} {E : Value → Shared → Prop} {s : Shared} {a : Addr} {o : Obj} {g : List Code}
theorem list_in {x : Value} {l : List Value} {n : Nat} {Q : Value → Shared → Prop} (hTy : s.TypeIs (.ref a) "list") (hgd : A.guards = some g) (hrun : way (lstF (.ref a)) g = true) (hat : s.heap.get? a = some o) (hd : o.data = .seq (x :: l).toArray n)
    (hQ : ∀ u tk, Q (.str "[...]" u) { s with toks := tk }) : wpAny (model prog w) A (call (.builtin "list.__repr__") [.ref a]) Q E s := by
  refine wpAny_call (codeAny_call_builtin_own (Code.quiet_builtin _ (by decide +kernel)) F.entry_list_repr (F.slot_list_repr.check _ _ _ _ _ _ _ _ hTy (F.args_list_repr_1 _) ?_))
  intro Γ p hcc hΓ
  show Sem.wp (model prog w) Γ (Builtin.listReprAt 0 ⟨[.ref a], []⟩) _ _ p s
  unfold Builtin.listReprAt
  have e : Γ.below.any (lstF (.ref a)) = true := by
    rw [PySem.any_eq_guards (lstF_off _) (lstF_pos _), hΓ.2.2.2.1 g hgd]
    exact hrun
  simp [slotArgs, Builtin.List.listItems, seqItems?, Sem.wp_load_of (h := hat), hd, stack]
  show Sem.wp (model prog w) Γ (if (Γ.below.any (lstF (.ref a))) = true then _ else _) _ _ p s
  rw [if_pos e]
  simp [rule, retStr, ret]
  exact (PySem.wpAny_mkStr (A := A.under Γ.code) (hQ _ _) (by decide +kernel)) Γ p hΓ.in
theorem dict_in {n : Nat} {Q : Value → Shared → Prop} (hs : (a == sysModules) = false) (hgd : A.guards = some g) (hat : s.heap.get? a = some o) (hcc : o.cls = .type "dict") (hd : o.data = .dict #[] n)
    (hQ : ∀ u tk, Q (.str (if way (dictGuardF (.ref a)) g then "{...}" else "{}") u) { s with toks := tk }) : wpAny (model prog w) A (call (.builtin "dict.__repr__") [.ref a]) Q E s := by
  have hTy : s.TypeIs (.ref a) "dict" := ⟨o, hat, hcc⟩
  refine wpAny_call (codeAny_call_builtin_own (Code.quiet_builtin _ (by decide +kernel)) F.entry_dict_repr (F.slot_dict_repr.check _ _ _ _ _ _ _ _ hTy (F.args_dict_repr_1 _) ?_))
  show wpOwn (model prog w) A _ (Builtin.dictReprAt 0 ⟨[.ref a], []⟩) _ _ s
  unfold Builtin.dictReprAt
  refine wpOwn_bind (wpOwn_of_wpAny ?_); unfold Builtin.Dict.dictSlotNone
  refine wpAny_bind (wpAny_notOrdered_dict hTy ?_); show wpAny _ _ (pure (Value.ref a)) _ _ s
  refine wpAny_pure ?_
  rw [dictReprRunning_eq]
  refine wpOwn_bind (wpOwn_stackTailAny hgd (dictGuardF_off _) (dictGuardF_pos _) ?_)
  show wpOwn _ _ _ (if way (dictGuardF (.ref a)) g = true then _ else _) _ _ s
  cases hw : way (dictGuardF (.ref a)) g with
  | true =>
    rw [hw] at hQ
    rw [if_pos rfl]
    refine wpOwn_of_wpAny (wpAny_bind (wpAny_rule (wpAny_bind (wpAny_mkStr (wpAny_pure ?_) (by decide +kernel)))))
    exact hQ _ _
  | false =>
    rw [hw] at hQ
    rw [if_neg Bool.false_ne_true]; refine wpOwn_of_wpAny ?_
    show wpAny _ _ (Builtin.Dict.addrOf (.ref a) >>= _) _ _ s; refine wpAny_bind (wpAny_pure ?_)
    show wpAny _ _ (Builtin.Dict.showsAll a >>= _) _ _ s; unfold Builtin.Dict.showsAll
    rw [if_neg (by rw [hs]; exact Bool.false_ne_true)]
    refine wpAny_bind (wpAny_pure ?_); refine wpAny_bind (wpAny_dictEpoch hat hd ?_)
    refine wpAny_bind (wpAny_dictEntries hat hd ?_)
    refine wpAny_bind ?_
    show wpAny _ _ (forIn [0:0] _ _) _ _ s
    rw [Std.Legacy.Range.forIn_eq_forIn_range']; simp only [Std.Legacy.Range.size, Nat.sub_zero, Nat.add_sub_cancel, Nat.div_one, List.range'_zero]
    refine wpAny_pure ?_
    refine wpAny_bind (wpAny_mkStr (wpAny_pure ?_) (by decide +kernel)); exact hQ _ _
theorem tup_in {items : Array Value} {n : Nat} {ts : List Str} {Q : Value → Shared → Prop} (hTy : s.TypeIs (.ref a) "tuple") (hgd : A.guards = some g) (hat : s.heap.get? a = some o) (hd : o.data = .seq items n) (hTp : ReprAll prog w items.toList ts)
    (hsz : (tupleText ts).length ≤ sizeLine) (hQ : ∀ u tk, Q (.str (if way (tupGuardF (.ref a)) g then "(...)" else tupleText ts) u) { s with toks := tk }) : wpAny (model prog w) A (call (.builtin "tuple.__repr__") [.ref a]) Q E s := by
  refine wpAny_call (codeAny_call_builtin_own (Code.quiet_builtin _ (by decide +kernel)) F.entry_tuple_repr (F.slot_tuple_repr.check _ _ _ _ _ _ _ _ hTy (F.args_tuple_repr_1 _) ?_))
  show wpOwn (model prog w) A _ (Builtin.tupleReprAt 0 ⟨[.ref a], []⟩) _ _ s
  rw [tuple_repr_tree, tupleReprUnderWay_eq]; refine wpOwn_bind (wpOwn_stackTailAny hgd (tupGuardF_off _) (tupGuardF_pos _) ?_)
  show wpOwn _ _ _ (if way (tupGuardF (.ref a)) g = true then _ else _) _ _ s
  cases hw : way (tupGuardF (.ref a)) g with
  | true =>
    rw [hw] at hQ
    rw [if_pos rfl]
    refine wpOwn_of_wpAny (wpAny_bind (wpAny_rule (wpAny_bind (wpAny_mkStr (wpAny_pure ?_) (by decide +kernel)))))
    exact hQ _ _
  | false =>
    rw [hw] at hQ
    rw [if_neg Bool.false_ne_true]; exact wpOwn_of_wpAny (wpAny_tupleReprRest hat hd hTp (fun u tk => hQ u tk) (by omega))
end
theorem seq_lst {g : List Code} {a : Addr} {y : V} {ys : List V} : seqText g a (.lst (y :: ys)) = if way (lstF (.ref a)) g then ("[...]" : Str) else listText ((y :: ys).map scText) := by
  show (if (y :: ys) = [] then ("[]" : Str) else if way (lstF (.ref a)) g then ("[...]" : Str) else listText ((y :: ys).map scText)) = _
  rw [if_neg (by simp)]
section
variable {X : Cx} {g : List Code}
theorem call_rep (hgd : X.A.guards = some g) (hu : X.A.units + 1 < cLine) : CallR X (.builtin "repr") (fun xs H Q => ∃ v, xs = [v] ∧ Sho H v ∧ Q (.str (repText g H v)) H) := by
  intro pz s τ H xs us Q I r h
  obtain ⟨v, rfl, hs, q⟩ := h
  obtain ⟨u, rfl, rv0⟩ := vals1 r
  cases hs with
  | sc hv =>
    cases hv with
    | non =>
      cases rv0
      exact PySem.P.repr_of_none ⟨.str _, H, I.tok _, ⟨_, rfl⟩, q⟩
    | bl b =>
      cases rv0
      exact PySem.P.repr_of_bool ⟨.str _, H, I.tok _, ⟨_, rfl⟩, q⟩
    | int i z =>
      obtain ⟨t, rfl⟩ := rv0
      exact PySem.P.repr_of_int z ⟨.str _, H, I.tok _, ⟨_, rfl⟩, q⟩
    | str x z =>
      obtain ⟨t, rfl⟩ := rv0
      exact PySem.P.repr_of_str ⟨.str _, H, I.tok _, ⟨_, rfl⟩, q⟩ z
  | @lst a ys e hy z =>
    cases rv0
    obtain ⟨_, its, n, rv, ho⟩ := (show ObjOk X.prog X.w H s.heap a (.lst ys) from I.hok a _ e)
    have hTp : s.TypeIs (.ref a) "list" := ⟨_, ho, rfl⟩
    have qt : repText g H (.ref a) = seqText g a (.lst ys) := by
      show (match H a with | some o => seqText g a o | none => "?") = _
      rw [e]
    rw [qt] at q
    refine call_repr_slot hu hTp F.slot_list_repr.toG ?_
    cases rv with
    | nil => exact call_list_repr_empty hTp ho rfl ⟨_, _, rfl, .str _, H, I.tok _, ⟨_, rfl⟩, q⟩
    | @cons y u0 ys us r1 r2 =>
      rw [seq_lst] at q
      cases hw : way (lstF (.ref a)) g with
      | true =>
        rw [hw, if_pos rfl] at q
        exact list_in (A := X.A.in1) hTp hgd hw ho rfl fun u tk => ⟨_, _, rfl, .str _, H, I.tok _, ⟨_, rfl⟩, q⟩
      | false =>
        rw [hw, if_neg Bool.false_ne_true] at q
        refine call_list_repr (A := X.A.in1) (ts := (y :: ys).map scText) hTp hgd (fun v rest kw hm => ?_) ho rfl (by simpa using (Vals.length r2)) (fun i x hx => all_item (.cons r1 r2) hy i x hx)
          (fun h' u tk hk => ⟨_, _, rfl, .str _, H, I.kept hk, ⟨_, rfl⟩, q⟩) z
        have z1 := List.any_eq_false.mp (show (g.any fun c => lstF (.ref a) (c, default)) = false from hw) _ hm
        rw [lstF_cons] at z1
        simpa using z1
  | @tup a ys e hy z =>
    cases rv0
    obtain ⟨_, its, rv, o, ho, hcc, n, hd⟩ := (show ObjOk X.prog X.w H s.heap a (.tup ys) from I.hok a _ e)
    have hTp : s.TypeIs (.ref a) "tuple" := ⟨_, ho, hcc⟩
    have qt : repText g H (.ref a) = seqText g a (.tup ys) := by
      show (match H a with | some o => seqText g a o | none => "?") = _
      rw [e]
    rw [qt] at q
    refine call_repr_slot hu hTp F.slot_tuple_repr ?_
    exact tup_in (A := X.A.in1) hTp hgd ho hd (sc_all rv hy) z fun u tk => ⟨_, _, rfl, .str _, H, I.tok _, ⟨_, rfl⟩, q⟩
  | @dic a e =>
    cases rv0
    obtain ⟨_, hs, vs, kv, o, es, ep, ho, hx, hd, hk, hp, hn⟩ := (show ObjOk X.prog X.w H s.heap a (.dK []) from I.hok a _ e)
    cases kv
    have e0 : es = #[] := by
      cases es with
      | mk l =>
        cases hp
        rfl
    subst e0
    have hTp : s.TypeIs (.ref a) "dict" := ⟨_, ho, hx.1⟩
    have qt : repText g H (.ref a) = seqText g a (.dK []) := by
      show (match H a with | some o => seqText g a o | none => "?") = _
      rw [e]
    rw [qt] at q
    refine call_repr_slot hu hTp F.slot_dict_repr ?_
    exact dict_in (A := X.A.in1) hs hgd ho hx.1 hd fun u tk => ⟨_, _, rfl, .str _, H, I.tok _, ⟨_, rfl⟩, q⟩
end
end FoR

set_option maxHeartbeats 4100000
/-! a != b where the class has an own __eq__ alone. -/
namespace FoN
open PySem PySem.Spec PyProof.Rows L2
section
variable {prog : Program} {w : World} {A : Around} {E : Value → Shared → Prop} {s : Shared} {K : PySem.W.Frag} {x C f : Addr} {ox : Obj} {od : Option Obj} {b : Value}
/-- object.__ne__ asks __eq__ -/
theorem ne_entry {Q : Fin → Shared → Prop} (hcl : A.units < cLine) (kin : K.In s.heap) (I : PySem.W.InstAt s.heap x ox C od) (he : PySem.W.findIn K (.ref C) "__eq__" = some (some (.ref f))) (hf : PySem.W.isFn K (.ref f) = true)
    (h : wpAny (model prog w) A (call (.ref f) [.ref x, b]) (fun v s' => ∃ c, v = .bool c ∧ Q (.done (.ret (.bool (!c)))) s') E s) : wpAny (model prog w) A (Builtin.«object.__ne__» ⟨[.ref x, b], []⟩) Q E s := by
  have ask : wpAny (model prog w) A (callSpecialIfBound? (.ref x) (Str.ofString "__eq__") [b]) (fun r s' => ∃ c, r = some (.bool c) ∧ Q (.done (.ret (.bool (!c)))) s') E s := by
    refine PySem.W.ifBound_K kin I he hf (wpAny_mono h (fun v s' z => ?_) fun _ _ z => z)
    obtain ⟨c, rfl, q⟩ := z
    exact ⟨c, rfl, q⟩
  unfold Builtin.«object.__ne__»; repeat (first
    | with_reducible refine wpAny_cRoomFor hcl ?_
    | (refine wpAny_bind (m := callSpecialIfBound? (.ref x) (Str.ofString "__eq__") [b]) (wpAny_mono ask (fun r s' z => ?_) fun _ _ z => z); obtain ⟨c, rfl, q⟩ := z)
    | exact q
    | exact wpAny_pure q
    | (refine wpAny_bind (m := truthy (.bool _)) (wpAny_truthy_bool ?_))
    | wp_step)
theorem try_ne {Q : Value → Shared → Prop} (hcl : A.units + 1 < cLine) (kin : K.In s.heap) (I : PySem.W.InstAt s.heap x ox C od) (hm : PySem.W.mroIn K C (.type "object") = some true) (hn : PySem.W.findIn K (.ref C) "__ne__" = some (some (.builtin "object.__ne__")))
    (he : PySem.W.findIn K (.ref C) "__eq__" = some (some (.ref f))) (hf : PySem.W.isFn K (.ref f) = true)
    (h : wpAny (model prog w) A.in1 (call (.ref f) [.ref x, b]) (fun v s' => ∃ c, v = .bool c ∧ Q (.bool (!c)) s') E s) : wpAny (model prog w) A (tryCompare (.ref x) "__ne__" b) (fun r s' => ∃ v, r = some v ∧ Q v s') E s := by
  have go : wpAny (model prog w) A (call (.builtin "object.__ne__") [.ref x, b]) (fun v s' => ∃ c, v = .bool c ∧ Q v s') E s := by
    refine wpAny_call (codeAny_call_builtin F.cmp_object.ne.plain F.cmpEntry_ne (PySem.W.check_slot F.cmpKind_ne F.cmpSplit_ne (I.type.andThen (PySem.W.looks_mroIn kin hm)) (F.cmpArgs_ne _ _) ?_))
    refine ne_entry (A := A.in1) hcl kin I he hf (wpAny_mono h (fun v s' z => ?_) fun _ _ z => z)
    obtain ⟨c, rfl, q⟩ := z
    exact ⟨c, rfl, _, rfl, q⟩
  have back : wpAny (model prog w) A (call (.builtin "object.__ne__") ([.ref x] ++ [b]) >>= fun v => pure (some v)) (fun r s' => ∃ c, r = some (.bool c) ∧ Q (.bool c) s') E s := by
    refine wpAny_bind (wpAny_mono go (fun v s' z => ?_) fun _ _ z => z)
    obtain ⟨c, rfl, q⟩ := z
    exact wpAny_pure ⟨c, rfl, q⟩
  unfold tryCompare
  have ask : wpAny (model prog w) A (callSpecialIfBound? (.ref x) "__ne__" [b]) (fun r s' => ∃ c, r = some (.bool c) ∧ Q (.bool c) s') E s := by
    unfold callSpecialIfBound? bindSpecialIfBound?
    refine wpAny_holding (wpAny_bind (wpAny_bind (wpAny_bind (I.type.here ((PySem.W.looks_findIn kin hn).here ?_)))))
    refine wpAny_bind (wpAny_askSetting (wpAny_ite ?_)); split
    · exact wpAny_bind (wpAny_of_eq (F.cmp_object.ne.bind _) (wpAny_pure (by exact back)))
    · exact wpAny_tryCatch (wpAny_bind (wpAny_of_eq (F.cmp_object.ne.bind _) (wpAny_pure (by exact back))))
  refine wpAny_bind (wpAny_mono ask (fun r s' z => ?_) fun _ _ z => z)
  obtain ⟨c, rfl, q⟩ := z
  exact wpAny_pure ⟨_, rfl, q⟩
end
section
variable {X : Cx} {CX : CXT} {k : Nat} {f C : Addr} {fd : FuncData} {ps : List Str} {sp : Sp} {E : XK}
structure NeC (K : PySem.W.Frag) (C : Addr) : Prop where
  ne : PySem.W.findIn K (.ref C) "__ne__" = some (some (.builtin "object.__ne__"))
  ob : PySem.W.mroIn K C (.type "object") = some true
def neB (x : Str) (K : PySem.W.Frag) : Bool := He.eqO (PySem.W.findIn K (.ref (He.ga K x)) "__ne__") (some (some (.builtin "object.__ne__"))) && decide (PySem.W.mroIn K (He.ga K x) (.type "object") = some true)
theorem ne_ok {K : PySem.W.Frag} {x : Str} (h : neB x K = true) : NeC K (He.ga K x) := by
  obtain ⟨h1, h2⟩ := He.ba h
  exact ⟨He.eqO_ok h1, of_decide_eq_true h2⟩
/-- the callee runs a unit deeper -/
theorem run_in1 {pz : List (Addr × Obj)} {τ : L2.St} {H : Hp} {s : Shared} {Q : VK} {us : List Value} {vs : List V} (F : FnOk X.prog X.w X.K X.mg X.base CX k f fd ps sp) (hr : Room (k + 1) X.A) (hb : Binds X.K fd ps []) (hx : Passes CX X E)
    (I : Inv X pz τ H s) (r : Vals vs us) (h : sp vs H Q E) : wpAny (model X.prog X.w) X.A.in1 (call (.ref f) us) (EP X pz τ Q) X.xe s := by
  have hn : us.length = ps.length := by rw [← r.length]; exact F.len _ _ _ _ h
  have b := hb s us I.kIn (by rw [List.append_nil]; exact hn)
  rw [List.append_nil] at b
  have hr1 : Room k X.A.in1 := ⟨hr.hd, by have := hr.dp; show X.A.depth + 3 * k + 5 < _; omega, by have := hr.un; show X.A.units + 1 + 16 * k + 200 < _; omega⟩
  refine wpAny_call (codeAny_mono (F.run X.A.in1 X.stack s H ⟨us, []⟩ us vs Q E hr1 I.env0.in1 b r h) fun r s' hj => ?_)
  cases r with
  | error e => exact hx pz τ H s e s' I hj
  | ok fl =>
    cases fl with
    | ret u => exact I.after hj
    | next => exact False.elim hj
    | brk => exact False.elim hj
    | cont => exact False.elim hj
def rNe (C : Addr) (sp : Sp) (E : XK) : R2 := fun x y H Q => ∃ a dx fs i, x = .ref a ∧ H a = some (.ins C dx fs) ∧ y = .int i ∧ sp [x, y] H (fun v H' => ∃ b, v = .bl b ∧ Q (.bl (!b)) H') E
theorem op_neC (F : FnOk X.prog X.w X.K X.mg X.base CX k f fd ps sp) (hr : Room (k + 1) X.A) (hb : Binds X.K fd ps []) (hx : Passes CX X E) (B : FoA.CmpC X.K C f .Eq) (N : NeC X.K C) : OpR X (compareOp .NotEq) (rNe C sp E) := by
  intro pz s τ H x y v u Q I ra ry h
  obtain ⟨a, dx, fs, i, rfl, ea, rfl, q⟩ := h
  cases ra
  obtain ⟨t, rfl⟩ := ry
  obtain ⟨mA, Jx, _⟩ := ins_get I.hok ea
  obtain ⟨od, Jx, _⟩ := Jx.look
  have hcl : X.A.units + 1 < cLine := hu_of hr
  have kin := I.kIn
  have one : wpAny (model X.prog X.w) X.A (tryCompare (.ref a) "__ne__" (.int i t)) (fun r s' => ∃ z, r = some z ∧ EP X pz τ Q z s') X.xe s := by
    refine FoN.try_ne hcl kin Jx N.ob N.ne B.at_ B.fn ?_
    refine wpAny_mono (run_in1 (us := [.ref a, .int i t]) (vs := [.ref a, .int i]) F hr hb hx I (.cons rfl (.cons ⟨t, rfl⟩ .nil)) q) (fun r s' z => ?_) fun _ _ z => z
    obtain ⟨v, H', I', rv, b, rfl, q'⟩ := z
    cases rv
    exact ⟨b, rfl, .bl (!b), H', I', rfl, q'⟩
  show wpAny _ _ (richCompare .NotEq (.ref a) (.int i t)) _ _ _
  have sub := B.nt "int" (by simp)
  unfold richCompare
  simp only [oneThing_ref]
  refine wpAny_holding ?_
  refine wpAny_bind (wpAny_cRoomFor (Nat.lt_of_succ_lt hcl) ?_)
  refine wpAny_bind (Jx.type.here ?_)
  refine wpAny_bind ((PySem.W.Looks.of_pure (rfl : typeOf (.int i t) = pure (.type "int"))).here ?_)
  rw [if_pos (by simp)]
  refine wpAny_bind ((PySem.W.looks_subIn kin sub).here ?_)
  rw [if_neg Bool.false_ne_true]; refine wpAny_bind (wpAny_mono one (fun r s' z => ?_) fun _ _ z => z)
  obtain ⟨v, rfl, q'⟩ := z
  exact wpAny_pure q'
end
section
variable {K : PySem.W.Frag}
theorem int_add : PySem.W.findIn K (.type "int") (PySem.dunder (Operator.info .Add).2) = some (some (.builtin "int.__add__")) := by kernel_rfl
theorem int_addR : PySem.W.findIn K (.type "int") (dunderR (Operator.info .Add).2) = some (some (.builtin "int.__radd__")) := by kernel_rfl
theorem int_sub : PySem.W.findIn K (.type "int") (PySem.dunder (Operator.info .Sub).2) = some (some (.builtin "int.__sub__")) := by kernel_rfl
theorem int_subR : PySem.W.findIn K (.type "int") (dunderR (Operator.info .Sub).2) = some (some (.builtin "int.__rsub__")) := by kernel_rfl
theorem int_mul : PySem.W.findIn K (.type "int") (PySem.dunder (Operator.info .Mult).2) = some (some (.builtin "int.__mul__")) := by kernel_rfl
theorem int_mulR : PySem.W.findIn K (.type "int") (dunderR (Operator.info .Mult).2) = some (some (.builtin "int.__rmul__")) := by kernel_rfl
end
end FoN

set_option maxHeartbeats 4100000
/-! xs[::-1] of a list. -/
namespace FoV
open PySem PySem.Spec PyProof.Rows L2
theorem fm_congr {α β : Type} {f k : α → Option β} : ∀ {l : List α}, (∀ x ∈ l, f x = k x) → l.filterMap f = l.filterMap k
  | [], _ => rfl
  | x :: l, h => by
    rw [List.filterMap_cons, List.filterMap_cons, h x List.mem_cons_self, fm_congr fun y hy => h y (List.mem_cons_of_mem _ hy)]
theorem all_items {α : Type} : ∀ ys : List α, (List.range ys.length).filterMap (fun i => ys[i]?) = ys
  | [] => rfl
  | y :: ys => by
    rw [List.length_cons, List.range_succ_eq_map, List.filterMap_cons, List.filterMap_map]
    exact congrArg (y :: ·) (all_items ys)
theorem back_items {α : Type} (its : List α) : (List.range its.length).filterMap (fun i => its[its.length - 1 - i]?) = its.reverse := by
  have e : (List.range its.length).filterMap (fun i => its[its.length - 1 - i]?) = (List.range its.length).filterMap (fun i => its.reverse[i]?) := by
    refine fm_congr fun i hi => ?_
    exact (List.getElem?_reverse (List.mem_range.mp hi)).symm
  rw [e]
  have z := all_items its.reverse
  rw [List.length_reverse] at z
  exact z
theorem pick_back (its : List Value) : slicePick its.toArray none none (some (-1)) = its.reverse.toArray := by
  unfold slicePick
  have e : sliceBounds none none (some (-1)) its.toArray.size = (((its.length : Nat) : Int) - 1, -1, -1) := by
    simp [sliceBounds]
  rw [e]
  show (List.filterMap _ (sliceRange (((its.length : Nat) : Int) - 1) (-1) (-1))).toArray = _
  congr 1
  have e2 : sliceRange (((its.length : Nat) : Int) - 1) (-1) (-1) = (List.range its.length).map fun i => its.length - 1 - i := by
    unfold sliceRange
    have c : (if (-1 : Int) > 0 then (if ((its.length : Nat) : Int) - 1 < -1 then (-1 - (((its.length : Nat) : Int) - 1) + -1 - 1) / -1 else 0) else (if ((its.length : Nat) : Int) - 1 > -1 then (((its.length : Nat) : Int) - 1 - -1 - -1 - 1) / (- -1) else 0)).toNat = its.length := by
      rw [if_neg (by decide)]
      split
      · rw [show (- -1 : Int) = 1 by decide, Int.ediv_one]
        omega
      · omega
    show (List.range (if (-1 : Int) > 0 then (if ((its.length : Nat) : Int) - 1 < -1 then (-1 - (((its.length : Nat) : Int) - 1) + -1 - 1) / -1 else 0) else (if ((its.length : Nat) : Int) - 1 > -1 then (((its.length : Nat) : Int) - 1 - -1 - -1 - 1) / (- -1) else 0)).toNat).map _ = _
    rw [c]
    refine List.map_congr_left fun i hi => ?_
    have := List.mem_range.mp hi
    omega
  rw [e2, List.filterMap_map]
  have z := back_items its
  refine Eq.trans (fm_congr fun i hi => ?_) z
  simp
def tRevL (K : PySem.W.Frag) (te ts : TE) : TE := fun τ H Q => te τ H fun x H1 => ts τ H1 fun y H2 => y = .int (-1) ∧ ∃ a xs, x = .ref a ∧ SqL K H2 a xs ∧ ∀ p, H2 p = none → Q (.ref p) (upd H2 p (.lst xs.reverse))
section
variable {X : Cx} {e st : Expr} {te ts : TE} {p2 pos : Pos}
theorem pe_revL (he : PE X e te) (hs : PE X st ts) : PE X (.Subscript e (.Slice none none (some st) p2) pos) (tRevL X.K te ts) := by
  refine ⟨fun pz s τ H Q I h => ?_⟩
  refine Subscript_ (thn (he.run pz s τ H _ I h) fun v s1 ⟨x, H1, I1, r1, q1⟩ => ?_)
  refine wpAny_Slice ?_
  rw [evalPart_none, evalPart_some]
  refine wpAny_pure (wpAny_pure (thn (hs.run pz s1 τ H1 _ I1 q1) fun w s3 ⟨y, H3, I3, ry, ey, a, xs, ex, hx, q⟩ => ?_))
  subst ey ex
  cases r1
  obtain ⟨t, rfl⟩ := ry
  have I4 : Inv X pz τ H3 { s3 with heap := s3.heap.push { cls := .type "slice", data := .fields #[Value.none, Value.none, .int (-1) t] } } := I3.kept (t' := s3.toks) fun b ob z => Heap.get?_push_of_some _ z
  obtain ⟨its, r, ht, hz⟩ := I4.list hx
  have hn := r.length
  have got : wpAny (model X.prog X.w) X.A (getItem (.ref a) (.ref s3.heap.objs.size)) (EP X pz τ Q) X.xe { s3 with heap := s3.heap.push { cls := .type "slice", data := .fields #[Value.none, Value.none, .int (-1) t] } } := by
    refine wpAny_getItem_list_slice ht.isList (Heap.IsSliceOf.new ..) .none .none (.int (-1) t) (by simp) ?_ (by rw [List.size_toArray] <;> omega)
    rw [pick_back]
    refine ⟨.ref _, _, I4.laid (t' := s3.toks) (o := .lst xs.reverse) (fun b ob z => Heap.get?_push_of_some _ z) (Nat.le_refl _) ?_, rfl, q _ (I4.hok.fresh (Nat.le_refl _))⟩
    exact ⟨by rw [List.length_reverse]; exact hz, its.reverse, 0, r.reverse, Heap.get?_push_size _ rfl⟩
  exact tail_any (ops := [.ref a, .ref s3.heap.objs.size]) ht.isList.typeIs slot_list_getitem.lookup got (by with_unfolding_all rfl)
end
/-- a comprehension over a text's signs -/
theorem lc_str {z : Str} {g : TG} {tt : TT} {te : TE} {vs : List Nat} {τ : L2.St} {H1 : Hp} {D : Addr} {Qd : Hp → Prop} (Pv : Nat → Hp → Prop) (h0 : Pv 0 (upd H1 D (.lst [])))
    (hs : ∀ i c H, z.cps[i]? = some c → Pv i H → g (.str ⟨#[c]⟩) (wipe τ vs) H fun σ2 H2 => wipe σ2 vs = wipe τ vs ∧ tt σ2 H2 fun b H3 =>
      if b = true then te σ2 H3 fun y H4 => ∃ acc, H4 D = some (.lst acc) ∧ acc.length < sizeLine ∧ Pv (i + 1) (upd H4 D (.lst (acc ++ [y]))) else Pv (i + 1) H3) (hd : ∀ H, Pv z.cps.size H → Qd H)  : ∃ W : Nat → Nat → Hp → Prop, (∃ m, W 0 m (upd H1 D (.lst []))) ∧ ∀ i m H, W i m H →
      ((Its z).stop i H ∧ Qd H) ∨ ((Its z).go i H ∧ ∃ Nx : Hp → Prop, (∀ H', Nx H' → ∃ m', m' < m ∧ W (i + 1) m' H') ∧ ∀ x H', (Its z).yld i H x H' → g x (wipe τ vs) H' fun σ2 H2 => wipe σ2 vs = wipe τ vs ∧ tt σ2 H2 fun b H3 => if b = true then te σ2 H3 fun y H4 => ∃ acc, H4 D = some (.lst acc) ∧ acc.length < sizeLine ∧ Nx (upd H4 D (.lst (acc ++ [y]))) else Nx H3) := by
  refine ⟨fun i m H => m = z.cps.size - i ∧ i ≤ z.cps.size ∧ Pv i H, ⟨z.cps.size, by simp, Nat.zero_le _, h0⟩, ?_⟩
  rintro i m H ⟨rfl, hi, p⟩
  by_cases lt : i < z.cps.size
  · refine .inr ⟨lt, Pv (i + 1), fun H' p' => ⟨z.cps.size - (i + 1), by omega, rfl, lt, p'⟩, fun x H' y => ?_⟩
    obtain ⟨e, c, ec, ex⟩ := y
    subst e ex
    exact hs i c _ ec p
  · have e : i = z.cps.size := by omega
    subst e
    exact .inl ⟨Nat.le_refl z.cps.size, hd H p⟩
/-- a list of one-sign texts -/
def chs (l : List Nat) : List PyData := l.map fun c => .str ⟨#[c]⟩
theorem sign_ok : ∀ c : Nat, c < 128 → PyData.canLay0 (.str ⟨#[c]⟩) = true := by decide +kernel
theorem chs_lay : ∀ l : List Nat, (∀ c ∈ l, c < 128) → PyData.canLayAll0 (chs l) = true ∧ PyData.depthAll (chs l) = 0
  | [], _ => ⟨rfl, rfl⟩
  | c :: l, h => by
    obtain ⟨h1, h2⟩ := chs_lay l fun d hd => h d (List.mem_cons_of_mem _ hd)
    constructor
    · show (PyData.canLay0 (.str ⟨#[c]⟩) && PyData.canLayAll0 (chs l)) = true
      rw [sign_ok c (h c List.mem_cons_self), h1]
      rfl
    · show max 0 (PyData.depthAll (chs l)) = 0
      rw [h2]
      rfl
theorem chs_shaped (l : List Nat) (h : ∀ c ∈ l, c < 128) : SeqAt.shaped (.list (chs l)) = true := by
  obtain ⟨h1, h2⟩ := chs_lay l h
  show (PyData.canLayAll0 (chs l) && decide (PyData.depthAll (chs l) + 1 ≤ 64)) = true
  rw [h1, h2]
  rfl
theorem chs_nil (l : List Nat) : PyData.eqv (.list (chs l)) (.list []) = decide (l = []) := by
  cases l with
  | nil => rfl
  | cons c r => rfl
theorem chs_dp {K : PySem.W.Frag} {H : Hp} : ∀ l : List Nat, DpAll K H (l.map fun c => V.str ⟨#[c]⟩) (chs l)
  | [] => .nil
  | c :: l => .cons (.str _) (chs_dp l)
end FoV

/-! Fractions as rational numbers; lists of them without zeros at the end; products of polynomials. Plain mathematics. -/
namespace FoQ
open FoM
/-! ### lowest terms -/
theorem den_pos (r : Rat) : (0 : Int) < r.den := by
  have := r.den_pos
  omega
theorem den_ne (r : Rat) : (r.den : Int) ≠ 0 := by
  have := den_pos r
  omega
theorem fr_rat {u d : Int} (h : d ≠ 0) : frN u d = (Rat.divInt u d).num ∧ frD u d = ((Rat.divInt u d).den : Int) := by
  have e : Rat.divInt (Rat.divInt u d).num (Rat.divInt u d).den = Rat.divInt u d := Rat.num_divInt_den _
  rw [Rat.divInt_eq_divInt_iff (den_ne _) h] at e
  have z := fr_eq (u := u) (d := d) (u' := (Rat.divInt u d).num) (d' := ((Rat.divInt u d).den : Int)) h (den_ne _) (by rw [e])
  have w := fr_low (a := (Rat.divInt u d).num) (b := ((Rat.divInt u d).den : Int)) (den_pos _) (by simpa using (Rat.divInt u d).reduced)
  rw [w.1, w.2] at z
  exact z
theorem fr_of {u d : Int} {r : Rat} (h : d ≠ 0) (e : Rat.divInt u d = r) : frN u d = r.num ∧ frD u d = (r.den : Int) := by
  rw [← e]
  exact fr_rat h
theorem q_add (x z : Rat) : Rat.divInt (x.num * z.den + z.num * x.den) (x.den * z.den) = x + z := by
  rw [← Rat.divInt_add_divInt _ _ (den_ne x) (den_ne z), Rat.num_divInt_den, Rat.num_divInt_den]
theorem q_sub (x z : Rat) : Rat.divInt (x.num * z.den - z.num * x.den) (x.den * z.den) = x - z := by
  rw [← Rat.divInt_sub_divInt _ _ (den_ne x) (den_ne z), Rat.num_divInt_den, Rat.num_divInt_den]
theorem q_mul (x z : Rat) : Rat.divInt (x.num * z.num) (x.den * z.den) = x * z := by
  rw [← Rat.divInt_mul_divInt, Rat.num_divInt_den, Rat.num_divInt_den]
theorem q_neg (x : Rat) : Rat.divInt (-x.num) x.den = -x := by
  rw [← Rat.neg_divInt, Rat.num_divInt_den]
theorem q_div (x z : Rat) : Rat.divInt (x.num * z.den) (x.den * z.num) = x / z := by
  rw [Rat.divInt_eq_div, Rat.intCast_mul, Rat.intCast_mul]
  have e1 : x = (x.num : Rat) / (x.den : Int) := by
    rw [← Rat.divInt_eq_div, Rat.num_divInt_den]
  have e2 : z = (z.num : Rat) / (z.den : Int) := by
    rw [← Rat.divInt_eq_div, Rat.num_divInt_den]
  have d1 : ((x.den : Int) : Rat) ≠ 0 := by
    intro h
    exact den_ne x (by exact_mod_cast h)
  have d2 : ((z.den : Int) : Rat) ≠ 0 := by
    intro h
    exact den_ne z (by exact_mod_cast h)
  generalize ((x.den : Int) : Rat) = xd at *
  generalize ((z.den : Int) : Rat) = zd at *
  generalize (x.num : Rat) = xn at *
  generalize (z.num : Rat) = zn at *
  subst e1 e2
  grind
theorem q_int (n : Int) : Rat.divInt n 1 = (n : Rat) := by
  rw [Rat.divInt_eq_div]
  show (n : Rat) / ((1 : Int) : Rat) = n
  rw [show ((1 : Int) : Rat) = 1 from rfl]
  grind
theorem q_eq_iff (x z : Rat) : (x.num = z.num ∧ (x.den : Int) = z.den) ↔ x = z := ⟨fun h => Rat.ext h.1 (by have := h.2; omega), fun h => by subst h; exact ⟨rfl, rfl⟩⟩
theorem q_lt (x z : Rat) : x < z ↔ x.num * z.den < z.num * x.den := Rat.lt_iff x z
theorem q_le (x z : Rat) : x ≤ z ↔ x.num * z.den ≤ z.num * x.den := Rat.le_iff x z
theorem num0 {x : Rat} : x.num = 0 ↔ x = 0 := Rat.num_eq_zero
/-! ### sizes -/
def SzR (n : Nat) (r : Rat) : Prop := Sz n r.num ∧ Sz n r.den
theorem SzR.mono {n m : Nat} {r : Rat} (h : SzR n r) (l : n ≤ m) : SzR m r := ⟨h.1.mono l, h.2.mono l⟩
theorem SzR.divInt {n : Nat} {u d : Int} (hd : d ≠ 0) (h : Sz n u) (g : Sz n d) : SzR n (Rat.divInt u d) := by
  obtain ⟨e1, e2⟩ := fr_rat (u := u) hd
  refine ⟨?_, ?_⟩
  · rw [← e1]
    exact h.le (frN_le hd)
  · rw [← e2]
    exact g.le (frD_le hd)
theorem SzR.add {n m : Nat} {x z : Rat} (h : SzR n x) (g : SzR m z) : SzR (n + m + 1) (x + z) := by
  rw [← q_add]
  refine SzR.divInt (Int.mul_ne_zero (den_ne x) (den_ne z)) ((h.1.mul g.2).add ?_) ((h.2.mul g.2).mono (Nat.le_succ _))
  have := g.1.mul h.2
  rw [Nat.add_comm] at this
  exact this
theorem SzR.sub {n m : Nat} {x z : Rat} (h : SzR n x) (g : SzR m z) : SzR (n + m + 1) (x - z) := by
  rw [← q_sub]
  refine SzR.divInt (Int.mul_ne_zero (den_ne x) (den_ne z)) ((h.1.mul g.2).sub ?_) ((h.2.mul g.2).mono (Nat.le_succ _))
  have := g.1.mul h.2
  rw [Nat.add_comm] at this
  exact this
theorem SzR.mul {n m : Nat} {x z : Rat} (h : SzR n x) (g : SzR m z) : SzR (n + m) (x * z) := by
  rw [← q_mul]
  exact SzR.divInt (Int.mul_ne_zero (den_ne x) (den_ne z)) (h.1.mul g.1) (h.2.mul g.2)
theorem SzR.neg {n : Nat} {x : Rat} (h : SzR n x) : SzR n (-x) := by
  rw [← q_neg]
  exact SzR.divInt (den_ne x) h.1.neg h.2
theorem SzR.int {n : Nat} {i : Int} (h : Sz n i) (l : 0 < n) : SzR n (i : Rat) := by
  refine ⟨by rw [Rat.num_intCast]; exact h, ?_⟩
  rw [Rat.den_intCast]
  show (1 : Nat) < 2 ^ n
  exact Nat.one_lt_two_pow (by omega)
theorem SzR.zero {n : Nat} (l : 0 < n) : SzR n 0 := SzR.int (i := 0) (by unfold Sz; exact Nat.two_pow_pos n) l
/-! ### lists without zeros at the end -/
def co (l : List Rat) (n : Nat) : Rat := l.getD n 0
theorem co_nil (n : Nat) : co [] n = 0 := by simp [co]
theorem co_zero (x : Rat) (l : List Rat) : co (x :: l) 0 = x := by simp [co]
theorem co_succ (x : Rat) (l : List Rat) (n : Nat) : co (x :: l) (n + 1) = co l n := by simp [co]
theorem co_some {l : List Rat} {n : Nat} {x : Rat} (h : l[n]? = some x) : co l n = x := by simp [co, List.getD, h]
theorem co_lt {l : List Rat} {n : Nat} (h : n < l.length) : l[n]? = some (co l n) := by simp [co, List.getD, List.getElem?_eq_getElem h]
theorem co_ge {l : List Rat} {n : Nat} (h : l.length ≤ n) : co l n = 0 := by simp [co, List.getD, List.getElem?_eq_none h]
def trim : List Rat → List Rat
  | [] => []
  | x :: l => if x = 0 ∧ trim l = [] then [] else x :: trim l
theorem trim_co : ∀ (l : List Rat) (n : Nat), co (trim l) n = co l n
  | [], _ => rfl
  | x :: l, n => by
    unfold trim
    split
    · rename_i h
      cases n with
      | zero => rw [co_nil, co_zero, h.1]
      | succ n => rw [co_nil, co_succ, ← trim_co l n, h.2, co_nil]
    · cases n with
      | zero => rw [co_zero, co_zero]
      | succ n => rw [co_succ, co_succ, trim_co l n]
theorem trim_nil : ∀ {l : List Rat}, (∀ n, co l n = 0) → trim l = []
  | [], _ => rfl
  | x :: l, h => by
    unfold trim
    rw [if_pos ⟨by have := h 0; rwa [co_zero] at this, trim_nil fun n => by have := h (n + 1); rwa [co_succ] at this⟩]
theorem trim_ext : ∀ {l l' : List Rat}, (∀ n, co l n = co l' n) → trim l = trim l'
  | [], l', h => (trim_nil fun n => by rw [← h n, co_nil]).symm
  | x :: l, [], h => trim_nil fun n => by rw [h n, co_nil]
  | x :: l, y :: l', h => by
    have e0 := h 0
    rw [co_zero, co_zero] at e0
    have e1 := trim_ext (l := l) (l' := l') fun n => by have := h (n + 1); rwa [co_succ, co_succ] at this
    unfold trim
    rw [e0, e1]
theorem trim_self : ∀ {l : List Rat}, (l = [] ∨ co l (l.length - 1) ≠ 0) → trim l = l
  | [], _ => rfl
  | x :: l, h => by
    have h := h.resolve_left (by simp)
    unfold trim
    cases l with
    | nil =>
      rw [if_neg (fun z => h (by simpa [co] using z.1))]
      rfl
    | cons y l =>
      have e := trim_self (l := y :: l) (.inr (by
        have : co (x :: y :: l) ((x :: y :: l).length - 1) = co (y :: l) ((y :: l).length - 1) := by
          show co (x :: y :: l) (l.length + 1) = co (y :: l) l.length
          rw [co_succ]
        rw [← this]
        exact h))
      rw [if_neg (fun z => by rw [e] at z; exact absurd z.2 (by simp)), e]
theorem co_take (l : List Rat) (k n : Nat) : co (l.take k) n = if n < k then co l n else 0 := by
  by_cases h : n < k
  · rw [if_pos h]
    simp [co, List.getD, List.getElem?_take, h]
  · rw [if_neg h]
    simp [co, List.getD, List.getElem?_take, h]
/-- what a loop from the end leaves -/
theorem trim_take {l : List Rat} {k : Nat} (hk : k ≤ l.length) (hz : ∀ n, k ≤ n → co l n = 0) (hl : k = 0 ∨ co l (k - 1) ≠ 0) : trim l = l.take k := by
  have e : trim l = trim (l.take k) := trim_ext fun n => by
    rw [co_take]
    split
    · rfl
    · exact hz n (by omega)
  rw [e]
  refine trim_self ?_
  rcases hl with rfl | hl
  · exact .inl (by simp)
  · by_cases h0 : k = 0
    · subst h0
      exact .inl (by simp)
    refine .inr ?_
    rw [List.length_take, Nat.min_eq_left hk, co_take, if_pos (by omega)]
    exact hl
theorem trim_idem (l : List Rat) : trim (trim l) = trim l := trim_ext (trim_co l)
theorem trim_len : ∀ l : List Rat, (trim l).length ≤ l.length
  | [] => Nat.le_refl _
  | x :: l => by
    unfold trim
    split
    · simp
    · simp only [List.length_cons]
      have := trim_len l
      omega
theorem trim_eq (l : List Rat) : trim l = l.take (trim l).length := by
  refine List.ext_getElem? fun n => ?_
  rw [List.getElem?_take]
  by_cases h : n < (trim l).length
  · rw [if_pos h, co_lt h, trim_co]
    have := trim_len l
    rw [co_lt (by omega)]
  · rw [if_neg h, List.getElem?_eq_none (by omega)]
theorem trim_mem {l : List Rat} {x : Rat} (h : x ∈ trim l) : x ∈ l := by
  rw [trim_eq] at h
  exact List.mem_of_mem_take h
theorem trim_last {l : List Rat} : trim l = [] ∨ co l ((trim l).length - 1) ≠ 0 := by
  induction l with
  | nil => exact .inl rfl
  | cons x l ih =>
    unfold trim
    split
    · exact .inl rfl
    · rename_i h
      refine .inr ?_
      simp only [List.length_cons, Nat.add_sub_cancel]
      cases e : trim l with
      | nil =>
        rw [List.length_nil, co_zero]
        exact fun z => h ⟨z, e⟩
      | cons y r =>
        rw [List.length_cons, co_succ]
        have z := ih.resolve_left (by rw [e]; simp)
        rw [e] at z
        exact z
/-! ### products -/
/-- the n-th coefficient of the product, from the first j coefficients of f -/
def S (f g : Nat → Rat) : Nat → Nat → Rat
  | 0, _ => 0
  | j + 1, n => S f g j n + (if j ≤ n then f j * g (n - j) else 0)
/-- and the first k products of the next one -/
def SP (f g : Nat → Rat) (j k n : Nat) : Rat := S f g j n + (if j ≤ n ∧ n - j < k then f j * g (n - j) else 0)
theorem SP_zero (f g : Nat → Rat) (j n : Nat) : SP f g j 0 n = S f g j n := by
  unfold SP
  rw [if_neg (by omega)]
  grind
theorem SP_done {f g : Nat → Rat} {j k n : Nat} (h : ∀ m, k ≤ m → g m = 0) : SP f g j k n = S f g (j + 1) n := by
  unfold SP
  show _ = S f g j n + _
  congr 1
  by_cases h1 : j ≤ n
  · rw [if_pos h1]
    by_cases h2 : n - j < k
    · rw [if_pos ⟨h1, h2⟩]
    · rw [if_neg (fun z => h2 z.2), h _ (by omega)]
      grind
  · rw [if_neg h1, if_neg (fun z => h1 z.1)]
theorem SP_here (f g : Nat → Rat) (j k : Nat) : SP f g j (k + 1) (j + k) = SP f g j k (j + k) + f j * g k := by
  unfold SP
  rw [if_pos ⟨by omega, by omega⟩, if_neg (by omega)]
  rw [show j + k - j = k by omega]
  grind
theorem SP_else {f g : Nat → Rat} {j k n : Nat} (h : n ≠ j + k) : SP f g j (k + 1) n = SP f g j k n := by
  unfold SP
  congr 1
  by_cases h1 : j ≤ n ∧ n - j < k
  · rw [if_pos h1, if_pos ⟨h1.1, by omega⟩]
  · rw [if_neg h1, if_neg (by omega)]
theorem S_more {f g : Nat → Rat} {j n : Nat} (h : ∀ i, j ≤ i → f i = 0) : ∀ k, S f g (j + k) n = S f g j n
  | 0 => rfl
  | k + 1 => by
    show S f g (j + k) n + (if j + k ≤ n then f (j + k) * g (n - (j + k)) else 0) = _
    rw [S_more h k, h (j + k) (by omega)]
    split <;> grind
theorem S_congr {f g f' g' : Nat → Rat} (h1 : ∀ i, f i = f' i) (h2 : ∀ i, g i = g' i) : ∀ j n, S f g j n = S f' g' j n
  | 0, _ => rfl
  | j + 1, n => by
    show S f g j n + _ = S f' g' j n + _
    rw [S_congr h1 h2 j n, h1 j, h2 (n - j)]
theorem S_far {f g : Nat → Rat} {m : Nat} (hg : ∀ i, m ≤ i → g i = 0) : ∀ j n, j + m ≤ n + 1 → S f g j n = 0
  | 0, _, _ => rfl
  | j + 1, n, h => by
    show S f g j n + _ = 0
    rw [S_far hg j n (by omega)]
    split
    · rw [hg (n - j) (by omega)]
      grind
    · grind
/-- the product's coefficients -/
def prod (xs ys : List Rat) : List Rat := trim ((List.range (xs.length + ys.length)).map (S (co xs) (co ys) xs.length))
theorem co_map {f : Nat → Rat} {m n : Nat} : co ((List.range m).map f) n = if n < m then f n else 0 := by
  by_cases h : n < m
  · rw [if_pos h]
    simp [co, List.getD, h]
  · rw [if_neg h]
    simp [co, List.getD, h]
theorem prod_co (xs ys : List Rat) (n : Nat) : co (prod xs ys) n = S (co xs) (co ys) xs.length n := by
  unfold prod
  rw [trim_co, co_map]
  split
  · rfl
  · rw [S_far (m := ys.length) (fun i hi => co_ge hi) _ _ (by omega)]
/-- a list that holds them all -/
theorem prod_of {xs ys us vs l : List Rat} (hx : ∀ n, co xs n = co us n) (hy : ∀ n, co ys n = co vs n) (h : ∀ n, co l n = S (co us) (co vs) us.length n) : trim l = prod xs ys := by
  unfold prod
  refine trim_ext fun n => ?_
  rw [h n, co_map]
  have e : S (co us) (co vs) us.length n = S (co xs) (co ys) xs.length n := by
    rw [S_congr (fun i => (hx i).symm) (fun i => (hy i).symm)]
    rcases Nat.le_total xs.length us.length with z | z
    · have := S_more (f := co xs) (g := co ys) (j := xs.length) (n := n) (fun i hi => co_ge hi) (us.length - xs.length)
      rw [show xs.length + (us.length - xs.length) = us.length by omega] at this
      exact this
    · have := S_more (f := co xs) (g := co ys) (j := us.length) (n := n) (fun i hi => by rw [hx]; exact co_ge hi) (xs.length - us.length)
      rw [show us.length + (xs.length - us.length) = xs.length by omega] at this
      exact this.symm
  rw [e]
  split
  · rfl
  · exact S_far (m := ys.length) (fun i hi => co_ge hi) _ _ (by omega)
end FoQ

set_option maxHeartbeats 4100000
/-! A list comprehension whose step may raise (a call in it). -/
namespace FoE
open PySem PySem.Spec PyProof.Rows L2
theorem note_frame {e : Value} {a b : Env} (h : a.frame = b.frame) : noteFrame e a = noteFrame e b := by
  unfold noteFrame PySem.frameOf
  simp only [h]
/-- what is left to do behind the block, whose names stand in ce -/
def After (M : Model) (A : Around) (E : Value → Shared → Prop) (u? : Option (Value → Sem Unit)) (R : Value → Shared → Prop) (l : Value) (ce : Env) : Result → Shared → Prop := fun r t =>
  match r, u? with
  | .ok _, none => ∃ m, t.heap.Ns ce.locals m ∧ ∀ g, Heap.SameBut ce.locals t.heap g → R l { t with heap := g }
  | .ok _, some u => wpAny M A (u l) (fun _ t' => ∃ m, t'.heap.Ns ce.locals m ∧ ∀ g, Heap.SameBut ce.locals t'.heap g → R .none { t' with heap := g }) E t
  | .error x, _ => ∃ m, t.heap.Ns ce.locals m ∧ ∀ g, Heap.SameBut ce.locals t.heap g → wpAny M A (PySem.passOn "comprehension.variables-let-go" x ce : Sem Value) R E { t with heap := g }
section
variable {M : Model} {A : Around} {E : Value → Shared → Prop} {t : Shared} {env : Env}
theorem comp_all {e : Expr} {sc : Scope} {env : Env} {pos : Pos} {newAcc first : Sem Value} {c : Comprehension} {cs : List Comprehension} {cl : List (Str × Addr)} {u? : Option (Value → Sem Unit)} {R : Value → Shared → Prop}
    (h1 : clausesOf e = c :: cs) (h2 : ∀ x, foldedSetIterable c.iter env x = pure x) (h3 : closureFor sc env = pure cl)
    (h4 : sc.kind = .function) (h5 : ∀ x ∈ sc.names, x.2 = .local → sc.names.lookup x.1 = some .local)
    (go : wpAny M A first (fun x s1 => wpAny M A (pyIter x) (fun it s2 => wpAny M A newAcc (fun l s3 =>
      wpAny M A (newFunctionEnv sc env.globals cl [] env.qual none .none (some env)) (fun ce s4 =>
        codeAny M A (.compStart e 0 it l { ce with scope := relabel sc env }) (After M A E u? R l { ce with scope := relabel sc env }) s4) E s3) E s2) E s1) E t) :
    wpAny M A (comprehension e sc env pos newAcc false first u?) R E t := by
  unfold comprehension
  rw [h3, h1]
  refine wpAny_bind (wpAny_mono go (fun x s1 g1 => wpAny_bind (wpAny_standAt (wpAny_bind (wpAny_of_eq (h2 x) (wpAny_bind (wpAny_holding (wpAny_mono g1 (fun it s2 g2 => wpAny_standIf (wpAny_bind (wpAny_mono g2 (fun l s3 g3 => wpAny_bind (wpAny_pure (wpAny_bind (wpAny_mono g3 (fun ce s4 g4 => ?_) fun _ _ z => z)))) fun _ _ z => z))) fun _ _ z => z))))))) fun _ _ z => z)
  dsimp only
  have v1 : ∀ x ∈ (sc.names.filter fun x => (x.2 == .local || x.2 == .cell) && x.1 != (".0" : Str)).reverse, x.2 = .local → Env.kindOf { ce with scope := relabel sc env } x.1 = some .local :=
    fun x hx hl => lookup_relabel_local (h5 x (List.mem_filter.mp (List.mem_reverse.mp hx)).1 hl)
  have v2 : ∀ x ∈ (sc.names.filter fun x => (x.2 == .local || x.2 == .cell) && x.1 != (".0" : Str)).reverse.drop 1 ++ (sc.names.filter fun x => (x.2 == .local || x.2 == .cell) && x.1 != (".0" : Str)).reverse.take 1, x.2 = .local → Env.kindOf { ce with scope := relabel sc env } x.1 = some .local := fun x hx hl =>
    (List.mem_append.mp hx).elim (fun z => v1 x (List.mem_of_mem_drop z) hl) (fun z => v1 x (List.mem_of_mem_take z) hl)
  refine wpAny_holding (wpAny_bind (wpAny_attempt (wpAny_holding (wpAny_run (codeAny_mono g4 fun r s5 q => ?_)))))
  cases r with
  | ok f =>
    cases u? with
    | none =>
      obtain ⟨m, n, q⟩ := q
      exact wpAny_bind (wpAny_holding (wpAny_comp_letGo (cenv := { ce with scope := relabel sc env }) h4 _ s5 m v1 n fun g _ _ sb => wpAny_pure (q g sb)))
    | some u =>
      refine wpAny_bind (wpAny_rule (wpAny_bind (wpAny_holding (wpAny_mono q (fun _ s6 q' => ?_) fun _ _ z => z))))
      obtain ⟨m, n, q'⟩ := q'
      exact wpAny_bind (wpAny_comp_letGo (cenv := { ce with scope := relabel sc env }) h4 _ s6 m v2 n fun g _ _ sb => wpAny_pure (q' g sb))
  | error x =>
    have q' : ∃ m, s5.heap.Ns ce.locals m ∧ ∀ g, Heap.SameBut ce.locals s5.heap g → wpAny M A (PySem.passOn "comprehension.variables-let-go" x { ce with scope := relabel sc env } : Sem Value) R E { s5 with heap := g } := by cases u? <;> exact q
    obtain ⟨m, n, q'⟩ := q'
    exact wpAny_bind (wpAny_holding (wpAny_comp_letGo (cenv := { ce with scope := relabel sc env }) h4 _ s5 m v1 n fun g _ _ sb => q' g sb))
end
/-! ### an exception of a block, whose names stand at C -/
/-- as XE, noted already if b, and without what stands at C -/
def XC (X : Cx) (W : WX) (C : Addr) (b : Bool) (u : Value) (t : Shared) : Prop :=
  ∃ (a : Addr) (B : Heap) (sI : Shared) (pins : List (Addr × Obj)) (σ : L2.St) (H : Hp) (cls : Value) (d : Option Addr),
    u = .ref a ∧ Inv X pins σ H sI ∧ (∀ b o, sI.heap.get? b = some o → b ∉ frs X.stack → B.get? b = some o) ∧ sI.heap.UpToSlots t.heap ∧
      (if b then HandSPX.HeldZ B X.stack a (Zc cls d) X.env.locals t.heap else HandSPX.FlyingZ B X.stack a (Zc cls d) t.heap) ∧ H a = none ∧ t.os = sI.os ∧ AllBare t.gens ∧ W cls d σ H ∧
      B.get? C = none ∧ sI.heap.get? C = none
section
variable {X : Cx} {W : WX} {C : Addr} {u : Value} {t : Shared}
theorem XC.xe (x : XC X W C true u t) : XE X W u t := by
  obtain ⟨a, B, sI, pins, σ, H, cls, d, e, I, nb, up, sky, na, os, ag, w, _, _⟩ := x
  exact ⟨a, B, sI, pins, σ, H, cls, d, e, I, nb, up, .inr (.inr sky), na, os, ag, w⟩
/-- the def's frame notes it -/
theorem XC.noted {ce : Env} {Q : Unit → Shared → Prop} {E : Value → Shared → Prop} (x : XC X W C false u t) (ok : X.A.frames = some X.stack) (hs : X.stack = X.env :: X.outer) (hf : X.env.frame = some X.env.locals) (hce : ce.frame = X.env.frame)
    (hQ : ∀ g, t.heap.UpToSlots g → XC X W C true u { t with heap := g } → Q () { t with heap := g }) : wpAny (model X.prog X.w) X.A (noteFrame u ce) Q E t := by
  obtain ⟨a, B, sI, pins, σ, H, cls, d, rfl, I, nb, up, sky, na, os, ag, w, c1, c2⟩ := x
  rw [note_frame hce]
  have fl : HandSPX.FlyingZ B (X.env :: X.outer) a (Zc cls d) t.heap := by rw [← hs]; exact sky
  refine HandSPX.looks_onZ Zc.steady (by rw [ok, hs]) hf fl fun g hh ug => hQ g ug ?_
  exact ⟨a, B, sI, pins, σ, H, cls, d, rfl, I, nb, up.trans ug, by rw [hs]; exact hh, na, os, ag, w, c1, c2⟩
/-- what stands at C changes -/
theorem frames_but {B h g : Heap} : ∀ {l : List Env}, h.FunFrames B l → (∀ L ∈ frs l, g.get? L = h.get? L) → g.FunFrames B l
  | [], _, _ => trivial
  | env :: l, x, k => by
    obtain ⟨x1, ⟨L, o, x2, x3, x4, x5⟩, x6⟩ := x
    have m : L ∈ frs (env :: l) := List.mem_filterMap.mpr ⟨env, List.mem_cons_self, x2⟩
    refine ⟨x1, ⟨L, o, x2, x3, (k L m).trans x4, x5⟩, frames_but x6 fun b hb => k b ?_⟩
    obtain ⟨e, he, q⟩ := List.mem_filterMap.mp hb
    exact List.mem_filterMap.mpr ⟨e, List.mem_cons_of_mem _ he, q⟩
theorem XC.but {m : Str → Option Value} {g : Heap} (x : XC X W C true u t) (n : t.heap.Ns C m) (sb : Heap.SameBut C t.heap g) (hC : C ∉ frs X.stack) : XC X W C true u { t with heap := g } := by
  obtain ⟨a, B, sI, pins, σ, H, cls, d, rfl, I, nb, up, sky, na, os, ag, w, c1, c2⟩ := x
  obtain ⟨k1, k2, k3, oe, vs, T, oT, ts, he, hz, hd, h1, hnT, hTe, hT, hdT, h3⟩ := (show HandSPX.HeldZ B X.stack a (Zc cls d) X.env.locals t.heap from sky)
  obtain ⟨oC, es, ep, eC, dC, _⟩ := n
  have aC : a ≠ C := fun z => by
    rw [z, eC] at he
    cases he
    rw [dC] at hd
    cases hd
  have tC : T ≠ C := fun z => by
    rw [z, eC] at hT
    cases hT
    rw [dC] at hdT
    cases hdT
  have st : B.StaysIn g := fun b o e => (sb.2 b fun z => by rw [z, c1] at e; cases e).trans (k1 b o e)
  refine ⟨a, B, sI, pins, σ, H, cls, d, rfl, I, nb, fun b o e f => ?_, ?_, na, os, ag, w, c1, c2⟩
  · obtain ⟨sl, q⟩ := up b o e f
    exact ⟨sl, (sb.2 b fun z => by rw [z, c2] at e; cases e).trans q⟩
  · exact ⟨st, k2, frames_but k3 fun L hL => sb.2 L fun z => hC (z ▸ hL), oe, vs, T, oT, ts, (sb.2 a aC).trans he, hz, hd, h1, hnT, hTe, (sb.2 T tC).trans hT, hdT, h3⟩
theorem XC.pass {ce : Env} {R : Value → Shared → Prop} (x : XC X W C true u t) (hf : X.env.frame = some X.env.locals) (hce : ce.frame = X.env.frame) (tk : Takes X W) :
    wpAny (model X.prog X.w) X.A (PySem.passOn "comprehension.variables-let-go" u ce : Sem Value) R X.xe t := by
  obtain ⟨a, B, sI, pins, σ, H, cls, d, rfl, I, nb, up, sky, na, os, ag, w, c1, c2⟩ := x
  have sky : HandSPX.HeldZ B X.stack a (Zc cls d) X.env.locals t.heap := sky
  obtain ⟨k1, k2, k3, oe, vs, T, oT, ts, he, hz, hd, h1, _⟩ := id sky
  unfold PySem.passOn
  refine wpAny_bind (wpAny_field he hd h1 ?_)
  rw [if_neg (show ¬ ((Value.ref T == Value.none) = true) from by simp)]
  have fin : wpAny (model X.prog X.w) X.A (setFlight (.ref a) ce.frame) (fun _ s4 => wpAny (model X.prog X.w) X.A (throw (.ref a) : Sem Value) R X.xe s4) X.xe t := by
    rw [hce, hf]
    refine HandSPX.setFlight_onZ sky fun g hh ug => wpAny_throw (tk _ _ ?_)
    exact ⟨a, B, sI, pins, σ, H, cls, d, rfl, I, nb, up.trans ug, .inr (.inr hh), na, os, ag, w⟩
  first
    | exact wpAny_bind (wpAny_pure (wpAny_bind fin))
    | exact wpAny_bind fin
end

/-- a block's context, with a wish about what is raised in it -/
abbrev blkX (X : Cx) (s : Shared) (H : Hp) (sc : Scope) (ce : Env) (fp : List Addr) (xe : Value → Shared → Prop) : Cx := { X.blk s H sc ce fp with xe := xe }
theorem toX {X : Cx} {s t : Shared} {H H' : Hp} {sc : Scope} {ce : Env} {fp : List Addr} {xe : Value → Shared → Prop} {pz : List (Addr × Obj)} {τ : L2.St} (I : Inv (X.blk s H sc ce fp) pz τ H' t) : Inv (blkX X s H sc ce fp xe) pz τ H' t :=
  ⟨⟨I.ok.mod, I.ok.kind, I.ok.glob, I.ok.blt, I.ok.above, I.ok.inj, I.ok.has, I.ok.cab, I.ok.hd, I.ok.frames, I.ok.stk, I.ok.exf, I.ok.bs, I.ok.bsz, I.ok.noex, I.ok.exfs, I.ok.funs, I.ok.frf⟩, I.os, I.bare, I.base, I.loc, I.cell, I.free, I.freeC, I.pin, I.hok, I.len⟩
theorem ofX {X : Cx} {s t : Shared} {H H' : Hp} {sc : Scope} {ce : Env} {fp : List Addr} {xe : Value → Shared → Prop} {pz : List (Addr × Obj)} {τ : L2.St} (I : Inv (blkX X s H sc ce fp xe) pz τ H' t) : Inv (X.blk s H sc ce fp) pz τ H' t :=
  ⟨⟨I.ok.mod, I.ok.kind, I.ok.glob, I.ok.blt, I.ok.above, I.ok.inj, I.ok.has, I.ok.cab, I.ok.hd, I.ok.frames, I.ok.stk, I.ok.exf, I.ok.bs, I.ok.bsz, I.ok.noex, I.ok.exfs, I.ok.funs, I.ok.frf⟩, I.os, I.bare, I.base, I.loc, I.cell, I.free, I.freeC, I.pin, I.hok, I.len⟩
/-- what a call of a block let out, as the def sees it -/
theorem XC.of_call {X : Cx} {s3 s5 s' : Shared} {H3 H5 : Hp} {sc : Scope} {ce : Env} {fp : List Addr} {pins pz : List (Addr × Obj)} {σ τ : L2.St} {W : WX} {E : XK} {u : Value} (I3 : Inv X pins σ H3 s3) (I : Inv (X.blk s3 H3 sc ce fp) pz τ H5 s5)
    (hfp : ∀ b ∈ fp, FpOk X pins H3 b ∧ b < s3.heap.objs.size) (cL : ce.locals = s3.heap.objs.size) (hW : ∀ cls d H', E cls d H' → W cls d σ H') (c : L2.CX X.prog X.w X.stack H5 s5 E u s') : XC X W s3.heap.objs.size false u s' := by
  obtain ⟨a, B, H', cls, d, rfl, fl, hok, ub, na, os, ag, hE⟩ := c
  obtain ⟨G, g1, g2⟩ := restrict s'.heap fun b => ((B.get? b).isSome && decide (b ≠ s3.heap.objs.size)) || decide (b ∈ frs X.stack)
  have st : B.StaysIn s'.heap := fl.1
  have nC : s3.heap.get? s3.heap.objs.size = none := by
    cases e : s3.heap.get? s3.heap.objs.size with
    | none => rfl
    | some o => exact absurd (Heap.lt_size e) (Nat.lt_irrefl _)
  have hC0 : s3.heap.objs.size ∉ frs X.stack := fun z => by
    obtain ⟨_, o, e, _⟩ := I3.stack.mem z
    rw [nC] at e
    cases e
  have gB : ∀ b o, B.get? b = some o → b ≠ s3.heap.objs.size → G.get? b = some o := fun b o e n => by
    rw [g1 b (by simp [e, n])]
    exact st b o e
  have gF : ∀ b, b ∈ frs X.stack → G.get? b = s'.heap.get? b := fun b hb => g1 b (by simp [hb])
  have og : ∀ b o, G.get? b = some o → s'.heap.get? b = some o ∧ (((B.get? b).isSome = true ∧ b ≠ s3.heap.objs.size) ∨ b ∈ frs X.stack) := fun b o e => by
    cases q : (((B.get? b).isSome && decide (b ≠ s3.heap.objs.size)) || decide (b ∈ frs X.stack)) with
    | false => rw [g2 b q] at e; cases e
    | true =>
      rw [g1 b q] at e
      exact ⟨e, by simpa [Bool.or_eq_true] using q⟩
  have ne3 : ∀ b o, s3.heap.get? b = some o → b ≠ s3.heap.objs.size := fun b o e z => by rw [z, nC] at e; cases e
  have HC : H' s3.heap.objs.size = none := by
    obtain ⟨m, ⟨oC, es, ep, eC, _⟩, _⟩ := I.loc
    have eC : s5.heap.get? ce.locals = some oC := eC
    have z : H5 ce.locals = none := I.free
    rw [cL] at eC z
    exact ub.free _ _ eC z
  have hokG : HOk X.prog X.w H' G := fun b o q => (hok b o q).stay (fun c v hc r => gB c v r fun z => by
    rcases hc with hc | hc
    · rw [hc] at z
      rw [z, HC] at q
      cases q
    · rw [z, HC] at hc
      cases hc) (fun _ r => r) fun _ _ r => r
  have un := I.base
  have un : Un (frs X.stack) fp H3 H5 s3.heap s5.heap := un
  have J : Inv X pins σ H' { s5 with heap := G, gens := s'.gens, drawn := s'.drawn, toks := s'.toks } := by
    refine I3.call' (ch := fp) I.os ⟨fun b o e n h1 h2 => ?_, fun b o e n h1 h2 => ?_, fun b o e n h2 => ?_, fun b o e h2 => ?_, fun b xs q => ub.tups b xs (un.tups b xs q), fun b o v q => ub.frzs b o v (un.frzs b o v q), fun b ps q => ?_⟩ hokG ag
      fun b hb => ⟨(hfp b hb).1.2.2.2.1, (hfp b hb).1.2.1, (hfp b hb).1.2.2.2.2.1, (hfp b hb).1.2.2.2.2.2⟩
    · exact gB b o (ub.keep b o (un.keep b o e n h1 h2) (un.free b o e n h2) h1) (ne3 b o e)
    · obtain ⟨sl, q⟩ := un.slot b o e n h1 h2
      obtain ⟨sl2, q2⟩ := ub.slot b _ q h1
      exact ⟨sl2, by rw [gF b h1]; exact q2⟩
    · by_cases hb : b ∈ frs X.stack
      · obtain ⟨sl, q⟩ := un.slot b o e n hb h2
        exact ub.free b _ q (un.free b o e n h2)
      · exact ub.free b o (un.keep b o e n hb h2) (un.free b o e n h2)
    · obtain ⟨o1, q1⟩ := un.there b o e h2
      by_cases hb : b ∈ frs X.stack
      · obtain ⟨sl, q⟩ := ub.slot b o1 q1 hb
        exact ⟨_, by rw [gF b hb]; exact q⟩
      · obtain ⟨o', q⟩ := ub.there b o1 q1 hb
        exact ⟨o', gB b o' q (ne3 b o e)⟩
    · obtain ⟨m1, q1⟩ := un.tbls b ps q
      obtain ⟨m2, q2⟩ := ub.tbls b _ q1
      exact ⟨m1 ++ m2, by rw [q2, Array.append_assoc]⟩
  refine ⟨a, PySem.W.hideAll B [s3.heap.objs.size], { s5 with heap := G, gens := s'.gens, drawn := s'.drawn, toks := s'.toks }, pins, σ, H', cls, d, rfl, J, fun b o e hb => ?_, Heap.UpToSlots.of_keeps fun b o e => (og b o e).1, ?_, na, os, ag, hW _ _ _ hE, ?_, ?_⟩
  · obtain ⟨e', h⟩ := og b o e
    rcases h with ⟨h, n⟩ | h
    · obtain ⟨o', q⟩ := Option.isSome_iff_exists.mp h
      have z := st b o' q
      rw [e'] at z
      cases z
      exact PySem.W.hideAll_get _ q (by simpa using n)
    · exact absurd h hb
  · obtain ⟨k1, k2, k3, oe, vs, T, oT, ts, he, hz, hd, h1, hnT, hTe, hT, hdT, h3⟩ := fl
    have hid : ∀ {b : Addr}, B.get? b = none → (PySem.W.hideAll B [s3.heap.objs.size]).get? b = none := fun {b} z => by
      cases q : (PySem.W.hideAll B [s3.heap.objs.size]).get? b with
      | none => rfl
      | some o =>
        have y := PySem.W.of_hideAll _ q
        rw [z] at y
        cases y
    exact ⟨fun b o e => st b o (PySem.W.of_hideAll _ e), hid k2, funFrames_none k3 fun L hL => hid (k3.mem hL).1, oe, vs, T, oT, ts, he, hz, hd, h1, hid hnT, hTe, hT, hdT, h3⟩
  · exact PySem.W.hideAll_none _ (by simp)
  · refine g2 _ ?_
    simp [hC0]

/-- [elt for target in iter if ..], a step may raise: te is told what is wished of an exception of it -/
def tLcX (wi : TI) (g : TG) (tt : TT) (te : WX → TE) (vs : List Nat) (W : WX) : TE := fun τ H Q => wi τ H fun J H1 => ∀ D, H1 D = none → ∃ V : Nat → Nat → Hp → Prop, (∃ m, V 0 m (upd H1 D (.lst []))) ∧ ∀ i m H, V i m H →
  (J.stop i H ∧ Q (.ref D) H) ∨ (J.go i H ∧ ∃ Nx : Hp → Prop, (∀ H', Nx H' → ∃ m', m' < m ∧ V (i + 1) m' H') ∧ ∀ x H', J.yld i H x H' → g x (wipe τ vs) H' fun σ2 H2 => wipe σ2 vs = wipe τ vs ∧ tt σ2 H2 fun b H3 =>
    if b = true then te (fun cls d _ H => W cls d τ H) σ2 H3 fun y H4 => ∃ acc, H4 D = some (.lst acc) ∧ acc.length < sizeLine ∧ Nx (upd H4 D (.lst (acc ++ [y]))) else Nx H3)
section
variable {X : Cx} {elt tg iter : Expr} {ifs : List Expr} {scope : Scope} {own : List (Str × Nat)} {pos pos' : Pos} {wi : TI} {g : TG} {tt : TT} {te : WX → TE} {W : WX}
theorem core {pz : List (Addr × Obj)} {s : Shared} {τ : L2.St} {H : Hp} {Q : VK} {u? : Option (Value → Sem Unit)} {Qf : Value → Shared → Prop}
    (hs : X.stack = X.env :: X.outer) (hf : X.env.frame = some X.env.locals) (tk : Takes X W) (hc : X.calm = true) (hN : X.N.Nodup) (I : Inv X pz τ H s) (hi : PI X tg iter wi) (ok : BlkOk X.N X.env.scope scope own)
    (hg : ∀ s H C cl fp xe, PG (blkX X s H scope (compEnvC scope cl C X.env) fp xe) tg g) (ht : ∀ s H C cl fp xe, PTs (blkX X s H scope (compEnvC scope cl C X.env) fp xe) ifs tt)
    (he : ∀ s H C cl fp xe V, (∀ σ, PassesAt (L2.CX X.prog X.w) (blkX X s H scope (compEnvC scope cl C X.env) fp xe) σ (WE V σ)) → PE (blkX X s H scope (compEnvC scope cl C X.env) fp xe) elt (te V)) (hset : ∀ x, foldedSetIterable iter X.env x = pure x)
    (h : tLcX wi g tt te (own.map (·.2)) W τ H Q)
    (hR : ∀ D ce s' m H', Inv X pz τ H' s' → Q (.ref D) H' → s'.heap.Ns ce.locals m → FpOk X pz H' ce.locals → After (model X.prog X.w) X.A X.xe u? Qf (.ref D) ce (.ok .next) s') :
    wpAny (model X.prog X.w) X.A (comprehension (.ListComp elt [⟨tg, iter, ifs, 0⟩] scope pos) scope X.env pos' (newList []) false (eval iter X.env) u?) Qf X.xe s := by
  have hfree : ∀ y ∈ scope.names, y.2 = .free → ∃ c, X.env.cells.lookup y.1 = some c := fun y hy e =>
    (ok.free y hy e).elim (fun k => I.ok.has _ (.inl k)) (fun k => I.ok.has _ (.inr k))
  refine comp_all (u? := u?) rfl hset (closure_ok hfree) ok.kind (fun y hy e => by rw [ok.uniq y hy, e]) (thn (hi.run pz s τ H _ I h) fun xv s1 hx => thn hx fun itv s2 h2 => ?_)
  obtain ⟨it, fp, tn, J, H2, e, I2, T, st2, f2, q⟩ := h2
  subst e
  refine wpAny_newObj_type (newEnv_comp ?_) (by show 0 ≤ sizeLine; decide)
  generalize hD : s2.heap.objs.size = D
  have hDn : H2 D = none := I2.hok.fresh (Nat.le_of_eq hD)
  obtain ⟨V, ⟨m0, w0⟩, turn⟩ := q D hDn
  generalize hs3 : ({ s2 with heap := s2.heap.push { cls := .type "list", data := .seq ([] : List Value).toArray } } : Shared) = s3
  have I3 : Inv X pz τ (upd H2 D (.lst [])) s3 := by
    rw [← hs3]
    exact I2.laid (t' := s2.toks) (fun b o e => Heap.get?_push_of_some _ e) (Nat.le_of_eq hD) ⟨Nat.zero_le _, [], 0, .nil, by rw [← hD]; exact Heap.get?_push_size _ rfl⟩
  have h3 : s3.heap = s2.heap.push { cls := .type "list", data := .seq ([] : List Value).toArray } := by rw [← hs3]
  have f3 : ∀ b ∈ fp, FpOk X pz (upd H2 D (.lst [])) b ∧ b < s3.heap.objs.size := fun b hb => by
    obtain ⟨o, e, _⟩ := T.obj _ _ st2 b hb
    have hlt := Heap.lt_size e
    exact ⟨⟨by rw [upd_ne (by rw [← hD]; exact Nat.ne_of_lt hlt)]; exact (f2 b hb).1, (f2 b hb).2⟩, by rw [h3, Heap.size_push]; exact Nat.lt_succ_of_lt hlt⟩
  have st3 : tn 0 s3.heap := T.keep _ _ _ st2 fun b _ o e => by rw [h3]; exact Heap.get?_push_of_some _ e
  have I4 := block_start I3 ok hN f3
  show codeAny _ _ (.compStart (.ListComp elt [⟨tg, iter, ifs, 0⟩] scope pos) 0 (.ref it) (.ref D) (compEnvC scope (cellsFrom (s3.heap.objs.size + 1) scope.names (cloFrom X.env.cells scope.names [])) s3.heap.objs.size X.env)) (After (model X.prog X.w) X.A X.xe u? Qf (.ref D) (compEnvC scope (cellsFrom (s3.heap.objs.size + 1) scope.names (cloFrom X.env.cells scope.names [])) s3.heap.objs.size X.env)) { s3 with heap := pushCells (s3.heap.push { cls := .type "dict", data := .dict #[] }) scope.names }
  have nfp : ∀ b ∈ fp, (upd H2 D (.lst [])) b = none := fun b hb => (f3 b hb).1.1
  generalize hcl : cellsFrom (s3.heap.objs.size + 1) scope.names (cloFrom X.env.cells scope.names []) = cl at I4 ⊢
  generalize hce : compEnvC scope cl s3.heap.objs.size X.env = ce at I4 ⊢
  have cL : ce.locals = s3.heap.objs.size := by subst hce; rfl
  have cF : ce.frame = X.env.frame := by subst hce; rfl
  generalize hH3 : upd H2 D (.lst []) = H3 at I3 I4 w0 nfp f3
  generalize hs4 : ({ s3 with heap := pushCells (s3.heap.push { cls := .type "dict", data := .dict #[] }) scope.names } : Shared) = s4 at I4 ⊢
  have st4 : tn 0 s4.heap := T.keep _ _ _ st3 fun b _ o e => by rw [← hs4]; exact pushCells_keeps _ _ _ _ (Heap.get?_push_of_some _ e)
  -- what is wished of an exception in the block
  generalize hxe : notedBy (model X.prog X.w) X.A ce (fun e s' => After (model X.prog X.w) X.A X.xe u? Qf (.ref D) ce (.error e) s') = xe
  have pg := hg s3 H3 s3.heap.objs.size cl fp xe
  have pt := ht s3 H3 s3.heap.objs.size cl fp xe
  have pe := he s3 H3 s3.heap.objs.size cl fp xe (fun cls d _ H => W cls d τ H)
  rw [hce] at pg pt pe
  have hC0 : s3.heap.objs.size ∉ frs X.stack := fun z => by
    obtain ⟨_, o, e, _⟩ := I3.stack.mem z
    exact absurd (Heap.lt_size e) (Nat.lt_irrefl _)
  have pe := pe fun σ2 pz2 H5 s5 e s6 I5 c => by
    have x : XC X W s3.heap.objs.size false e s6 := XC.of_call I3 (ofX I5) f3 cL (fun cls d H' h => h) c
    have n6 : ∃ m, s6.heap.Ns ce.locals m := by
      obtain ⟨a, B, H', cls, d, _, fl, _, ub, _⟩ := c
      obtain ⟨m, ⟨oC, es, ep, eC, r⟩, _⟩ := I5.loc
      have eC : s5.heap.get? ce.locals = some oC := eC
      have z : H5 ce.locals = none := I5.free
      exact ⟨m, oC, es, ep, fl.1 _ _ (ub.keep _ _ eC z (by rw [cL]; exact hC0)), r⟩
    show xe e s6
    rw [← hxe]
    refine x.noted I3.ok.frames hs hf cF fun g6 ug x6 => ?_
    obtain ⟨m, oC, es, ep, eC, dC, r⟩ := n6
    obtain ⟨sl, eg⟩ := ug _ _ eC (fun vs z => by rw [dC] at z; cases z)
    have ng : Heap.Ns g6 ce.locals m := ⟨_, es, ep, eg, dC, r⟩
    show ∃ m, Heap.Ns g6 ce.locals m ∧ _
    refine ⟨m, ng, fun g7 sb => ?_⟩
    rw [cL] at ng sb
    exact (XC.but x6 ng sb hC0).pass hf cF tk
  have stat : ∀ {σ' : L2.St} {H' : Hp} {s' : Shared}, Inv (blkX X s3 H3 scope ce fp xe) [] σ' H' s' → (∀ b ∈ fp, H' b = none) → ∀ b ∈ fp, FpOk (blkX X s3 H3 scope ce fp xe) [] H' b := fun {σ' H' s'} I' hn b hb =>
    ⟨hn b hb, (I'.ok.exf b hb).1, I'.ok.exfs b hb, .inl hb, fun x c e => (I'.ok.exf b hb).2 x c e, fun p hp => absurd (show p ∈ ([] : List (Addr × Obj)) ++ [] from hp) (by simp)⟩
  have loop : codeAny (model X.prog X.w) X.A (.compLoop (.ListComp elt [⟨tg, iter, ifs, 0⟩] scope pos) 0 (.ref it) (.ref D) ce) (After (model X.prog X.w) X.A X.xe u? Qf (.ref D) ce) s4 := by
    refine compLoop_any (fun n s' => ∃ i H', Inv (blkX X s3 H3 scope ce fp xe) [] (wipe τ (own.map (·.2))) H' s' ∧ tn i s'.heap ∧ (∀ b ∈ fp, H' b = none) ∧ V i n H') ?_ m0 ⟨0, H3, toX I4, st4, nfp, w0⟩
    rintro n s5 ⟨i, H5, I5, st5, n5, w5⟩
    rw [hxe]
    rcases turn i n H5 w5 with ⟨stop, qq⟩ | ⟨go, Nx, hNx, step⟩
    · refine thnF (T.done (blkX X s3 H3 scope ce fp xe) rfl rfl rfl hc i [] s5 _ H5 (fun _ _ => False) I5 (stat I5 n5) st5 stop) fun r s6 ⟨hr, I6⟩ => ?_
      subst hr
      have I7 : Inv X pz τ H5 s6 := I3.call' (ch := fp) I6.os I6.base I6.hok I6.bare fun b hb => ⟨(f3 b hb).1.2.2.2.1, (f3 b hb).1.2.1, (f3 b hb).1.2.2.2.2.1, (f3 b hb).1.2.2.2.2.2⟩
      obtain ⟨m, hn, _⟩ := I6.loc
      have z : H5 ce.locals = none := I6.free
      exact hR D ce s6 m H5 I7 qq hn (I3.fpOk (by rw [cL]; exact Nat.le_refl _) z)
    · refine thnF (T.item (blkX X s3 H3 scope ce fp xe) rfl rfl rfl hc i [] s5 _ H5 (fun _ _ => False) I5 (stat I5 n5) st5 go) fun r s6 ⟨u, hr, h6⟩ => ?_
      subst hr
      refine thnF h6 fun _ s7 ⟨x, H7, I7, r7, y7, st7, n7⟩ => ?_
      have I7' := I7.pinned (stat I7 n7) (T.obj _ _ st7)
      refine thn (pg.run _ s7 _ H7 x u _ I7' r7 (step x H7 y7)) fun _ s8 ⟨σ8, H8, I8, hw8, q8⟩ => ?_
      refine thn (pt.run _ s8 σ8 H8 _ I8 q8) fun b s9 ⟨H9, I9, q9⟩ => ?_
      have fin : ∀ {s' : Shared} {H' : Hp}, Inv (blkX X s3 H3 scope ce fp xe) ([] ++ pinsAt fp s7.heap) σ8 H' s' → Nx H' → ∃ m, m < n ∧ ∃ i H', Inv (blkX X s3 H3 scope ce fp xe) [] (wipe τ (own.map (·.2))) H' s' ∧ tn i s'.heap ∧ (∀ b ∈ fp, H' b = none) ∧ V i m H' := fun {s' H'} I' nx => by
        obtain ⟨m', hm, w'⟩ := hNx H' nx
        have pin' : ∀ b ∈ fp, ∀ o, s7.heap.get? b = some o → s'.heap.get? b = some o ∧ H' b = none := fun b hb o e =>
          let z := I'.pin (b, o) (List.mem_append_right _ (List.mem_append_right _ (mem_pinsAt hb e)))
          ⟨z.1, z.2.1⟩
        have hl : (wipe τ (own.map (·.2))).length = σ8.length := by rw [← hw8, wipe_length]
        refine ⟨m', hm, i + 1, H', (I'.unpinned (pins := [])).weak hl (fun j v e => ?_), T.keep _ _ _ st7 fun b hb o e => (pin' b hb o e).1, fun b hb => ?_, w'⟩
        · rw [← hw8] at e
          exact (wipe_some e).1
        · obtain ⟨o, e, _⟩ := T.obj _ _ st7 b hb
          exact (pin' b hb o e).2
      cases b with
      | false =>
        simp only [Bool.false_eq_true, if_false] at q9 ⊢
        exact fin I9 q9
      | true =>
        simp only [if_true] at q9 ⊢
        refine thn (pe.run _ s9 σ8 H9 _ I9 q9) fun z s10 ⟨yv, H10, I10, r10, acc, hD10, hz10, nx⟩ => ?_
        exact app_ok (X := blkX X s3 H3 scope ce fp xe) I10 hD10 hz10 r10 fun s11 I11 => fin I11 nx
  exact codeAny_compStart_list loop (T.self X.A 0 _ _ _ st4 loop)
/-- as a value -/
theorem pe_lcX (hs : X.stack = X.env :: X.outer) (hf : X.env.frame = some X.env.locals) (tk : Takes X W) (hc : X.calm = true) (hN : X.N.Nodup) (hi : PI X tg iter wi) (ok : BlkOk X.N X.env.scope scope own)
    (hg : ∀ s H C cl fp xe, PG (blkX X s H scope (compEnvC scope cl C X.env) fp xe) tg g) (ht : ∀ s H C cl fp xe, PTs (blkX X s H scope (compEnvC scope cl C X.env) fp xe) ifs tt)
    (he : ∀ s H C cl fp xe V, (∀ σ, PassesAt (L2.CX X.prog X.w) (blkX X s H scope (compEnvC scope cl C X.env) fp xe) σ (WE V σ)) → PE (blkX X s H scope (compEnvC scope cl C X.env) fp xe) elt (te V))
    (hset : ∀ x, foldedSetIterable iter X.env x = pure x := by intro _; rfl) :
    PE X (.ListComp elt [⟨tg, iter, ifs, 0⟩] scope pos) (tLcX wi g tt te (own.map (·.2)) W) := by
  refine ⟨fun pz s τ H Q I h => ?_⟩
  rw [eval_ListComp]
  refine core hs hf tk hc hN I hi ok hg ht he hset h fun D ce s' m H' I' q hn f => ⟨m, hn, fun h'' sb => ?_⟩
  obtain ⟨f0, f1, f2, f3, f4, f5⟩ := f
  exact ⟨.ref D, H', I'.turned (t' := s'.toks) (fun b o hb e => (sb.2 b hb).trans e) f0 f1 f3 f4 f5, rfl, q⟩
end
end FoE

set_option maxHeartbeats 4100000
/-! == of tuples, whose items are told by their own == . -/
namespace FoG
open PySem PySem.Spec PyProof.Rows L2
def inN : Nat → Around → Around
  | 0, A => A
  | n + 1, A => (inN n A).in1
theorem inN_room {A : Around} : ∀ {n k : Nat}, Room (k + n) A → Room k (inN n A)
  | 0, _, r => r
  | n + 1, k, r => by
    have z : Room (k + 1) (inN n A) := inN_room (by rw [Nat.add_right_comm]; exact r)
    exact ⟨z.hd, by have := z.dp; show (inN n A).depth + 3 * k + 5 < _; omega, by have := z.un; show (inN n A).units + 1 + 16 * k + 200 < _; omega⟩
theorem inN_env {P : Program} {w : World} {K : PySem.W.Frag} {mg : Str → Option Value} {base : Heap} {A : Around} {outer : List Env} {s : Shared} {H : Hp} (e : Env0 P w K mg base A outer s H) : ∀ n, Env0 P w K mg base (inN n A) outer s H
  | 0 => e
  | n + 1 => (inN_env e n).in1
/-- x == y, n units deeper: it is b, and nothing has changed -/
def EqW (X : Cx) (n : Nat) (H : Hp) (x y : V) (b : Bool) : Prop := ∀ pz τ s v u (Q : Bool → Shared → Prop), Inv X pz τ H s → RelV x v → RelV y u → (∀ s', Inv X pz τ H s' → Q b s') → wpAny (model X.prog X.w) (inN n X.A) (eqBool v u) Q X.xe s
section
variable {X : Cx} {CX : CXT} {k n : Nat} {f C a b : Addr} {fd : FuncData} {ps : List Str} {sp : Sp} {E : XK} {H : Hp}
theorem ask_refs {M : Model} {A : Around} {E : Value → Shared → Prop} {Q : Bool → Shared → Prop} {s : Shared} (h1 : a = b → Q true s) (h : a ≠ b → wpAny M A (richCompare .Eq (.ref a) (.ref b)) (fun v s' => ∃ c, v = .bool c ∧ Q c s') E s) : wpAny M A (eqBool (.ref a) (.ref b)) Q E s := by
  unfold eqBool
  refine wpAny_holding ?_
  by_cases e : a = b
  · subst e
    rw [if_pos (beq_self_eq_true _)]
    exact wpAny_bind (wpAny_rule (wpAny_pure (h1 rfl)))
  · rw [if_neg (fun z => e (by have z := eq_of_beq z; injection z))]
    refine wpAny_bind (wpAny_mono (h e) (fun v s' z => ?_) fun _ _ z => z)
    obtain ⟨c, rfl, q⟩ := z
    exact wpAny_truthy_bool q
theorem eqW_own (F : FnOk X.prog X.w X.K X.mg X.base CX k f fd ps sp) (hr : Room (k + n) X.A) (hb : Binds X.K fd ps []) (hx : Passes CX X E) (B : FoA.CmpC X.K C f .Eq) {dx dy : Addr} {fs gs : List (Str × V)} (ea : H a = some (.ins C dx fs)) (eb : H b = some (.ins C dy gs))
    {c : Bool} (hc : a = b → c = true) (h : sp [.ref a, .ref b] H (fun v H' => v = .bl c ∧ H' = H) E) : EqW X n H (.ref a) (.ref b) c := by
  intro pz τ s v u Q I rv ru q
  cases rv
  cases ru
  refine ask_refs (fun e => by rw [hc e] at q; exact q s I) fun _ => ?_
  obtain ⟨mA, J, _⟩ := ins_get I.hok ea
  obtain ⟨od, J, _⟩ := J.look
  obtain ⟨mB, J', _⟩ := ins_get I.hok eb
  obtain ⟨od', J', _⟩ := J'.look
  obtain ⟨m, hF⟩ := I.fr
  have hr1 : Room k (inN n X.A) := inN_room hr
  have bd := hb s [.ref a, .ref b] I.kIn (by rw [List.append_nil]; exact F.len _ _ _ _ h)
  rw [List.append_nil] at bd
  refine PySem.W.cmp_K hr1.units0 hF I.ok.mod.kin J J'.type (by simp [PySem.W.notFirst]) B.at_ B.fn ?_
  refine wpAny_call (codeAny_mono (F.run (inN n X.A) X.stack s H ⟨[.ref a, .ref b], []⟩ [.ref a, .ref b] [.ref a, .ref b] _ E hr1 (inN_env I.env0 n) bd (.cons rfl (.cons rfl .nil)) h) fun r s' hj => ?_)
  cases r with
  | error e => exact hx pz τ H s e s' I hj
  | ok fl =>
    cases fl with
    | ret w =>
      obtain ⟨y, H', I', rv, e1, e2⟩ := I.after hj
      subst e1 e2
      cases rv
      exact ⟨c, rfl, q _ I'⟩
    | next => exact False.elim hj
    | brk => exact False.elim hj
    | cont => exact False.elim hj
/-- the items' answers, one after the other -/
inductive EqWs (X : Cx) (n : Nat) (H : Hp) : List V → List V → Bool → Prop where
  | nil : EqWs X n H [] [] true
  | left {x : V} {xs : List V} : EqWs X n H (x :: xs) [] false
  | right {y : V} {ys : List V} : EqWs X n H [] (y :: ys) false
  | cons {x y : V} {xs ys : List V} {b c : Bool} (h : EqW X n H x y b) (t : EqWs X n H xs ys c) : EqWs X n H (x :: xs) (y :: ys) (b && c)
theorem EqWs.len {n : Nat} {H : Hp} : ∀ {xs ys : List V} {c : Bool}, EqWs X n H xs ys c → c = true → xs.length = ys.length
  | _, _, _, .nil, _ => rfl
  | _, _, _, .cons h t, e => by
    rw [Bool.and_eq_true] at e
    rw [List.length_cons, List.length_cons, t.len e.2]
theorem tup_builtin {pz : List (Addr × Obj)} {τ : L2.St} {s : Shared} {xs ys : List V} {c : Bool} {P : Fin → Shared → Prop} (n : Nat) (I : Inv X pz τ H s) (ha : SqT X.K H a xs) (hb : SqT X.K H b ys) (e : EqWs X n H xs ys c)
    (h : ∀ s', Inv X pz τ H s' → P (.done (.ret (.bool c))) s') : wpAny (model X.prog X.w) (inN n X.A) (Builtin.«tuple.__eq__» ⟨[.ref a, .ref b], []⟩) P X.xe s := by
  obtain ⟨as, ra, ⟨oa, hoa, hca, na, hda⟩, _⟩ := I.tuple ha
  obtain ⟨bs, rb, ⟨ob, hob, hcb, nb, hdb⟩, _⟩ := I.tuple hb
  have hTb : s.TypeIs (.ref b) "tuple" := ⟨ob, hob, hcb⟩
  show wpAny _ _ (isInstance (.ref b) (.type "tuple") >>= _) _ _ s
  refine wpAny_bind (wpAny_isInstance hTb isSubtype_tuple_tuple ?_)
  simp only [Bool.not_true, Bool.false_eq_true, if_false]
  refine wpAny_bind (wpAny_tupleItemsOf hoa hda (wpAny_bind (wpAny_tupleItemsOf hob hdb (wpAny_bind ?_))))
  have zl : ((as.toArray.size == bs.toArray.size) = true) = (xs.length = ys.length) := by
    have e1 := ra.length
    have e2 := rb.length
    simp [e1, e2]
  refine wpAny_forIn_list _ (fun rest r t => r.1 = none ∧ Inv X pz τ H t ∧ ∃ xs' ys' as' bs' d, rest = List.zip as' bs' ∧ Vals xs' as' ∧ Vals ys' bs' ∧ EqWs X n H xs' ys' d ∧ d = c ∧ (xs'.length = ys'.length ↔ xs.length = ys.length)) _ ?_ ?_ _ _ ⟨rfl, I, xs, ys, as, bs, c, rfl, ra, rb, e, rfl, Iff.rfl⟩
  · rintro ⟨u, v⟩ rest r t ⟨hr, It, xs', ys', as', bs', d, hz, r1, r2, e', hd, hl⟩
    cases e' with
    | nil =>
      cases r1
      simp at hz
    | left =>
      cases r2
      simp at hz
    | right =>
      cases r1
      simp at hz
    | @cons x y xs2 ys2 b1 c1 h1 t1 =>
      cases r1 with
      | cons q1 w1 =>
        cases r2 with
        | cons q2 w2 =>
          simp only [List.zip_cons_cons, List.cons.injEq, Prod.mk.injEq] at hz
          obtain ⟨⟨rfl, rfl⟩, rfl⟩ := hz
          refine wpAny_bind (h1 pz τ t _ _ _ It q1 q2 fun t' It' => ?_)
          cases b1 with
          | true =>
            simp only [Bool.not_true, Bool.false_eq_true, if_false]
            exact wpAny_pure ⟨rfl, It', xs2, ys2, _, _, c1, rfl, w1, w2, t1, by rw [← hd, Bool.true_and], by rw [← hl]; simp⟩
          | false =>
            simp only [Bool.not_false, if_true]
            have hc : c = false := by rw [← hd, Bool.false_and]
            rw [hc] at h
            exact wpAny_bind (wpAny_pure (wpAny_pure (wpAny_pure (h t' It'))))
  · rintro ⟨r1, r2⟩ t ⟨hr, It, xs', ys', as', bs', d, hz, q1, q2, e', hd, hl⟩
    simp only at hr
    subst hr
    refine wpAny_pure ?_
    have fin : (as.toArray.size == bs.toArray.size) = c := by
      cases e' with
      | nil =>
        rw [← hd]
        exact zl.symm ▸ (hl.mp rfl)
      | left =>
        rw [← hd]
        cases q : (as.toArray.size == bs.toArray.size) with
        | false => rfl
        | true => exact absurd (hl.mpr (zl ▸ q)) (by simp)
      | right =>
        rw [← hd]
        cases q : (as.toArray.size == bs.toArray.size) with
        | false => rfl
        | true => exact absurd (hl.mpr (zl ▸ q)) (by simp)
      | cons _ _ =>
        cases q1
        cases q2
        simp at hz
    show P (.done (.ret (.bool (as.toArray.size == bs.toArray.size)))) t
    rw [fin]
    exact h t It
/-- two tuples, by richCompare -/
theorem rc_tups {pz : List (Addr × Obj)} {τ : L2.St} {s : Shared} {xs ys : List V} {c : Bool} {Q : Value → Shared → Prop} (n : Nat) (hu : (inN n X.A).units < cLine) (I : Inv X pz τ H s) (ha : SqT X.K H a xs) (hb : SqT X.K H b ys) (e : EqWs X (n + 1) H xs ys c)
    (h : ∀ s', Inv X pz τ H s' → Q (.bool c) s') : wpAny (model X.prog X.w) (inN n X.A) (richCompare .Eq (.ref a) (.ref b)) Q X.xe s := by
  obtain ⟨as, ra, ⟨oa, hoa, hca, na, hda⟩, _⟩ := I.tuple ha
  obtain ⟨bs, rb, ⟨ob, hob, hcb, nb, hdb⟩, _⟩ := I.tuple hb
  have ta : s.TypeIs (.ref a) "tuple" := ⟨oa, hoa, hca⟩
  have tb : s.TypeIs (.ref b) "tuple" := ⟨ob, hob, hcb⟩
  refine wpAny_richCompare_same_room (op := .Eq) ta tb F.slot_tuple_eq (wpAny_call_entry F.slot_tuple_eq ta F.entry_tuple_eq ?_ (F.args_tuple_eq_2 _ _)) hu
  exact tup_builtin (n + 1) I ha hb e fun s' I' => ⟨_, rfl, (fun z => nomatch z), h s' I'⟩
theorem eqW_tup {xs ys : List V} {c : Bool} (hu : (inN n X.A).units < cLine) (ha : SqT X.K H a xs) (hb : SqT X.K H b ys) (e : EqWs X (n + 1) H xs ys c) (hc : a = b → c = true) : EqW X n H (.ref a) (.ref b) c := by
  intro pz τ s v u Q I rv ru q
  cases rv
  cases ru
  refine ask_refs (fun z => by rw [hc z] at q; exact q s I) fun _ => ?_
  exact rc_tups n hu I ha hb e fun s' I' => ⟨c, rfl, q s' I'⟩
/-- a == b, both tuples -/
def rEqT (X : Cx) : R2 := fun x y H Q => ∃ a b xs ys c, x = .ref a ∧ y = .ref b ∧ SqT X.K H a xs ∧ SqT X.K H b ys ∧ EqWs X 1 H xs ys c ∧ Q (.bl c) H
theorem op_eqT (hu : X.A.units < cLine) : OpR X (compareOp .Eq) (rEqT X) := by
  intro pz s τ H x y v u Q I rv ru h
  obtain ⟨a, b, xs, ys, c, rfl, rfl, ha, hb, e, q⟩ := h
  cases rv
  cases ru
  show wpAny _ _ (richCompare .Eq (.ref a) (.ref b)) _ _ _
  exact rc_tups 0 hu I ha hb e fun s' I' => ⟨.bl c, H, I', rfl, q⟩
end
end FoG

/-! Rules with the frame named: for the inside of a comprehension. -/
namespace FoK
open PySem PySem.Spec PyProof.Rows L2
section
variable {X : Cx} {K' : PySem.W.Frag} {e : Expr} {f : Str} {pos : Pos} {ta : TE}
theorem pe_fldK (he : PE X e ta) (hb : attributeBase e f X.env (eval e X.env) = eval e X.env) (hK : X.K = K') : PE X (.Attribute e f pos) (tFld K' ta f) := hK ▸ pe_fld he hb
theorem pg_tupK {es : List Expr} {k n : Nat} {t : TGs} (hK : X.K = K') (hc : X.calm = true) (h : PGs X es t) (hn : (assignEach es X.env).length = n := by rfl) (hst : (assignEach es X.env).findIdx? (·.1) = none := by rfl) : PG X (.Tuple es k pos) (gTup K' n t) := hK ▸ pg_tup hc h hn hst
theorem ix_listK (hK : X.K = K') : IxR X (rIxL K') := hK ▸ ix_list
theorem ix_tupK (hK : X.K = K') : IxR X (rIxT K') := hK ▸ ix_tup
theorem call_lenK (hK : X.K = K') : CallR X (.builtin "len") (fun xs H Q => ∃ p ys, xs = [.ref p] ∧ (SqL K' H p ys ∨ SqT K' H p ys) ∧ Q (.int ys.length) H) := hK ▸ call_len_seq
theorem call_isiK (hK : X.K = K') : CallR X (.builtin "isinstance") (rIsi K') := hK ▸ call_isi
theorem call_isiTK (hK : X.K = K') : CallR X (.builtin "isinstance") (rIsiT K') := hK ▸ call_isiT
theorem op_eqDK (hK : X.K = K') (hu : X.A.units + 64 < cLine) : OpR X (compareOp .Eq) (rEqD K') := hK ▸ op_eqD hu
theorem op_neDK (hK : X.K = K') (hu : X.A.units + 64 < cLine) : OpR X (compareOp .NotEq) (rNeD K') := hK ▸ op_neD hu
theorem call_tupleK (hK : X.K = K') : CallR X (.type "tuple") (fun xs H Q => ∃ p ys, xs = [.ref p] ∧ ((SqL K' H p ys ∧ ∀ l, H l = none → Q (.ref l) (upd H l (.tup ys))) ∨ (SqT K' H p ys ∧ Q (.ref p) H))) := by
  subst hK
  exact call_tuple_of
theorem pi_listK {tg l : Expr} {tl : TE} (hK : X.K = K') (hl : PE X l tl) : PI X tg l (iList K' tl) := by
  subst hK
  exact pi_list hl
theorem pi_tupK {tg l : Expr} {tl : TE} (hK : X.K = K') (hl : PE X l tl) : PI X tg l (iTup K' tl) := by
  subst hK
  exact pi_tup hl
end
end FoK

set_option maxHeartbeats 4100000
namespace Fo
open PySem PySem.Spec PyProof.Rows L2
def top (i : Nat) : Stmt := PySem.Challenge.pw_filterorders_k15_formulas.main.body.getD i (.Pass ⟨0, 0, 0, 0⟩)
abbrev s_BadNumber_init : Stmt := inClass (top 5) 0
theorem sc_BadNumber_init : FnScope ["self", "given"] ["self", "given"] (defScope s_BadNumber_init) := ⟨rfl, rfl, rfl, by decide +kernel, rfl, by decide +kernel, by decide +kernel⟩
abbrev s_BadRow_init : Stmt := inClass (top 7) 0
theorem sc_BadRow_init : FnScope ["self", "row"] ["self", "row"] (defScope s_BadRow_init) := ⟨rfl, rfl, rfl, by decide +kernel, rfl, by decide +kernel, by decide +kernel⟩
abbrev s_Ratio_init : Stmt := inClass (top 11) 0
theorem sc_Ratio_init : FnScope ["self", "top", "bottom", "shared"] ["self", "top", "bottom"] (defScope s_Ratio_init) := ⟨rfl, rfl, rfl, by decide +kernel, rfl, by decide +kernel, by decide +kernel⟩
abbrev s_Ratio_top : Stmt := inClass (top 11) 2
theorem sc_Ratio_top : FnScope ["self"] ["self"] (defScope s_Ratio_top) := ⟨rfl, rfl, rfl, by decide +kernel, rfl, by decide +kernel, by decide +kernel⟩
abbrev s_Ratio_bottom : Stmt := inClass (top 11) 3
theorem sc_Ratio_bottom : FnScope ["self"] ["self"] (defScope s_Ratio_bottom) := ⟨rfl, rfl, rfl, by decide +kernel, rfl, by decide +kernel, by decide +kernel⟩
abbrev s_Ratio_eq : Stmt := inClass (top 11) 4
theorem sc_Ratio_eq : FnScope ["self", "other"] ["self", "other"] (defScope s_Ratio_eq) := ⟨rfl, rfl, rfl, by decide +kernel, rfl, by decide +kernel, by decide +kernel⟩
abbrev s_Ratio_add : Stmt := inClass (top 11) 7
theorem sc_Ratio_add : FnScope ["self", "other", "right"] ["self", "other"] (defScope s_Ratio_add) := ⟨rfl, rfl, rfl, by decide +kernel, rfl, by decide +kernel, by decide +kernel⟩
abbrev s_Ratio_mul : Stmt := inClass (top 11) 9
theorem sc_Ratio_mul : FnScope ["self", "other", "right"] ["self", "other"] (defScope s_Ratio_mul) := ⟨rfl, rfl, rfl, by decide +kernel, rfl, by decide +kernel, by decide +kernel⟩
abbrev s_Ratio_neg : Stmt := inClass (top 11) 10
theorem sc_Ratio_neg : FnScope ["self"] ["self"] (defScope s_Ratio_neg) := ⟨rfl, rfl, rfl, by decide +kernel, rfl, by decide +kernel, by decide +kernel⟩
abbrev s_is_whole : Stmt := top 12
theorem sc_is_whole : FnScope ["given"] ["given"] (defScope s_is_whole) := ⟨rfl, rfl, rfl, by decide +kernel, rfl, by decide +kernel, by decide +kernel⟩
abbrev s_is_number : Stmt := top 13
theorem sc_is_number : FnScope ["given"] ["given"] (defScope s_is_number) := ⟨rfl, rfl, rfl, by decide +kernel, rfl, by decide +kernel, by decide +kernel⟩
abbrev s_as_ratio : Stmt := top 14
theorem sc_as_ratio : FnScope ["given"] ["given"] (defScope s_as_ratio) := ⟨rfl, rfl, rfl, by decide +kernel, rfl, by decide +kernel, by decide +kernel⟩
abbrev s_Formula_init : Stmt := inClass (top 19) 0
theorem sc_Formula_init : FnScope ["self", "terms", "row", "number"] ["self", "terms"] (defScope s_Formula_init) := ⟨rfl, rfl, rfl, by decide +kernel, rfl, by decide +kernel, by decide +kernel⟩
abbrev s_Formula_terms : Stmt := inClass (top 19) 2
theorem sc_Formula_terms : FnScope ["self"] ["self"] (defScope s_Formula_terms) := ⟨rfl, rfl, rfl, by decide +kernel, rfl, by decide +kernel, by decide +kernel⟩
abbrev s_Formula_eq : Stmt := inClass (top 19) 3
theorem sc_Formula_eq : FnScope ["self", "other"] ["self", "other"] (defScope s_Formula_eq) := ⟨rfl, rfl, rfl, by decide +kernel, rfl, by decide +kernel, by decide +kernel⟩
abbrev s_Formula_add : Stmt := inClass (top 19) 4
theorem sc_Formula_add : FnScope ["self", "other", "total", "row", "number"] ["self", "other"] (defScope s_Formula_add) := ⟨rfl, rfl, rfl, by decide +kernel, rfl, by decide +kernel, by decide +kernel⟩
abbrev s_Formula_sub : Stmt := inClass (top 19) 5
theorem sc_Formula_sub : FnScope ["self", "other"] ["self", "other"] (defScope s_Formula_sub) := ⟨rfl, rfl, rfl, by decide +kernel, rfl, by decide +kernel, by decide +kernel⟩
abbrev s_Formula_mul : Stmt := inClass (top 19) 6
theorem sc_Formula_mul : FnScope ["self", "other", "total", "row", "number", "behind", "factor", "whole"] ["self", "other"] (defScope s_Formula_mul) := ⟨rfl, rfl, rfl, by decide +kernel, rfl, by decide +kernel, by decide +kernel⟩
abbrev s_Formula_neg : Stmt := inClass (top 19) 7
theorem sc_Formula_neg : FnScope ["self", "row", "number"] ["self"] (defScope s_Formula_neg) := ⟨rfl, rfl, rfl, by decide +kernel, rfl, by decide +kernel, by decide +kernel⟩
abbrev s_Formula_times : Stmt := inClass (top 19) 8
theorem sc_Formula_times : FnScope ["self", "number", "factor", "row", "worth"] ["self", "number"] (defScope s_Formula_times) := ⟨rfl, rfl, rfl, by decide +kernel, rfl, by decide +kernel, by decide +kernel⟩
abbrev s_Formula_mirror : Stmt := inClass (top 19) 9
theorem sc_Formula_mirror : FnScope ["self", "row", "number"] ["self"] (defScope s_Formula_mirror) := ⟨rfl, rfl, rfl, by decide +kernel, rfl, by decide +kernel, by decide +kernel⟩
abbrev s_Formula_is_mirror : Stmt := inClass (top 19) 10
theorem sc_Formula_is_mirror : FnScope ["self"] ["self"] (defScope s_Formula_is_mirror) := ⟨rfl, rfl, rfl, by decide +kernel, rfl, by decide +kernel, by decide +kernel⟩
abbrev s_Formula_degree : Stmt := inClass (top 19) 11
theorem sc_Formula_degree : FnScope ["self", "row"] ["self"] (defScope s_Formula_degree) := ⟨rfl, rfl, rfl, by decide +kernel, rfl, by decide +kernel, by decide +kernel⟩
abbrev s_opposite : Stmt := top 20
theorem sc_opposite : FnScope ["formula"] ["formula"] (defScope s_opposite) := ⟨rfl, rfl, rfl, by decide +kernel, rfl, by decide +kernel, by decide +kernel⟩
abbrev s_is_row : Stmt := top 21
theorem sc_is_row : FnScope ["given", "letter"] ["given"] (defScope s_is_row) := ⟨rfl, rfl, rfl, by decide +kernel, rfl, by decide +kernel, by decide +kernel⟩
abbrev s_shortened : Stmt := top 22
theorem sc_shortened : FnScope ["row", "found", "letter"] ["row"] (defScope s_shortened) := ⟨rfl, rfl, rfl, by decide +kernel, rfl, by decide +kernel, by decide +kernel⟩
abbrev s_form_of : Stmt := top 23
theorem sc_form_of : FnScope ["terms", "total", "row", "number", "short", "in_order"] ["terms"] (defScope s_form_of) := ⟨rfl, rfl, rfl, by decide +kernel, rfl, by decide +kernel, by decide +kernel⟩
abbrev s_cell : Stmt := top 28
theorem sc_cell : FnScope ["_law_script", "_law_k"] ["_law_script", "_law_k"] (defScope s_cell) := ⟨rfl, rfl, rfl, by decide +kernel, rfl, by decide +kernel, by decide +kernel⟩
abbrev s_box : Stmt := top 29
theorem sc_box : FnScope ["_law_script", "_law_k"] ["_law_script", "_law_k"] (defScope s_box) := ⟨rfl, rfl, rfl, by decide +kernel, rfl, by decide +kernel, by decide +kernel⟩
abbrev s_take : Stmt := top 30
theorem sc_take : FnScope ["_law_box_here", "_law_many", "_law_digit", "_law_mixed"] ["_law_box_here", "_law_many"] (defScope s_take) := ⟨rfl, rfl, rfl, by decide +kernel, rfl, by decide +kernel, by decide +kernel⟩
abbrev s_frac : Stmt := top 31
theorem sc_frac : FnScope ["_law_up", "_law_down", "_law_one", "_law_other"] ["_law_up", "_law_down"] (defScope s_frac) := ⟨rfl, rfl, rfl, by decide +kernel, rfl, by decide +kernel, by decide +kernel⟩
abbrev s_plus : Stmt := top 32
theorem sc_plus : FnScope ["_law_x", "_law_y"] ["_law_x", "_law_y"] (defScope s_plus) := ⟨rfl, rfl, rfl, by decide +kernel, rfl, by decide +kernel, by decide +kernel⟩
abbrev s_times : Stmt := top 33
theorem sc_times : FnScope ["_law_x", "_law_y"] ["_law_x", "_law_y"] (defScope s_times) := ⟨rfl, rfl, rfl, by decide +kernel, rfl, by decide +kernel, by decide +kernel⟩
abbrev s_minus : Stmt := top 34
theorem sc_minus : FnScope ["_law_x", "_law_y"] ["_law_x", "_law_y"] (defScope s_minus) := ⟨rfl, rfl, rfl, by decide +kernel, rfl, by decide +kernel, by decide +kernel⟩
abbrev s_number : Stmt := top 36
theorem sc_number : FnScope ["_law_box_here", "_law_most", "_law_up"] ["_law_box_here", "_law_most"] (defScope s_number) := ⟨rfl, rfl, rfl, by decide +kernel, rfl, by decide +kernel, by decide +kernel⟩
abbrev s_handed : Stmt := top 37
theorem sc_handed : FnScope ["_law_x", "_law_box_here"] ["_law_x", "_law_box_here"] (defScope s_handed) := ⟨rfl, rfl, rfl, by decide +kernel, rfl, by decide +kernel, by decide +kernel⟩
abbrev s_short : Stmt := top 39
theorem sc_short : FnScope ["_law_row_here", "_law_found", "_law_letter"] ["_law_row_here"] (defScope s_short) := ⟨rfl, rfl, rfl, by decide +kernel, rfl, by decide +kernel, by decide +kernel⟩
abbrev s_form : Stmt := top 40
theorem sc_form : FnScope ["_law_pairs_here", "_law_found", "_law_row_here", "_law_x", "_law_key", "_law_made", "_law_size"] ["_law_pairs_here"] (defScope s_form) := ⟨rfl, rfl, rfl, by decide +kernel, rfl, by decide +kernel, by decide +kernel⟩
abbrev s_row : Stmt := top 41
theorem sc_row : FnScope ["_law_box_here", "_law_most", "_law_k"] ["_law_box_here", "_law_most"] (defScope s_row) := ⟨rfl, rfl, rfl, by decide +kernel, rfl, by decide +kernel, by decide +kernel⟩
abbrev s_terms : Stmt := top 42
theorem sc_terms : FnScope ["_law_box_here", "_law_most", "_law_size", "_law_found", "_law_k", "_law_row_here", "_law_pair"] ["_law_box_here", "_law_most", "_law_size"] (defScope s_terms) := ⟨rfl, rfl, rfl, by decide +kernel, rfl, by decide +kernel, by decide +kernel⟩
abbrev s_formula : Stmt := top 43
theorem sc_formula : FnScope ["_law_pairs_here", "_law_terms_here", "_law_row_here", "_law_x"] ["_law_pairs_here"] (defScope s_formula) := ⟨rfl, rfl, rfl, by decide +kernel, rfl, by decide +kernel, by decide +kernel⟩
abbrev s_pairs : Stmt := top 44
theorem sc_pairs : FnScope ["_law_form_here", "_law_row_here"] ["_law_form_here"] (defScope s_pairs) := ⟨rfl, rfl, rfl, by decide +kernel, rfl, by decide +kernel, by decide +kernel⟩
abbrev s_is : Stmt := top 45
theorem sc_is : FnScope ["_law_formula_here", "_law_form_here", "_law_told_here", "_law_row_here"] ["_law_formula_here", "_law_form_here"] (defScope s_is) := ⟨rfl, rfl, rfl, by decide +kernel, rfl, by decide +kernel, by decide +kernel⟩
abbrev s_multiplied : Stmt := top 46
theorem sc_multiplied : FnScope ["_law_one", "_law_other", "_law_found", "_law_row_here", "_law_x", "_law_end", "_law_y"] ["_law_one", "_law_other"] (defScope s_multiplied) := ⟨rfl, rfl, rfl, by decide +kernel, rfl, by decide +kernel, by decide +kernel⟩
abbrev s_refused : Stmt := top 47
theorem sc_refused : FnScope ["_law_terms_here", "e"] ["_law_terms_here"] (defScope s_refused) := ⟨rfl, rfl, rfl, by decide +kernel, rfl, by decide +kernel, by decide +kernel⟩
abbrev s_turned : Stmt := top 48
theorem sc_turned : FnScope ["_law_pairs_here", "_law_row_here", "_law_x"] ["_law_pairs_here"] (defScope s_turned) := ⟨rfl, rfl, rfl, by decide +kernel, rfl, by decide +kernel, by decide +kernel⟩
abbrev s_less_all : Stmt := top 49
theorem sc_less_all : FnScope ["_law_pairs_here", "_law_row_here", "_law_x"] ["_law_pairs_here"] (defScope s_less_all) := ⟨rfl, rfl, rfl, by decide +kernel, rfl, by decide +kernel, by decide +kernel⟩
abbrev s_alone : Stmt := top 50
theorem sc_alone : FnScope ["_law_box_here", "_law_one", "_law_first", "_law_due", "_law_x", "_law_row_here", "_law_y", "_law_many"] ["_law_box_here", "_law_one", "_law_first"] (defScope s_alone) := ⟨rfl, rfl, rfl, by decide +kernel, rfl, by decide +kernel, by decide +kernel⟩
abbrev s_law : Stmt := top 51
theorem sc_law : FnScope ["_law_script", "_law_box_here", "_law_first", "_law_second", "_law_way", "_law_row_here", "_law_x", "_law_passed", "_law_one", "_law_other", "_law_due", "_law_far", "_law_wrong", "_law_odd"] ["_law_script"] (defScope s_law) := ⟨rfl, rfl, rfl, by decide +kernel, rfl, by decide +kernel, by decide +kernel⟩
structure Tx (K : PySem.W.Frag) (mg : Str → Option Value) : Type where
  fd_BadNumber_init : FuncData
  F_BadNumber_init : Fun K "__init__" "BadNumber.__init__" s_BadNumber_init (He.ma K (He.ga K "BadNumber") "__init__") fd_BadNumber_init
  b_BadNumber_init : Binds K fd_BadNumber_init ["self", "given"] []
  fd_BadRow_init : FuncData
  F_BadRow_init : Fun K "__init__" "BadRow.__init__" s_BadRow_init (He.ma K (He.ga K "BadRow") "__init__") fd_BadRow_init
  b_BadRow_init : Binds K fd_BadRow_init ["self", "row"] []
  fd_Ratio_init : FuncData
  F_Ratio_init : FunD K "__init__" "Ratio.__init__" (defArgs s_Ratio_init) (defBody s_Ratio_init) (defScope s_Ratio_init) [V.int 1] [] (He.ma K (He.ga K "Ratio") "__init__") fd_Ratio_init
  fd_Ratio_top : FuncData
  F_Ratio_top : Fun K "top" "Ratio.top" s_Ratio_top (FoZ.pg K "Ratio" "top") fd_Ratio_top
  b_Ratio_top : Binds K fd_Ratio_top ["self"] []
  fd_Ratio_bottom : FuncData
  F_Ratio_bottom : Fun K "bottom" "Ratio.bottom" s_Ratio_bottom (FoZ.pg K "Ratio" "bottom") fd_Ratio_bottom
  b_Ratio_bottom : Binds K fd_Ratio_bottom ["self"] []
  fd_Ratio_eq : FuncData
  F_Ratio_eq : Fun K "__eq__" "Ratio.__eq__" s_Ratio_eq (He.ma K (He.ga K "Ratio") "__eq__") fd_Ratio_eq
  b_Ratio_eq : Binds K fd_Ratio_eq ["self", "other"] []
  fd_Ratio_add : FuncData
  F_Ratio_add : Fun K "__add__" "Ratio.__add__" s_Ratio_add (He.ma K (He.ga K "Ratio") "__add__") fd_Ratio_add
  b_Ratio_add : Binds K fd_Ratio_add ["self", "other"] []
  fd_Ratio_mul : FuncData
  F_Ratio_mul : Fun K "__mul__" "Ratio.__mul__" s_Ratio_mul (He.ma K (He.ga K "Ratio") "__mul__") fd_Ratio_mul
  b_Ratio_mul : Binds K fd_Ratio_mul ["self", "other"] []
  fd_Ratio_neg : FuncData
  F_Ratio_neg : Fun K "__neg__" "Ratio.__neg__" s_Ratio_neg (He.ma K (He.ga K "Ratio") "__neg__") fd_Ratio_neg
  b_Ratio_neg : Binds K fd_Ratio_neg ["self"] []
  fd_is_whole : FuncData
  F_is_whole : Fun K "is_whole" "is_whole" s_is_whole (He.ga K "is_whole") fd_is_whole
  b_is_whole : Binds K fd_is_whole ["given"] []
  g_is_whole : mg "is_whole" = some (.ref (He.ga K "is_whole"))
  fd_is_number : FuncData
  F_is_number : Fun K "is_number" "is_number" s_is_number (He.ga K "is_number") fd_is_number
  b_is_number : Binds K fd_is_number ["given"] []
  g_is_number : mg "is_number" = some (.ref (He.ga K "is_number"))
  fd_as_ratio : FuncData
  F_as_ratio : Fun K "as_ratio" "as_ratio" s_as_ratio (He.ga K "as_ratio") fd_as_ratio
  b_as_ratio : Binds K fd_as_ratio ["given"] []
  g_as_ratio : mg "as_ratio" = some (.ref (He.ga K "as_ratio"))
  fd_Formula_init : FuncData
  F_Formula_init : Fun K "__init__" "Formula.__init__" s_Formula_init (He.ma K (He.ga K "Formula") "__init__") fd_Formula_init
  b_Formula_init : Binds K fd_Formula_init ["self", "terms"] []
  fd_Formula_terms : FuncData
  F_Formula_terms : Fun K "terms" "Formula.terms" s_Formula_terms (He.ma K (He.ga K "Formula") "terms") fd_Formula_terms
  b_Formula_terms : Binds K fd_Formula_terms ["self"] []
  fd_Formula_eq : FuncData
  F_Formula_eq : Fun K "__eq__" "Formula.__eq__" s_Formula_eq (He.ma K (He.ga K "Formula") "__eq__") fd_Formula_eq
  b_Formula_eq : Binds K fd_Formula_eq ["self", "other"] []
  fd_Formula_add : FuncData
  F_Formula_add : Fun K "__add__" "Formula.__add__" s_Formula_add (He.ma K (He.ga K "Formula") "__add__") fd_Formula_add
  b_Formula_add : Binds K fd_Formula_add ["self", "other"] []
  fd_Formula_sub : FuncData
  F_Formula_sub : Fun K "__sub__" "Formula.__sub__" s_Formula_sub (He.ma K (He.ga K "Formula") "__sub__") fd_Formula_sub
  b_Formula_sub : Binds K fd_Formula_sub ["self", "other"] []
  fd_Formula_mul : FuncData
  F_Formula_mul : Fun K "__mul__" "Formula.__mul__" s_Formula_mul (He.ma K (He.ga K "Formula") "__mul__") fd_Formula_mul
  b_Formula_mul : Binds K fd_Formula_mul ["self", "other"] []
  fd_Formula_neg : FuncData
  F_Formula_neg : Fun K "__neg__" "Formula.__neg__" s_Formula_neg (He.ma K (He.ga K "Formula") "__neg__") fd_Formula_neg
  b_Formula_neg : Binds K fd_Formula_neg ["self"] []
  fd_Formula_times : FuncData
  F_Formula_times : Fun K "times" "Formula.times" s_Formula_times (He.ma K (He.ga K "Formula") "times") fd_Formula_times
  b_Formula_times : Binds K fd_Formula_times ["self", "number"] []
  fd_Formula_mirror : FuncData
  F_Formula_mirror : Fun K "mirror" "Formula.mirror" s_Formula_mirror (He.ma K (He.ga K "Formula") "mirror") fd_Formula_mirror
  b_Formula_mirror : Binds K fd_Formula_mirror ["self"] []
  fd_Formula_is_mirror : FuncData
  F_Formula_is_mirror : Fun K "is_mirror" "Formula.is_mirror" s_Formula_is_mirror (He.ma K (He.ga K "Formula") "is_mirror") fd_Formula_is_mirror
  b_Formula_is_mirror : Binds K fd_Formula_is_mirror ["self"] []
  fd_Formula_degree : FuncData
  F_Formula_degree : Fun K "degree" "Formula.degree" s_Formula_degree (He.ma K (He.ga K "Formula") "degree") fd_Formula_degree
  b_Formula_degree : Binds K fd_Formula_degree ["self"] []
  fd_opposite : FuncData
  F_opposite : Fun K "opposite" "opposite" s_opposite (He.ga K "opposite") fd_opposite
  b_opposite : Binds K fd_opposite ["formula"] []
  g_opposite : mg "opposite" = some (.ref (He.ga K "opposite"))
  fd_is_row : FuncData
  F_is_row : Fun K "_is_row" "_is_row" s_is_row (He.ga K "_is_row") fd_is_row
  b_is_row : Binds K fd_is_row ["given"] []
  g_is_row : mg "_is_row" = some (.ref (He.ga K "_is_row"))
  fd_shortened : FuncData
  F_shortened : Fun K "_shortened" "_shortened" s_shortened (He.ga K "_shortened") fd_shortened
  b_shortened : Binds K fd_shortened ["row"] []
  g_shortened : mg "_shortened" = some (.ref (He.ga K "_shortened"))
  fd_form_of : FuncData
  F_form_of : Fun K "_form_of" "_form_of" s_form_of (He.ga K "_form_of") fd_form_of
  b_form_of : Binds K fd_form_of ["terms"] []
  g_form_of : mg "_form_of" = some (.ref (He.ga K "_form_of"))
  fd_cell : FuncData
  F_cell : Fun K "_law_cell" "_law_cell" s_cell (He.ga K "_law_cell") fd_cell
  b_cell : Binds K fd_cell ["_law_script", "_law_k"] []
  g_cell : mg "_law_cell" = some (.ref (He.ga K "_law_cell"))
  fd_box : FuncData
  F_box : Fun K "_law_box" "_law_box" s_box (He.ga K "_law_box") fd_box
  b_box : Binds K fd_box ["_law_script", "_law_k"] []
  g_box : mg "_law_box" = some (.ref (He.ga K "_law_box"))
  fd_take : FuncData
  F_take : Fun K "_law_take" "_law_take" s_take (He.ga K "_law_take") fd_take
  b_take : Binds K fd_take ["_law_box_here", "_law_many"] []
  g_take : mg "_law_take" = some (.ref (He.ga K "_law_take"))
  fd_frac : FuncData
  F_frac : Fun K "_law_frac" "_law_frac" s_frac (He.ga K "_law_frac") fd_frac
  b_frac : Binds K fd_frac ["_law_up", "_law_down"] []
  g_frac : mg "_law_frac" = some (.ref (He.ga K "_law_frac"))
  fd_plus : FuncData
  F_plus : Fun K "_law_plus" "_law_plus" s_plus (He.ga K "_law_plus") fd_plus
  b_plus : Binds K fd_plus ["_law_x", "_law_y"] []
  g_plus : mg "_law_plus" = some (.ref (He.ga K "_law_plus"))
  fd_times : FuncData
  F_times : Fun K "_law_times" "_law_times" s_times (He.ga K "_law_times") fd_times
  b_times : Binds K fd_times ["_law_x", "_law_y"] []
  g_times : mg "_law_times" = some (.ref (He.ga K "_law_times"))
  fd_minus : FuncData
  F_minus : Fun K "_law_minus" "_law_minus" s_minus (He.ga K "_law_minus") fd_minus
  b_minus : Binds K fd_minus ["_law_x", "_law_y"] []
  g_minus : mg "_law_minus" = some (.ref (He.ga K "_law_minus"))
  fd_number : FuncData
  F_number : Fun K "_law_number" "_law_number" s_number (He.ga K "_law_number") fd_number
  b_number : Binds K fd_number ["_law_box_here", "_law_most"] []
  g_number : mg "_law_number" = some (.ref (He.ga K "_law_number"))
  fd_handed : FuncData
  F_handed : Fun K "_law_handed" "_law_handed" s_handed (He.ga K "_law_handed") fd_handed
  b_handed : Binds K fd_handed ["_law_x", "_law_box_here"] []
  g_handed : mg "_law_handed" = some (.ref (He.ga K "_law_handed"))
  fd_short : FuncData
  F_short : Fun K "_law_short" "_law_short" s_short (He.ga K "_law_short") fd_short
  b_short : Binds K fd_short ["_law_row_here"] []
  g_short : mg "_law_short" = some (.ref (He.ga K "_law_short"))
  fd_form : FuncData
  F_form : Fun K "_law_form" "_law_form" s_form (He.ga K "_law_form") fd_form
  b_form : Binds K fd_form ["_law_pairs_here"] []
  g_form : mg "_law_form" = some (.ref (He.ga K "_law_form"))
  fd_row : FuncData
  F_row : Fun K "_law_row" "_law_row" s_row (He.ga K "_law_row") fd_row
  b_row : Binds K fd_row ["_law_box_here", "_law_most"] []
  g_row : mg "_law_row" = some (.ref (He.ga K "_law_row"))
  fd_terms : FuncData
  F_terms : Fun K "_law_terms" "_law_terms" s_terms (He.ga K "_law_terms") fd_terms
  b_terms : Binds K fd_terms ["_law_box_here", "_law_most", "_law_size"] []
  g_terms : mg "_law_terms" = some (.ref (He.ga K "_law_terms"))
  fd_formula : FuncData
  F_formula : Fun K "_law_formula" "_law_formula" s_formula (He.ga K "_law_formula") fd_formula
  b_formula : Binds K fd_formula ["_law_pairs_here"] []
  g_formula : mg "_law_formula" = some (.ref (He.ga K "_law_formula"))
  fd_pairs : FuncData
  F_pairs : Fun K "_law_pairs" "_law_pairs" s_pairs (He.ga K "_law_pairs") fd_pairs
  b_pairs : Binds K fd_pairs ["_law_form_here"] []
  g_pairs : mg "_law_pairs" = some (.ref (He.ga K "_law_pairs"))
  fd_is : FuncData
  F_is : Fun K "_law_is" "_law_is" s_is (He.ga K "_law_is") fd_is
  b_is : Binds K fd_is ["_law_formula_here", "_law_form_here"] []
  g_is : mg "_law_is" = some (.ref (He.ga K "_law_is"))
  fd_multiplied : FuncData
  F_multiplied : Fun K "_law_multiplied" "_law_multiplied" s_multiplied (He.ga K "_law_multiplied") fd_multiplied
  b_multiplied : Binds K fd_multiplied ["_law_one", "_law_other"] []
  g_multiplied : mg "_law_multiplied" = some (.ref (He.ga K "_law_multiplied"))
  fd_refused : FuncData
  F_refused : Fun K "_law_refused" "_law_refused" s_refused (He.ga K "_law_refused") fd_refused
  b_refused : Binds K fd_refused ["_law_terms_here"] []
  g_refused : mg "_law_refused" = some (.ref (He.ga K "_law_refused"))
  fd_turned : FuncData
  F_turned : Fun K "_law_turned" "_law_turned" s_turned (He.ga K "_law_turned") fd_turned
  b_turned : Binds K fd_turned ["_law_pairs_here"] []
  g_turned : mg "_law_turned" = some (.ref (He.ga K "_law_turned"))
  fd_less_all : FuncData
  F_less_all : Fun K "_law_less_all" "_law_less_all" s_less_all (He.ga K "_law_less_all") fd_less_all
  b_less_all : Binds K fd_less_all ["_law_pairs_here"] []
  g_less_all : mg "_law_less_all" = some (.ref (He.ga K "_law_less_all"))
  fd_alone : FuncData
  F_alone : Fun K "_law_alone" "_law_alone" s_alone (He.ga K "_law_alone") fd_alone
  b_alone : Binds K fd_alone ["_law_box_here", "_law_one", "_law_first"] []
  g_alone : mg "_law_alone" = some (.ref (He.ga K "_law_alone"))
  fd_law : FuncData
  F_law : Fun K "law" "law" s_law (He.ga K "law") fd_law
  b_law : Binds K fd_law ["_law_script"] []
  g_law : mg "law" = some (.ref (He.ga K "law"))
  z_abs : mg "abs" = none
  z_all : mg "all" = none
  z_bool : mg "bool" = none
  z_classmethod : mg "classmethod" = none
  z_dict : mg "dict" = none
  z_divmod : mg "divmod" = none
  z_int : mg "int" = none
  z_isinstance : mg "isinstance" = none
  z_len : mg "len" = none
  z_list : mg "list" = none
  z_max : mg "max" = none
  z_property : mg "property" = none
  z_range : mg "range" = none
  z_sorted : mg "sorted" = none
  z_str : mg "str" = none
  i_gcd : mg "gcd" = some (.builtin "math.gcd")
  c_Ratio : mg "Ratio" = some (.ref (He.ga K "Ratio"))
  cl_R : Cls K (He.ga K "Ratio")
  nT_R : NoAttr K (He.ga K "Ratio") "_top"
  nB_R : NoAttr K (He.ga K "Ratio") "_bottom"
  mk_R : Mk K (He.ga K "Ratio") (He.ma K (He.ga K "Ratio") "__init__")
  p_top : PropOf K (He.ga K "Ratio") "top" (He.ma K (He.ga K "Ratio") "top") (FoZ.pg K "Ratio" "top")
  p_bottom : PropOf K (He.ga K "Ratio") "bottom" (He.ma K (He.ga K "Ratio") "bottom") (FoZ.pg K "Ratio" "bottom")
  bi_add : FoA.BinC K (He.ga K "Ratio") (He.ma K (He.ga K "Ratio") "__add__") .Add
  bi_mul : FoA.BinC K (He.ga K "Ratio") (He.ma K (He.ga K "Ratio") "__mul__") .Mult
  cm_eq : FoA.CmpC K (He.ga K "Ratio") (He.ma K (He.ga K "Ratio") "__eq__") .Eq
  m_neg : Meth K (He.ga K "Ratio") "__neg__" (He.ma K (He.ga K "Ratio") "__neg__")
  is_R : FoB.Isi K (He.ga K "Ratio")
  c_BadNumber : mg "BadNumber" = some (.ref (He.ga K "BadNumber"))
  e_BadNumber : FoB.OErr K (He.ga K "BadNumber") (He.ma K (He.ga K "BadNumber") "__init__") "given"
  ne_R : FoN.NeC K (He.ga K "Ratio")
  c_Formula : mg "Formula" = some (.ref (He.ga K "Formula"))
  cl_F : Cls K (He.ga K "Formula")
  mk_F : Mk K (He.ga K "Formula") (He.ma K (He.ga K "Formula") "__init__")
  nT_F : NoAttr K (He.ga K "Formula") "_terms"
  is_F : FoB.Isi K (He.ga K "Formula")
  mF_terms : Meth K (He.ga K "Formula") "terms" (He.ma K (He.ga K "Formula") "terms")
  mF_times : Meth K (He.ga K "Formula") "times" (He.ma K (He.ga K "Formula") "times")
  mF_mirror : Meth K (He.ga K "Formula") "mirror" (He.ma K (He.ga K "Formula") "mirror")
  mF_is_mirror : Meth K (He.ga K "Formula") "is_mirror" (He.ma K (He.ga K "Formula") "is_mirror")
  mF_degree : Meth K (He.ga K "Formula") "degree" (He.ma K (He.ga K "Formula") "degree")
  mF_neg : Meth K (He.ga K "Formula") "__neg__" (He.ma K (He.ga K "Formula") "__neg__")
  biF_add : FoA.BinC K (He.ga K "Formula") (He.ma K (He.ga K "Formula") "__add__") .Add
  biF_sub : FoA.BinC K (He.ga K "Formula") (He.ma K (He.ga K "Formula") "__sub__") .Sub
  biF_mul : FoA.BinC K (He.ga K "Formula") (He.ma K (He.ga K "Formula") "__mul__") .Mult
  cmF_eq : FoA.CmpC K (He.ga K "Formula") (He.ma K (He.ga K "Formula") "__eq__") .Eq
  neF : FoN.NeC K (He.ga K "Formula")
  noRF : PySem.W.subIn K (.ref (He.ga K "Ratio")) (.ref (He.ga K "Formula")) = some false
  kRF : PySem.W.kitOne K (.ref (He.ga K "Ratio")) (.ref (He.ga K "Formula")) = some false
  noFR : PySem.W.subIn K (.ref (He.ga K "Formula")) (.ref (He.ga K "Ratio")) = some false
  kFR : PySem.W.kitOne K (.ref (He.ga K "Formula")) (.ref (He.ga K "Ratio")) = some false
  c_BadRow : mg "BadRow" = some (.ref (He.ga K "BadRow"))
  e_BadRow : FoB.OErr K (He.ga K "BadRow") (He.ma K (He.ga K "BadRow") "__init__") "row"
  x_BadNumber_BadRow : PySem.W.exmOne K (.ref (He.ga K "BadNumber")) (.ref (He.ga K "BadRow")) = some false
end Fo

set_option maxHeartbeats 4100000
namespace Fo
open PySem PySem.Spec PyProof.Rows L2
def hb0 : List (PySem.W.Frag → Bool) := [(He.Fa.glo "is_whole").ok,
  (He.Fa.glo "is_number").ok,
  (He.Fa.glo "as_ratio").ok,
  (He.Fa.glo "opposite").ok,
  (He.Fa.glo "_is_row").ok,
  (He.Fa.glo "_shortened").ok,
  (He.Fa.glo "_form_of").ok,
  (He.Fa.glo "_law_cell").ok,
  (He.Fa.glo "_law_box").ok,
  (He.Fa.glo "_law_take").ok,
  (He.Fa.glo "_law_frac").ok,
  (He.Fa.glo "_law_plus").ok,
  (He.Fa.glo "_law_times").ok,
  (He.Fa.glo "_law_minus").ok,
  (He.Fa.glo "_law_number").ok,
  (He.Fa.glo "_law_handed").ok,
  (He.Fa.glo "_law_short").ok,
  (He.Fa.glo "_law_form").ok,
  (He.Fa.glo "_law_row").ok,
  (He.Fa.glo "_law_terms").ok,
  (He.Fa.glo "_law_formula").ok,
  (He.Fa.glo "_law_pairs").ok,
  (He.Fa.glo "_law_is").ok,
  (He.Fa.glo "_law_multiplied").ok,
  (He.Fa.glo "_law_refused").ok,
  (He.Fa.glo "_law_turned").ok,
  (He.Fa.glo "_law_less_all").ok,
  (He.Fa.glo "_law_alone").ok,
  (He.Fa.glo "law").ok,
  (He.Fa.free "abs").ok,
  (He.Fa.free "all").ok,
  (He.Fa.free "bool").ok,
  (He.Fa.free "classmethod").ok,
  (He.Fa.free "dict").ok,
  (He.Fa.free "divmod").ok,
  (He.Fa.free "int").ok,
  (He.Fa.free "isinstance").ok,
  (He.Fa.free "len").ok,
  (He.Fa.free "list").ok,
  (He.Fa.free "max").ok,
  (He.Fa.free "property").ok,
  (He.Fa.free "range").ok]
def hd0 : List He5.DefA := [⟨fun K => (He.ma K (He.ga K "BadNumber") "__init__"), "__init__", "BadNumber.__init__", defArgs s_BadNumber_init, defBody s_BadNumber_init, defScope s_BadNumber_init, [], []⟩,
  ⟨fun K => (He.ma K (He.ga K "BadRow") "__init__"), "__init__", "BadRow.__init__", defArgs s_BadRow_init, defBody s_BadRow_init, defScope s_BadRow_init, [], []⟩,
  ⟨fun K => (He.ma K (He.ga K "Ratio") "__init__"), "__init__", "Ratio.__init__", defArgs s_Ratio_init, defBody s_Ratio_init, defScope s_Ratio_init, [.int 1], []⟩,
  ⟨fun K => (FoZ.pg K "Ratio" "top"), "top", "Ratio.top", defArgs s_Ratio_top, defBody s_Ratio_top, defScope s_Ratio_top, [], []⟩,
  ⟨fun K => (FoZ.pg K "Ratio" "bottom"), "bottom", "Ratio.bottom", defArgs s_Ratio_bottom, defBody s_Ratio_bottom, defScope s_Ratio_bottom, [], []⟩,
  ⟨fun K => (He.ma K (He.ga K "Ratio") "__eq__"), "__eq__", "Ratio.__eq__", defArgs s_Ratio_eq, defBody s_Ratio_eq, defScope s_Ratio_eq, [], []⟩,
  ⟨fun K => (He.ma K (He.ga K "Ratio") "__add__"), "__add__", "Ratio.__add__", defArgs s_Ratio_add, defBody s_Ratio_add, defScope s_Ratio_add, [], []⟩,
  ⟨fun K => (He.ma K (He.ga K "Ratio") "__mul__"), "__mul__", "Ratio.__mul__", defArgs s_Ratio_mul, defBody s_Ratio_mul, defScope s_Ratio_mul, [], []⟩,
  ⟨fun K => (He.ma K (He.ga K "Ratio") "__neg__"), "__neg__", "Ratio.__neg__", defArgs s_Ratio_neg, defBody s_Ratio_neg, defScope s_Ratio_neg, [], []⟩,
  ⟨fun K => (He.ga K "is_whole"), "is_whole", "is_whole", defArgs s_is_whole, defBody s_is_whole, defScope s_is_whole, [], []⟩,
  ⟨fun K => (He.ga K "is_number"), "is_number", "is_number", defArgs s_is_number, defBody s_is_number, defScope s_is_number, [], []⟩,
  ⟨fun K => (He.ga K "as_ratio"), "as_ratio", "as_ratio", defArgs s_as_ratio, defBody s_as_ratio, defScope s_as_ratio, [], []⟩,
  ⟨fun K => (He.ma K (He.ga K "Formula") "__init__"), "__init__", "Formula.__init__", defArgs s_Formula_init, defBody s_Formula_init, defScope s_Formula_init, [], []⟩,
  ⟨fun K => (He.ma K (He.ga K "Formula") "terms"), "terms", "Formula.terms", defArgs s_Formula_terms, defBody s_Formula_terms, defScope s_Formula_terms, [], []⟩,
  ⟨fun K => (He.ma K (He.ga K "Formula") "__eq__"), "__eq__", "Formula.__eq__", defArgs s_Formula_eq, defBody s_Formula_eq, defScope s_Formula_eq, [], []⟩,
  ⟨fun K => (He.ma K (He.ga K "Formula") "__add__"), "__add__", "Formula.__add__", defArgs s_Formula_add, defBody s_Formula_add, defScope s_Formula_add, [], []⟩,
  ⟨fun K => (He.ma K (He.ga K "Formula") "__sub__"), "__sub__", "Formula.__sub__", defArgs s_Formula_sub, defBody s_Formula_sub, defScope s_Formula_sub, [], []⟩,
  ⟨fun K => (He.ma K (He.ga K "Formula") "__mul__"), "__mul__", "Formula.__mul__", defArgs s_Formula_mul, defBody s_Formula_mul, defScope s_Formula_mul, [], []⟩,
  ⟨fun K => (He.ma K (He.ga K "Formula") "__neg__"), "__neg__", "Formula.__neg__", defArgs s_Formula_neg, defBody s_Formula_neg, defScope s_Formula_neg, [], []⟩,
  ⟨fun K => (He.ma K (He.ga K "Formula") "times"), "times", "Formula.times", defArgs s_Formula_times, defBody s_Formula_times, defScope s_Formula_times, [], []⟩,
  ⟨fun K => (He.ma K (He.ga K "Formula") "mirror"), "mirror", "Formula.mirror", defArgs s_Formula_mirror, defBody s_Formula_mirror, defScope s_Formula_mirror, [], []⟩,
  ⟨fun K => (He.ma K (He.ga K "Formula") "is_mirror"), "is_mirror", "Formula.is_mirror", defArgs s_Formula_is_mirror, defBody s_Formula_is_mirror, defScope s_Formula_is_mirror, [], []⟩,
  ⟨fun K => (He.ma K (He.ga K "Formula") "degree"), "degree", "Formula.degree", defArgs s_Formula_degree, defBody s_Formula_degree, defScope s_Formula_degree, [], []⟩,
  ⟨fun K => (He.ga K "opposite"), "opposite", "opposite", defArgs s_opposite, defBody s_opposite, defScope s_opposite, [], []⟩,
  ⟨fun K => (He.ga K "_is_row"), "_is_row", "_is_row", defArgs s_is_row, defBody s_is_row, defScope s_is_row, [], []⟩]
def hb1 : List (PySem.W.Frag → Bool) := [(He.Fa.free "sorted").ok,
  (He.Fa.free "str").ok,
  FoZ.impB "gcd" "math.gcd",
  (He.Fa.glo "Ratio").ok,
  (He.Fa.cls "Ratio").ok,
  (He.Fa.noat "Ratio" "_top").ok,
  (He.Fa.noat "Ratio" "_bottom").ok,
  (He.Fa.mkr "Ratio").ok,
  FoZ.propB "Ratio" "top",
  FoZ.propB "Ratio" "bottom",
  FoZ.binB "Ratio" "__add__" "__radd__",
  FoZ.binB "Ratio" "__mul__" "__rmul__",
  FoZ.cmpB "Ratio" "__eq__",
  (He.Fa.meth "Ratio" "__neg__").ok,
  FoB.isiB "Ratio",
  (He.Fa.glo "BadNumber").ok,
  FoB.oexB "BadNumber" "given",
  FoN.neB "Ratio",
  (He.Fa.glo "Formula").ok,
  (He.Fa.cls "Formula").ok,
  (He.Fa.mkr "Formula").ok,
  (He.Fa.noat "Formula" "_terms").ok,
  FoB.isiB "Formula",
  (He.Fa.meth "Formula" "terms").ok,
  (He.Fa.meth "Formula" "times").ok,
  (He.Fa.meth "Formula" "mirror").ok,
  (He.Fa.meth "Formula" "is_mirror").ok,
  (He.Fa.meth "Formula" "degree").ok,
  (He.Fa.meth "Formula" "__neg__").ok,
  FoZ.binB "Formula" "__add__" "__radd__",
  FoZ.binB "Formula" "__sub__" "__rsub__",
  FoZ.binB "Formula" "__mul__" "__rmul__",
  FoZ.cmpB "Formula" "__eq__",
  FoN.neB "Formula",
  (fun K => decide (PySem.W.subIn K (.ref (He.ga K "Ratio")) (.ref (He.ga K "Formula")) = some false)),
  (fun K => decide (PySem.W.kitOne K (.ref (He.ga K "Ratio")) (.ref (He.ga K "Formula")) = some false)),
  (fun K => decide (PySem.W.subIn K (.ref (He.ga K "Formula")) (.ref (He.ga K "Ratio")) = some false)),
  (fun K => decide (PySem.W.kitOne K (.ref (He.ga K "Formula")) (.ref (He.ga K "Ratio")) = some false)),
  (He.Fa.glo "BadRow").ok,
  FoB.oexB "BadRow" "row",
  (He.Fa.exm "BadNumber" "BadRow" false).ok]
def hd1 : List He5.DefA := [⟨fun K => (He.ga K "_shortened"), "_shortened", "_shortened", defArgs s_shortened, defBody s_shortened, defScope s_shortened, [], []⟩,
  ⟨fun K => (He.ga K "_form_of"), "_form_of", "_form_of", defArgs s_form_of, defBody s_form_of, defScope s_form_of, [], []⟩,
  ⟨fun K => (He.ga K "_law_cell"), "_law_cell", "_law_cell", defArgs s_cell, defBody s_cell, defScope s_cell, [], []⟩,
  ⟨fun K => (He.ga K "_law_box"), "_law_box", "_law_box", defArgs s_box, defBody s_box, defScope s_box, [], []⟩,
  ⟨fun K => (He.ga K "_law_take"), "_law_take", "_law_take", defArgs s_take, defBody s_take, defScope s_take, [], []⟩,
  ⟨fun K => (He.ga K "_law_frac"), "_law_frac", "_law_frac", defArgs s_frac, defBody s_frac, defScope s_frac, [], []⟩,
  ⟨fun K => (He.ga K "_law_plus"), "_law_plus", "_law_plus", defArgs s_plus, defBody s_plus, defScope s_plus, [], []⟩,
  ⟨fun K => (He.ga K "_law_times"), "_law_times", "_law_times", defArgs s_times, defBody s_times, defScope s_times, [], []⟩,
  ⟨fun K => (He.ga K "_law_minus"), "_law_minus", "_law_minus", defArgs s_minus, defBody s_minus, defScope s_minus, [], []⟩,
  ⟨fun K => (He.ga K "_law_number"), "_law_number", "_law_number", defArgs s_number, defBody s_number, defScope s_number, [], []⟩,
  ⟨fun K => (He.ga K "_law_handed"), "_law_handed", "_law_handed", defArgs s_handed, defBody s_handed, defScope s_handed, [], []⟩,
  ⟨fun K => (He.ga K "_law_short"), "_law_short", "_law_short", defArgs s_short, defBody s_short, defScope s_short, [], []⟩,
  ⟨fun K => (He.ga K "_law_form"), "_law_form", "_law_form", defArgs s_form, defBody s_form, defScope s_form, [], []⟩,
  ⟨fun K => (He.ga K "_law_row"), "_law_row", "_law_row", defArgs s_row, defBody s_row, defScope s_row, [], []⟩,
  ⟨fun K => (He.ga K "_law_terms"), "_law_terms", "_law_terms", defArgs s_terms, defBody s_terms, defScope s_terms, [], []⟩,
  ⟨fun K => (He.ga K "_law_formula"), "_law_formula", "_law_formula", defArgs s_formula, defBody s_formula, defScope s_formula, [], []⟩,
  ⟨fun K => (He.ga K "_law_pairs"), "_law_pairs", "_law_pairs", defArgs s_pairs, defBody s_pairs, defScope s_pairs, [], []⟩,
  ⟨fun K => (He.ga K "_law_is"), "_law_is", "_law_is", defArgs s_is, defBody s_is, defScope s_is, [], []⟩,
  ⟨fun K => (He.ga K "_law_multiplied"), "_law_multiplied", "_law_multiplied", defArgs s_multiplied, defBody s_multiplied, defScope s_multiplied, [], []⟩,
  ⟨fun K => (He.ga K "_law_refused"), "_law_refused", "_law_refused", defArgs s_refused, defBody s_refused, defScope s_refused, [], []⟩,
  ⟨fun K => (He.ga K "_law_turned"), "_law_turned", "_law_turned", defArgs s_turned, defBody s_turned, defScope s_turned, [], []⟩,
  ⟨fun K => (He.ga K "_law_less_all"), "_law_less_all", "_law_less_all", defArgs s_less_all, defBody s_less_all, defScope s_less_all, [], []⟩,
  ⟨fun K => (He.ga K "_law_alone"), "_law_alone", "_law_alone", defArgs s_alone, defBody s_alone, defScope s_alone, [], []⟩,
  ⟨fun K => (He.ga K "law"), "law", "law", defArgs s_law, defBody s_law, defScope s_law, [], []⟩]
def hb : List (PySem.W.Frag → Bool) := hb0 ++ hb1
def hd : List He5.DefA := hd0 ++ hd1
abbrev R : PySem.W.OpenRow := PySem.W.OpenLaw.row PySem.Challenge.rw_filterorders_k15_formulas
def adrs : List Addr := ([3, 6, 4, 49, 59, 72, 91, 103, 122, 231, 242, 249, 256, 263, 270, 277, 371, 382, 387, 394, 399, 406, 413, 420, 427, 434, 441, 448, 455, 462, 469, 476, 483, 490, 497, 504, 509, 514, 519, 526, 531, 536, 543, 550, 555, 560, 565, 570, 0, 48, 58, 71, 90, 102, 121, 230, 241, 248, 255, 262] : List Addr) ++ ([269, 276, 370, 381, 386, 393, 398, 405, 412, 419, 426, 433, 440, 447, 454, 461, 468, 475, 482, 489, 496, 503, 508, 513, 518, 525, 530, 535, 542, 549, 554, 559, 564, 569, 43, 44, 45, 46, 47, 57, 60, 70, 88, 89, 101, 119, 120, 139, 148, 157, 165, 172, 179, 186, 193, 200, 207, 214, 221, 228] : List Addr) ++ ([229, 232, 233, 236, 237, 238, 239, 240, 243, 244, 245, 246, 247, 250, 251, 252, 253, 254, 257, 258, 259, 260, 261, 264, 265, 266, 267, 268, 271, 272, 273, 274, 275, 289, 298, 306, 313, 320, 327, 334, 339, 344, 349, 356, 361, 368, 369, 372, 373, 376, 377, 378, 379, 380, 383, 384, 385, 388, 389, 390] : List Addr) ++ ([391, 392, 395, 396, 397, 400, 401, 402, 403, 404, 407, 408, 409, 410, 411, 414, 415, 416, 417, 418, 421, 422, 423, 424, 425, 428, 429, 430, 431, 432, 435, 436, 437, 438, 439, 442, 443, 444, 445, 446, 449, 450, 451, 452, 453, 456, 457, 458, 459, 460, 463, 464, 465, 466, 467, 470, 471, 472, 473, 474] : List Addr) ++ ([477, 478, 479, 480, 481, 484, 485, 486, 487, 488, 491, 492, 493, 494, 495, 498, 499, 500, 501, 502, 505, 506, 507, 510, 511, 512, 515, 516, 517, 520, 521, 522, 523, 524, 527, 528, 529, 532, 533, 534, 537, 538, 539, 540, 541, 544, 545, 546, 547, 548, 551, 552, 553, 556, 557, 558, 561, 562, 563, 566] : List Addr) ++ ([567, 568, 87, 118, 138, 132, 146, 147, 156, 164, 171, 178, 185, 192, 199, 206, 213, 220, 227, 288, 296, 297, 305, 312, 319, 326, 333, 338, 343, 348, 355, 360, 367, 82, 83, 84, 85, 86, 113, 114, 115, 116, 117, 133, 134, 135, 136, 137, 145, 149, 155, 163, 166, 167, 168, 169, 170, 173, 174, 175] : List Addr) ++ ([176, 177, 180, 181, 182, 183, 184, 187, 188, 189, 190, 191, 194, 195, 196, 197, 198, 201, 202, 203, 204, 205, 208, 209, 210, 211, 212, 215, 216, 217, 218, 219, 222, 223, 224, 225, 226, 285, 286, 287, 295, 299, 300, 301, 302, 303, 304, 307, 308, 309, 310, 311, 314, 315, 316, 317, 318, 321, 322, 323] : List Addr) ++ ([324, 325, 328, 329, 330, 331, 332, 335, 336, 337, 340, 341, 342, 345, 346, 347, 350, 351, 352, 353, 354, 357, 358, 359, 362, 363, 364, 365, 366, 140, 141, 142, 143, 144, 150, 151, 152, 153, 154, 158, 159, 160, 161, 162, 290, 291, 292, 293, 294, 2] : List Addr)
abbrev hk : PySem.W.Hook := FoZ.hookL adrs hb hd
def ob (s : PySem.W.SharedT) : Bool × List He.FnW := FoZ.lookL adrs hb hd (HandSHeadRun.getT s)
theorem ob_eq (s : PySem.W.SharedT) : ob s = hk.obs s.abs := FoZ.lookL_eq (HandSHeadRun.getT_eq s)
def loose : List PySem.Str := (["gcd", "_wall", "FilterError", "ByZero", "BadNumber", "BadText", "BadRow", "PIECE_DIGITS", "PIECE", "Ratio", "is_whole", "is_number", "as_ratio", "_has_only_digits", "_decimal", "_integer_of", "Formula", "opposite", "_is_row", "_shortened", "_form_of", "_term_text", "_terms_of", "_read_term", "_law_cell", "_law_box", "_law_take", "_law_frac", "_law_plus", "_law_times"] : List PySem.Str) ++ (["_law_minus", "_law_less", "_law_number", "_law_handed", "_law_told", "_law_short", "_law_form", "_law_row", "_law_terms", "_law_formula", "_law_pairs", "_law_is", "_law_multiplied", "_law_refused", "_law_turned", "_law_less_all", "_law_alone"] : List PySem.Str)
theorem run1 (w : World) : (FoI.endI HandSHeadRun.tabQ (HandSHeadRun.stepQ (HandSHeadRun.denQ HandSHeadRun.tabQ) R.prog w) 20000 R.prog w).map (fun s => FoI.looksI R.prog s.1 s.2.abs) = some true := by
  kernel_rfl
theorem run2 (w : World) : (FoI.endI HandSHeadRun.tabQ (HandSHeadRun.stepQ (HandSHeadRun.denQ HandSHeadRun.tabQ) R.prog w) 20000 R.prog w).map (fun s => HandSHeadRun.seenQ (PySem.W.view R.prog [51]) loose (PySem.importedModules R.prog.main.body) (fun s => PySem.W.xlAt (PySem.W.view R.prog [51]) [] s && PySem.W.recOk R.toRowW.records s) s.2.abs) = some (PySem.W.openGood (PySem.W.view R.prog [51]) loose) := by
  kernel_rfl
theorem look0 (w : World) : (FoI.endI HandSHeadRun.tabQ (HandSHeadRun.stepQ (HandSHeadRun.denQ HandSHeadRun.tabQ) R.prog w) 20000 R.prog w).map (fun s => FoZ.lookL adrs hb0 hd0 (HandSHeadRun.getT s.2)) = some (FoZ.want hd0) := by
  kernel_rfl
theorem look1 (w : World) : (FoI.endI HandSHeadRun.tabQ (HandSHeadRun.stepQ (HandSHeadRun.denQ HandSHeadRun.tabQ) R.prog w) 20000 R.prog w).map (fun s => FoZ.lookL adrs hb1 hd1 (HandSHeadRun.getT s.2)) = some (FoZ.want hd1) := by
  kernel_rfl
theorem run3 (w : World) : (FoI.endI HandSHeadRun.tabQ (HandSHeadRun.stepQ (HandSHeadRun.denQ HandSHeadRun.tabQ) R.prog w) 20000 R.prog w).map (fun s => ob s.2) = some (hk.val w) := (FoI.looks_mapL (look0 w) (look1 w))
theorem run (w : World) : FoI.RunI R (PySem.W.view R.prog [51]) hk ob 20000 loose w := FoI.run_of (run1 w) (run2 w) (run3 w)
theorem facts {K : PySem.W.Frag} {h : Heap} {mg : Str → Option Value} (X : K.In h) (G : h.Ns mainGlobals mg) (c : FoZ.Told hb hd K) : Nonempty (Tx K mg) := by
  obtain ⟨fd0, F0⟩ := c.defn 0
  obtain ⟨fd1, F1⟩ := c.defn 1
  obtain ⟨fd2, F2⟩ := c.defn 2
  obtain ⟨fd3, F3⟩ := c.defn 3
  obtain ⟨fd4, F4⟩ := c.defn 4
  obtain ⟨fd5, F5⟩ := c.defn 5
  obtain ⟨fd6, F6⟩ := c.defn 6
  obtain ⟨fd7, F7⟩ := c.defn 7
  obtain ⟨fd8, F8⟩ := c.defn 8
  obtain ⟨fd9, F9⟩ := c.defn 9
  obtain ⟨fd10, F10⟩ := c.defn 10
  obtain ⟨fd11, F11⟩ := c.defn 11
  obtain ⟨fd12, F12⟩ := c.defn 12
  obtain ⟨fd13, F13⟩ := c.defn 13
  obtain ⟨fd14, F14⟩ := c.defn 14
  obtain ⟨fd15, F15⟩ := c.defn 15
  obtain ⟨fd16, F16⟩ := c.defn 16
  obtain ⟨fd17, F17⟩ := c.defn 17
  obtain ⟨fd18, F18⟩ := c.defn 18
  obtain ⟨fd19, F19⟩ := c.defn 19
  obtain ⟨fd20, F20⟩ := c.defn 20
  obtain ⟨fd21, F21⟩ := c.defn 21
  obtain ⟨fd22, F22⟩ := c.defn 22
  obtain ⟨fd23, F23⟩ := c.defn 23
  obtain ⟨fd24, F24⟩ := c.defn 24
  obtain ⟨fd25, F25⟩ := c.defn 25
  obtain ⟨fd26, F26⟩ := c.defn 26
  obtain ⟨fd27, F27⟩ := c.defn 27
  obtain ⟨fd28, F28⟩ := c.defn 28
  obtain ⟨fd29, F29⟩ := c.defn 29
  obtain ⟨fd30, F30⟩ := c.defn 30
  obtain ⟨fd31, F31⟩ := c.defn 31
  obtain ⟨fd32, F32⟩ := c.defn 32
  obtain ⟨fd33, F33⟩ := c.defn 33
  obtain ⟨fd34, F34⟩ := c.defn 34
  obtain ⟨fd35, F35⟩ := c.defn 35
  obtain ⟨fd36, F36⟩ := c.defn 36
  obtain ⟨fd37, F37⟩ := c.defn 37
  obtain ⟨fd38, F38⟩ := c.defn 38
  obtain ⟨fd39, F39⟩ := c.defn 39
  obtain ⟨fd40, F40⟩ := c.defn 40
  obtain ⟨fd41, F41⟩ := c.defn 41
  obtain ⟨fd42, F42⟩ := c.defn 42
  obtain ⟨fd43, F43⟩ := c.defn 43
  obtain ⟨fd44, F44⟩ := c.defn 44
  obtain ⟨fd45, F45⟩ := c.defn 45
  obtain ⟨fd46, F46⟩ := c.defn 46
  obtain ⟨fd47, F47⟩ := c.defn 47
  obtain ⟨fd48, F48⟩ := c.defn 48
  exact ⟨⟨fd0,
    He5.fun_of (st := s_BadNumber_init) F0,
    ((He5.fun_of (st := s_BadNumber_init) F0).binds (ps := ["self", "given"]) fun _ _ _ _ _ _ us hl => match us, hl with | [_, _], _ => rfl),
    fd1,
    He5.fun_of (st := s_BadRow_init) F1,
    ((He5.fun_of (st := s_BadRow_init) F1).binds (ps := ["self", "row"]) fun _ _ _ _ _ _ us hl => match us, hl with | [_, _], _ => rfl),
    fd2,
    F2,
    fd3,
    He5.fun_of (st := s_Ratio_top) F3,
    ((He5.fun_of (st := s_Ratio_top) F3).binds (ps := ["self"]) fun _ _ _ _ _ _ us hl => match us, hl with | [_], _ => rfl),
    fd4,
    He5.fun_of (st := s_Ratio_bottom) F4,
    ((He5.fun_of (st := s_Ratio_bottom) F4).binds (ps := ["self"]) fun _ _ _ _ _ _ us hl => match us, hl with | [_], _ => rfl),
    fd5,
    He5.fun_of (st := s_Ratio_eq) F5,
    ((He5.fun_of (st := s_Ratio_eq) F5).binds (ps := ["self", "other"]) fun _ _ _ _ _ _ us hl => match us, hl with | [_, _], _ => rfl),
    fd6,
    He5.fun_of (st := s_Ratio_add) F6,
    ((He5.fun_of (st := s_Ratio_add) F6).binds (ps := ["self", "other"]) fun _ _ _ _ _ _ us hl => match us, hl with | [_, _], _ => rfl),
    fd7,
    He5.fun_of (st := s_Ratio_mul) F7,
    ((He5.fun_of (st := s_Ratio_mul) F7).binds (ps := ["self", "other"]) fun _ _ _ _ _ _ us hl => match us, hl with | [_, _], _ => rfl),
    fd8,
    He5.fun_of (st := s_Ratio_neg) F8,
    ((He5.fun_of (st := s_Ratio_neg) F8).binds (ps := ["self"]) fun _ _ _ _ _ _ us hl => match us, hl with | [_], _ => rfl),
    fd9,
    He5.fun_of (st := s_is_whole) F9,
    ((He5.fun_of (st := s_is_whole) F9).binds (ps := ["given"]) fun _ _ _ _ _ _ us hl => match us, hl with | [_], _ => rfl),
    He.glo_ok X G (c.bool 0),
    fd10,
    He5.fun_of (st := s_is_number) F10,
    ((He5.fun_of (st := s_is_number) F10).binds (ps := ["given"]) fun _ _ _ _ _ _ us hl => match us, hl with | [_], _ => rfl),
    He.glo_ok X G (c.bool 1),
    fd11,
    He5.fun_of (st := s_as_ratio) F11,
    ((He5.fun_of (st := s_as_ratio) F11).binds (ps := ["given"]) fun _ _ _ _ _ _ us hl => match us, hl with | [_], _ => rfl),
    He.glo_ok X G (c.bool 2),
    fd12,
    He5.fun_of (st := s_Formula_init) F12,
    ((He5.fun_of (st := s_Formula_init) F12).binds (ps := ["self", "terms"]) fun _ _ _ _ _ _ us hl => match us, hl with | [_, _], _ => rfl),
    fd13,
    He5.fun_of (st := s_Formula_terms) F13,
    ((He5.fun_of (st := s_Formula_terms) F13).binds (ps := ["self"]) fun _ _ _ _ _ _ us hl => match us, hl with | [_], _ => rfl),
    fd14,
    He5.fun_of (st := s_Formula_eq) F14,
    ((He5.fun_of (st := s_Formula_eq) F14).binds (ps := ["self", "other"]) fun _ _ _ _ _ _ us hl => match us, hl with | [_, _], _ => rfl),
    fd15,
    He5.fun_of (st := s_Formula_add) F15,
    ((He5.fun_of (st := s_Formula_add) F15).binds (ps := ["self", "other"]) fun _ _ _ _ _ _ us hl => match us, hl with | [_, _], _ => rfl),
    fd16,
    He5.fun_of (st := s_Formula_sub) F16,
    ((He5.fun_of (st := s_Formula_sub) F16).binds (ps := ["self", "other"]) fun _ _ _ _ _ _ us hl => match us, hl with | [_, _], _ => rfl),
    fd17,
    He5.fun_of (st := s_Formula_mul) F17,
    ((He5.fun_of (st := s_Formula_mul) F17).binds (ps := ["self", "other"]) fun _ _ _ _ _ _ us hl => match us, hl with | [_, _], _ => rfl),
    fd18,
    He5.fun_of (st := s_Formula_neg) F18,
    ((He5.fun_of (st := s_Formula_neg) F18).binds (ps := ["self"]) fun _ _ _ _ _ _ us hl => match us, hl with | [_], _ => rfl),
    fd19,
    He5.fun_of (st := s_Formula_times) F19,
    ((He5.fun_of (st := s_Formula_times) F19).binds (ps := ["self", "number"]) fun _ _ _ _ _ _ us hl => match us, hl with | [_, _], _ => rfl),
    fd20,
    He5.fun_of (st := s_Formula_mirror) F20,
    ((He5.fun_of (st := s_Formula_mirror) F20).binds (ps := ["self"]) fun _ _ _ _ _ _ us hl => match us, hl with | [_], _ => rfl),
    fd21,
    He5.fun_of (st := s_Formula_is_mirror) F21,
    ((He5.fun_of (st := s_Formula_is_mirror) F21).binds (ps := ["self"]) fun _ _ _ _ _ _ us hl => match us, hl with | [_], _ => rfl),
    fd22,
    He5.fun_of (st := s_Formula_degree) F22,
    ((He5.fun_of (st := s_Formula_degree) F22).binds (ps := ["self"]) fun _ _ _ _ _ _ us hl => match us, hl with | [_], _ => rfl),
    fd23,
    He5.fun_of (st := s_opposite) F23,
    ((He5.fun_of (st := s_opposite) F23).binds (ps := ["formula"]) fun _ _ _ _ _ _ us hl => match us, hl with | [_], _ => rfl),
    He.glo_ok X G (c.bool 3),
    fd24,
    He5.fun_of (st := s_is_row) F24,
    ((He5.fun_of (st := s_is_row) F24).binds (ps := ["given"]) fun _ _ _ _ _ _ us hl => match us, hl with | [_], _ => rfl),
    He.glo_ok X G (c.bool 4),
    fd25,
    He5.fun_of (st := s_shortened) F25,
    ((He5.fun_of (st := s_shortened) F25).binds (ps := ["row"]) fun _ _ _ _ _ _ us hl => match us, hl with | [_], _ => rfl),
    He.glo_ok X G (c.bool 5),
    fd26,
    He5.fun_of (st := s_form_of) F26,
    ((He5.fun_of (st := s_form_of) F26).binds (ps := ["terms"]) fun _ _ _ _ _ _ us hl => match us, hl with | [_], _ => rfl),
    He.glo_ok X G (c.bool 6),
    fd27,
    He5.fun_of (st := s_cell) F27,
    ((He5.fun_of (st := s_cell) F27).binds (ps := ["_law_script", "_law_k"]) fun _ _ _ _ _ _ us hl => match us, hl with | [_, _], _ => rfl),
    He.glo_ok X G (c.bool 7),
    fd28,
    He5.fun_of (st := s_box) F28,
    ((He5.fun_of (st := s_box) F28).binds (ps := ["_law_script", "_law_k"]) fun _ _ _ _ _ _ us hl => match us, hl with | [_, _], _ => rfl),
    He.glo_ok X G (c.bool 8),
    fd29,
    He5.fun_of (st := s_take) F29,
    ((He5.fun_of (st := s_take) F29).binds (ps := ["_law_box_here", "_law_many"]) fun _ _ _ _ _ _ us hl => match us, hl with | [_, _], _ => rfl),
    He.glo_ok X G (c.bool 9),
    fd30,
    He5.fun_of (st := s_frac) F30,
    ((He5.fun_of (st := s_frac) F30).binds (ps := ["_law_up", "_law_down"]) fun _ _ _ _ _ _ us hl => match us, hl with | [_, _], _ => rfl),
    He.glo_ok X G (c.bool 10),
    fd31,
    He5.fun_of (st := s_plus) F31,
    ((He5.fun_of (st := s_plus) F31).binds (ps := ["_law_x", "_law_y"]) fun _ _ _ _ _ _ us hl => match us, hl with | [_, _], _ => rfl),
    He.glo_ok X G (c.bool 11),
    fd32,
    He5.fun_of (st := s_times) F32,
    ((He5.fun_of (st := s_times) F32).binds (ps := ["_law_x", "_law_y"]) fun _ _ _ _ _ _ us hl => match us, hl with | [_, _], _ => rfl),
    He.glo_ok X G (c.bool 12),
    fd33,
    He5.fun_of (st := s_minus) F33,
    ((He5.fun_of (st := s_minus) F33).binds (ps := ["_law_x", "_law_y"]) fun _ _ _ _ _ _ us hl => match us, hl with | [_, _], _ => rfl),
    He.glo_ok X G (c.bool 13),
    fd34,
    He5.fun_of (st := s_number) F34,
    ((He5.fun_of (st := s_number) F34).binds (ps := ["_law_box_here", "_law_most"]) fun _ _ _ _ _ _ us hl => match us, hl with | [_, _], _ => rfl),
    He.glo_ok X G (c.bool 14),
    fd35,
    He5.fun_of (st := s_handed) F35,
    ((He5.fun_of (st := s_handed) F35).binds (ps := ["_law_x", "_law_box_here"]) fun _ _ _ _ _ _ us hl => match us, hl with | [_, _], _ => rfl),
    He.glo_ok X G (c.bool 15),
    fd36,
    He5.fun_of (st := s_short) F36,
    ((He5.fun_of (st := s_short) F36).binds (ps := ["_law_row_here"]) fun _ _ _ _ _ _ us hl => match us, hl with | [_], _ => rfl),
    He.glo_ok X G (c.bool 16),
    fd37,
    He5.fun_of (st := s_form) F37,
    ((He5.fun_of (st := s_form) F37).binds (ps := ["_law_pairs_here"]) fun _ _ _ _ _ _ us hl => match us, hl with | [_], _ => rfl),
    He.glo_ok X G (c.bool 17),
    fd38,
    He5.fun_of (st := s_row) F38,
    ((He5.fun_of (st := s_row) F38).binds (ps := ["_law_box_here", "_law_most"]) fun _ _ _ _ _ _ us hl => match us, hl with | [_, _], _ => rfl),
    He.glo_ok X G (c.bool 18),
    fd39,
    He5.fun_of (st := s_terms) F39,
    ((He5.fun_of (st := s_terms) F39).binds (ps := ["_law_box_here", "_law_most", "_law_size"]) fun _ _ _ _ _ _ us hl => match us, hl with | [_, _, _], _ => rfl),
    He.glo_ok X G (c.bool 19),
    fd40,
    He5.fun_of (st := s_formula) F40,
    ((He5.fun_of (st := s_formula) F40).binds (ps := ["_law_pairs_here"]) fun _ _ _ _ _ _ us hl => match us, hl with | [_], _ => rfl),
    He.glo_ok X G (c.bool 20),
    fd41,
    He5.fun_of (st := s_pairs) F41,
    ((He5.fun_of (st := s_pairs) F41).binds (ps := ["_law_form_here"]) fun _ _ _ _ _ _ us hl => match us, hl with | [_], _ => rfl),
    He.glo_ok X G (c.bool 21),
    fd42,
    He5.fun_of (st := s_is) F42,
    ((He5.fun_of (st := s_is) F42).binds (ps := ["_law_formula_here", "_law_form_here"]) fun _ _ _ _ _ _ us hl => match us, hl with | [_, _], _ => rfl),
    He.glo_ok X G (c.bool 22),
    fd43,
    He5.fun_of (st := s_multiplied) F43,
    ((He5.fun_of (st := s_multiplied) F43).binds (ps := ["_law_one", "_law_other"]) fun _ _ _ _ _ _ us hl => match us, hl with | [_, _], _ => rfl),
    He.glo_ok X G (c.bool 23),
    fd44,
    He5.fun_of (st := s_refused) F44,
    ((He5.fun_of (st := s_refused) F44).binds (ps := ["_law_terms_here"]) fun _ _ _ _ _ _ us hl => match us, hl with | [_], _ => rfl),
    He.glo_ok X G (c.bool 24),
    fd45,
    He5.fun_of (st := s_turned) F45,
    ((He5.fun_of (st := s_turned) F45).binds (ps := ["_law_pairs_here"]) fun _ _ _ _ _ _ us hl => match us, hl with | [_], _ => rfl),
    He.glo_ok X G (c.bool 25),
    fd46,
    He5.fun_of (st := s_less_all) F46,
    ((He5.fun_of (st := s_less_all) F46).binds (ps := ["_law_pairs_here"]) fun _ _ _ _ _ _ us hl => match us, hl with | [_], _ => rfl),
    He.glo_ok X G (c.bool 26),
    fd47,
    He5.fun_of (st := s_alone) F47,
    ((He5.fun_of (st := s_alone) F47).binds (ps := ["_law_box_here", "_law_one", "_law_first"]) fun _ _ _ _ _ _ us hl => match us, hl with | [_, _, _], _ => rfl),
    He.glo_ok X G (c.bool 27),
    fd48,
    He5.fun_of (st := s_law) F48,
    ((He5.fun_of (st := s_law) F48).binds (ps := ["_law_script"]) fun _ _ _ _ _ _ us hl => match us, hl with | [_], _ => rfl),
    He.glo_ok X G (c.bool 28),
    He.free_ok X G (c.bool 29),
    He.free_ok X G (c.bool 30),
    He.free_ok X G (c.bool 31),
    He.free_ok X G (c.bool 32),
    He.free_ok X G (c.bool 33),
    He.free_ok X G (c.bool 34),
    He.free_ok X G (c.bool 35),
    He.free_ok X G (c.bool 36),
    He.free_ok X G (c.bool 37),
    He.free_ok X G (c.bool 38),
    He.free_ok X G (c.bool 39),
    He.free_ok X G (c.bool 40),
    He.free_ok X G (c.bool 41),
    He.free_ok X G (c.bool 42),
    He.free_ok X G (c.bool 43),
    FoZ.imp_ok X G (c.bool 44),
    He.glo_ok X G (c.bool 45),
    He.cls_ok (c.bool 46),
    He.noat_ok (c.bool 47),
    He.noat_ok (c.bool 48),
    He.mkr_ok (c.bool 49),
    FoZ.prop_ok (c.bool 50),
    FoZ.prop_ok (c.bool 51),
    FoB.bin_add (c.bool 52),
    FoB.bin_mul (c.bool 53),
    FoB.cmp_eq (c.bool 54),
    He.meth_ok (c.bool 55),
    FoB.isi_ok (c.bool 56),
    He.glo_ok X G (c.bool 57),
    FoB.oerr_ok (c.bool 58),
    FoN.ne_ok (c.bool 59),
    He.glo_ok X G (c.bool 60),
    He.cls_ok (c.bool 61),
    He.mkr_ok (c.bool 62),
    He.noat_ok (c.bool 63),
    FoB.isi_ok (c.bool 64),
    He.meth_ok (c.bool 65),
    He.meth_ok (c.bool 66),
    He.meth_ok (c.bool 67),
    He.meth_ok (c.bool 68),
    He.meth_ok (c.bool 69),
    He.meth_ok (c.bool 70),
    FoB.bin_add (c.bool 71),
    FoB.bin_sub (c.bool 72),
    FoB.bin_mul (c.bool 73),
    FoB.cmp_eq (c.bool 74),
    FoN.ne_ok (c.bool 75),
    of_decide_eq_true (c.bool 76),
    of_decide_eq_true (c.bool 77),
    of_decide_eq_true (c.bool 78),
    of_decide_eq_true (c.bool 79),
    He.glo_ok X G (c.bool 80),
    FoB.oerr_ok (c.bool 81),
    He.exm_ok (c.bool 82)⟩⟩
end Fo

set_option maxHeartbeats 4100000
namespace Fo
open PySem PySem.Spec PyProof.Rows L2
/-! ### what the law's own helpers promise -/
/-- the drawing box at p, drawn from at most n times -/
def BoxAt (H : Hp) (p : Addr) (n : Nat) : Prop := ∃ x c sd : Int, H p = some (.lst [.int x, .int c, .int sd]) ∧ 0 ≤ x ∧ 0 ≤ c ∧ c ≤ n ∧ 0 ≤ sd ∧ sd ≤ 2 ^ 40
/-- all but the object at p stands as it stood -/
def But (p : Addr) (H H' : Hp) : Prop := ∀ b o, H b = some o → b ≠ p → H' b = some o
theorem But.refl (p : Addr) (H : Hp) : But p H H := fun _ _ h _ => h
theorem But.trans {p : Addr} {H H1 H2 : Hp} (a : But p H H1) (b : But p H1 H2) : But p H H2 := fun c o h n => b c o (a c o h n) n
theorem But.of_same {p : Addr} {H H' : Hp} (a : Same H H') : But p H H' := fun c o h _ => a c o h
theorem Same.upd {H : Hp} {p : Addr} {o : HO} (h : H p = none) : Same H (upd H p o) := fun b u e => by
  rw [upd_ne (ne_of_none e h)]
  exact e
theorem But.upd {H : Hp} {p : Addr} {o : HO} : But p H (upd H p o) := fun b u e n => by
  rw [upd_ne n]
  exact e
theorem SqT.same {K : PySem.W.Frag} {H H' : Hp} {a : Addr} {xs : List V} (e : Same H H') (h : H a = some (.tup xs)) : SqT K H' a xs := SqT.of (e _ _ h)
def spCell (K : PySem.W.Frag) : Sp := fun vs H Q _ => ∃ (a : Addr) (ns : List Int) (i : Nat), vs = [.ref a, .int i] ∧ SqL K H a (ns.map V.int) ∧ Q (.int (ns.getD i 0)) H
def spBox (K : PySem.W.Frag) : Sp := fun vs H Q _ => ∃ (a : Addr) (ns : List Int) (i : Nat), vs = [.ref a, .int i] ∧ SqL K H a (ns.map V.int) ∧ i ≤ 1000 ∧ ∀ p H', H p = none → Same H H' → BoxAt H' p 0 → Q (.ref p) H'
def spTake : Sp := fun vs H Q _ => ∃ (p : Addr) (m : Int) (n : Nat), vs = [.ref p, .int m] ∧ BoxAt H p n ∧ n ≤ 100000 ∧ 0 < m ∧ FoM.Sz 4000 m ∧
  ∀ d H', 0 ≤ d → d < m → BoxAt H' p (n + 1) → But p H H' → Q (.int d) H'
/-- a fraction's tuple -/
def FrAt (K : PySem.W.Frag) (H : Hp) (a : Addr) (u d : Int) : Prop := SqT K H a [.int u, .int d]
def spFrac : Sp := fun vs H Q _ => ∃ u d : Int, vs = [.int u, .int d] ∧ d ≠ 0 ∧ FoM.Sz 4000 d ∧ ∀ p, H p = none → Q (.ref p) (upd H p (.tup [.int (FoM.frN u d), .int (FoM.frD u d)]))
/-- two fractions, and what is reckoned of them -/
def sp2 (K : PySem.W.Frag) (N D : Int → Int → Int → Int → Int) : Sp := fun vs H Q _ => ∃ (a b : Addr) (u d v e : Int), vs = [.ref a, .ref b] ∧ FrAt K H a u d ∧ FrAt K H b v e ∧ d ≠ 0 ∧ e ≠ 0 ∧
  FoM.Sz 1900 u ∧ FoM.Sz 1900 d ∧ FoM.Sz 1900 v ∧ FoM.Sz 1900 e ∧ ∀ p, H p = none → Q (.ref p) (upd H p (.tup [.int (FoM.frN (N u d v e) (D u d v e)), .int (FoM.frD (N u d v e) (D u d v e))]))
abbrev spPlus (K : PySem.W.Frag) : Sp := sp2 K (fun u d v e => u * e + v * d) (fun _ d _ e => d * e)
abbrev spMinus (K : PySem.W.Frag) : Sp := sp2 K (fun u d v e => u * e - v * d) (fun _ d _ e => d * e)
abbrev spTimes (K : PySem.W.Frag) : Sp := sp2 K (fun u _ v _ => u * v) (fun _ d _ e => d * e)
def spLess (K : PySem.W.Frag) : Sp := fun vs H Q _ => ∃ (a b : Addr) (u d v e : Int), vs = [.ref a, .ref b] ∧ FrAt K H a u d ∧ FrAt K H b v e ∧
  FoM.Sz 1900 u ∧ FoM.Sz 1900 d ∧ FoM.Sz 1900 v ∧ FoM.Sz 1900 e ∧ Q (.bl (decide (u * e < v * d))) H
theorem pow18 : ((10 : Int) ^ (18 : Int).toNat) = 1000000000000000000 := by decide
theorem sz_of {n : Nat} {i : Int} (m : Int) (h : -m < i) (g : i < m) (e : m.natAbs ≤ 2 ^ n) : FoM.Sz n i := Nat.lt_of_lt_of_le (by omega) e
theorem pow3 (i : Int) : i ^ (3 : Int).toNat = i * i * i := by
  show i ^ 3 = _
  rw [Int.pow_succ, Int.pow_succ, Int.pow_succ, Int.pow_zero, Int.one_mul]
section
variable {P : Program} {w : World} {K : PySem.W.Frag} {mg : Str → Option Value} {base : Heap}
theorem ok_cell (T : Tx K mg) : FnOk P w K mg base CX0 1 (He.ga K "_law_cell") T.fd_cell ["_law_script", "_law_k"] (spCell K) := by
  refine T.F_cell.ok sc_cell (fun vs H Q E h => ?_) (fun cdv A outer s H vs Q E hr h => ?_)
  · obtain ⟨a, ns, i, rfl, _⟩ := h
    rfl
  · obtain ⟨a, ns, i, rfl, hS, q⟩ := h
    refine ⟨_, (pss_one (ps_ret (pe_ifExp (pt_cmpR op_lt (pv 1) (pe_callB call_len_seq (by rfl) T.z_len PySem.boot_len (pa_cons (pv 0) pa_nil)) (nomark _)) (pe_ix ix_list (pv 0) (pv 1) (fun _ _ => rfl)) pe_int))), ?_⟩
    refine ⟨_, rfl, _, rfl, a, _, rfl, .inl hS, _, _, rfl, rfl, _, rfl, ite2 (fun e => ?_) (fun e => ?_)⟩
    · have e1 : i < ns.length := by
        have e0 := of_decide_eq_true e
        rw [List.length_map] at e0
        omega
      refine ⟨_, rfl, _, rfl, a, _, _, _, rfl, rfl, hS, atI_nat (by rw [List.getElem?_map, List.getElem?_eq_getElem e1]; rfl), ?_⟩
      have e2 : ns.getD i 0 = ns[i] := by simp [List.getD, List.getElem?_eq_getElem e1]
      rw [← e2]
      exact q
    · have e1 : ¬ i < ns.length := fun z => e (decide_eq_true (by rw [List.length_map]; omega))
      have e2 : ns.getD i 0 = 0 := by simp [List.getD, List.getElem?_eq_none (Nat.le_of_not_lt e1)]
      rw [e2] at q
      exact q
theorem ok_box (T : Tx K mg) : FnOk P w K mg base CX0 2 (He.ga K "_law_box") T.fd_box ["_law_script", "_law_k"] (spBox K) := by
  refine T.F_box.ok sc_box (fun vs H Q E h => ?_) (fun cdv A outer s H vs Q E hr h => ?_)
  · obtain ⟨a, ns, i, rfl, _⟩ := h
    rfl
  · obtain ⟨a, ns, i, rfl, hS, hi, q⟩ := h
    refine ⟨_, (pss_one (ps_ret (pe_lst (pa_cons (pe_callB call_abs (by rfl) T.z_abs (by decide +kernel) (pa_cons (pe_callTy FoA.call_intI (by rfl) T.z_int (by decide +kernel) (pa_cons (pe_call (ok_cell T) (hr.mono (by decide)) (by rfl) T.g_cell T.F_cell.kp T.b_cell .nil pass0 (pa_cons (pv 0) (pa_cons (pv 1) pa_nil))) pa_nil)) pa_nil)) (pa_cons pe_int (pa_cons (pe_op op_add (pe_op op_mulW pe_int (pv 1)) pe_int) pa_nil)))))), ?_⟩
    refine ⟨_, rfl, _, rfl, a, ns, i, rfl, hS, _, rfl, _, rfl, _, rfl, _, _, rfl, rfl, FoM.Sz.mulok (n := 20) (m := 20) (sz_of 1000000 (by decide) (by decide) (by decide)) (sz_of 1000000 (by omega) (by omega) (by decide)), _, _, rfl, rfl, ?_⟩
    refine ⟨(by show 3 ≤ sizeLine; rw [sizeLine_eq]; decide), fun p hp => ?_⟩
    refine q p _ hp (Same.upd hp) ⟨_, _, _, upd_same, ?_, ?_, ?_, ?_, ?_⟩
    · split <;> omega
    · omega
    · omega
    · omega
    · omega
theorem ok_take (T : Tx K mg) : FnOk P w K mg base CX0 1 (He.ga K "_law_take") T.fd_take ["_law_box_here", "_law_many"] spTake := by
  refine T.F_take.ok sc_take (fun vs H Q E h => ?_) (fun cdv A outer s H vs Q E hr h => ?_)
  · obtain ⟨p, m, n, rfl, _⟩ := h
    rfl
  · obtain ⟨p, m, n, rfl, ⟨x, c, sd, hB, hx, hc, hcn, hs, hs2⟩, hn, hm, hz, q⟩ := h
    have hL : SqL K H p [.int x, .int c, .int sd] := SqL.of hB
    refine ⟨_, (pss_cons (ps_if (pt_cmpR op_ge (pe_ix ix_list (pv 0) pe_int (fun _ _ => rfl)) (pe_op FoA.op_powW pe_int pe_int) (nomark _)) (pss_cons (ps_set (i := 2) sc_take.nd rfl (.inl rfl) (pe_op op_mod (pe_callTy FoA.call_intI (by rfl) T.z_int (by decide +kernel) (pa_cons (pe_ix ix_list (pv 0) pe_int (fun _ _ => rfl)) pa_nil)) (pv 1)))
      (pss_cons (ps_asg (pe_op op_fdivW (pe_ix ix_list (pv 0) pe_int (fun _ _ => rfl)) (pv 1)) (pg_sub (pv 0) pe_int set_list))
      (pss_one (ps_ret (pv 2))))) pss_nil)
      (pss_cons (ps_asg (pe_op op_add (pe_ix ix_list (pv 0) pe_int (fun _ _ => rfl)) pe_int) (pg_sub (pv 0) pe_int set_list))
      (pss_cons (ps_set (i := 3) sc_take.nd rfl (.inl rfl) (pe_op op_mod (pe_op FoA.op_powW (pe_callTy FoA.call_intI (by rfl) T.z_int (by decide +kernel) (pa_cons (pe_op op_add (pe_op op_add (pe_op op_mulW (pe_op op_add (pe_ix ix_list (pv 0) pe_int (fun _ _ => rfl)) pe_int) pe_int) (pe_op op_mulW (pe_ix ix_list (pv 0) pe_int (fun _ _ => rfl)) pe_int)) (pe_ix ix_list (pv 0) pe_int (fun _ _ => rfl))) pa_nil)) pe_int) pe_int))
      (pss_cons (ps_set (i := 3) sc_take.nd rfl (.inl rfl) (pe_op op_mod (pe_op FoA.op_powW (pe_callTy FoA.call_intI (by rfl) T.z_int (by decide +kernel) (pa_cons (pe_op op_add (pv 3) (pe_op op_mulW (pe_ix ix_list (pv 0) pe_int (fun _ _ => rfl)) pe_int)) pa_nil)) pe_int) pe_int))
      (pss_one (ps_ret (pe_op op_mod (pe_callTy FoA.call_intI (by rfl) T.z_int (by decide +kernel) (pa_cons (pe_op op_fdivW (pv 3) pe_int) pa_nil)) (pv 1)))))))), ?_⟩
    refine ⟨_, rfl, _, _, _, _, rfl, rfl, hL, rfl, _, _, rfl, rfl, ⟨by decide, by decide, by decide⟩, _, _, rfl, rfl, _, rfl, ite2 (fun e => ?_) (fun e => ?_)⟩
    · -- a digit of the number itself
      have hdv : CDivW x m := wide_div hm hz (by decide) (by decide)
      refine ⟨_, rfl, _, _, _, _, rfl, rfl, hL, rfl, _, rfl, _, rfl, _, _, rfl, rfl, hm, ?_⟩
      refine ⟨_, rfl, _, _, _, _, rfl, rfl, hL, rfl, _, rfl, _, _, rfl, rfl, hdv, _, rfl, p, _, 0, 0, rfl, rfl, hB, rfl, ?_⟩
      refine ⟨_, rfl, q _ _ (Int.emod_nonneg _ (by omega)) (Int.emod_lt_of_pos _ hm) ⟨x / m, c, sd, upd_same, Int.ediv_nonneg hx (by omega), hc, by omega, hs, hs2⟩ But.upd⟩
    · have hx2 : x < 1000000000000000000 := by
        rw [pow18] at e
        have e2 := of_decide_eq_false (Bool.eq_false_iff.mpr e)
        omega
      -- counted up
      refine ⟨_, rfl, _, _, _, _, rfl, rfl, hL, rfl, _, _, rfl, rfl, _, rfl, p, _, 1, 1, rfl, rfl, hB, rfl, ?_⟩
      have hL1 : SqL K (upd H p (.lst [.int x, .int (c + 1), .int sd])) p [.int x, .int (c + 1), .int sd] := SqL.of upd_same
      refine ⟨_, rfl, _, _, _, _, rfl, rfl, hL1, rfl, _, _, rfl, rfl, _, _, rfl, rfl, FoM.Sz.mulok (n := 64) (m := 20) (sz_of 2000000000000000000 (by omega) (by omega) (by decide)) (sz_of 1000000 (by decide) (by decide) (by decide)),
        _, rfl, _, _, _, _, rfl, rfl, hL1, rfl, _, _, rfl, rfl, FoM.Sz.mulok (n := 20) (m := 20) (sz_of 1000000 (by omega) (by omega) (by decide)) (sz_of 1000000 (by decide) (by decide) (by decide)), _, _, rfl, rfl,
        _, rfl, _, _, _, _, rfl, rfl, hL1, rfl, _, _, rfl, rfl, _, rfl, _, _, rfl, rfl, ⟨by decide, by decide, ?_⟩, _, _, rfl, rfl, (by show (0 : Int) < 2147483647; decide), ?_⟩
      · exact sz_of (n := 1000) 1000000000000000000000000000000 (by omega) (by omega) (by decide)
      generalize hg : ((x + 7) * 69069 + (c + 1) * 40692 + sd) ^ (3 : Int).toNat % 2147483647 = g
      have g0 : 0 ≤ g := by
        rw [← hg]
        exact Int.emod_nonneg _ (by decide)
      have g1 : g < 2147483647 := by
        rw [← hg]
        exact Int.emod_lt_of_pos _ (by decide)
      refine ⟨_, rfl, _, rfl, _, _, _, _, rfl, rfl, hL1, rfl, _, _, rfl, rfl, FoM.Sz.mulok (n := 20) (m := 20) (sz_of 1000000 (by omega) (by omega) (by decide)) (sz_of 1000000 (by decide) (by decide) (by decide)), _, _, rfl, rfl, _, rfl, _, _, rfl, rfl, ⟨by decide, by decide, ?_⟩, _, _, rfl, rfl, (by show (0 : Int) < 2147483399; decide), ?_⟩
      · exact sz_of (n := 1000) 1000000000000000000000000000000 (by omega) (by omega) (by decide)
      generalize hk : (g + (c + 1) * 17389) ^ (3 : Int).toNat % 2147483399 = k
      have k0 : 0 ≤ k := by
        rw [← hk]
        exact Int.emod_nonneg _ (by decide)
      refine ⟨_, rfl, _, _, rfl, rfl, wide_div (b := 20) (by decide) (by decide) (by decide) (by decide), _, rfl, _, rfl, _, _, rfl, rfl, hm, ?_⟩
      exact q _ _ (Int.emod_nonneg _ (by omega)) (Int.emod_lt_of_pos _ hm) ⟨x, c + 1, sd, upd_same, hx, by omega, by omega, hs, hs2⟩ But.upd
theorem ok_frac (T : Tx K mg) : FnOk P w K mg base CX0 1 (He.ga K "_law_frac") T.fd_frac ["_law_up", "_law_down"] spFrac := by
  refine T.F_frac.ok sc_frac (fun vs H Q E h => ?_) (fun cdv A outer s H vs Q E hr h => ?_)
  · obtain ⟨u, d, rfl, _⟩ := h
    rfl
  · obtain ⟨u, d, rfl, hd, hz, q⟩ := h
    refine ⟨_, (pss_cons (ps_par (i := 2) (j := 3) (by rfl) sc_frac.nd rfl rfl (by decide) rfl rfl (pa_cons (pe_callB call_abs (by rfl) T.z_abs (by decide +kernel) (pa_cons (pv 0) pa_nil)) (pa_cons (pe_callB call_abs (by rfl) T.z_abs (by decide +kernel) (pa_cons (pv 1) pa_nil)) pa_nil)) (by rfl))
      (pss_cons (ps_while PassesOwn.never (pt_cmpR op_gt (pv 3) pe_int (nomark _)) (pss_one (ps_par (i := 2) (j := 3) (by rfl) sc_frac.nd rfl rfl (by decide) rfl rfl (pa_cons (pv 3) (pa_cons (pe_op op_mod (pv 2) (pv 3)) pa_nil)) (by rfl))))
      (pss_cons (ps_if (pt_cmpR op_lt (pv 1) pe_int (nomark _)) (pss_one (ps_set (i := 2) sc_frac.nd rfl (.inl rfl) (pe_op op_sub pe_int (pv 2)))) pss_nil)
      (pss_one (ps_ret (pe_tup (pa_cons (pe_op FoA.op_fdivZ (pv 0) (pv 2)) (pa_cons (pe_op FoA.op_fdivZ (pv 1) (pv 2)) pa_nil)))))))), ?_⟩
    refine ⟨_, rfl, _, rfl, _, rfl, _, rfl, _, _, rfl, ?_⟩
    -- the greatest common divisor
    refine ⟨fun k σ H2 => H2 = H ∧ ∃ a b : Int, σ = [some (.int u), some (.int d), some (.int a), some (.int b)] ∧ 0 ≤ a ∧ 0 ≤ b ∧ k = b.toNat ∧ Nat.gcd a.natAbs b.natAbs = Nat.gcd u.natAbs d.natAbs, ⟨_, rfl, _, _, rfl, ?_, ?_, rfl, ?_⟩, ?_⟩
    · split <;> omega
    · split <;> omega
    · congr 1 <;> (split <;> omega)
    rintro k σ H2 ⟨rfl, a, b, rfl, ha, hb, rfl, hg⟩
    refine ⟨_, rfl, _, _, rfl, rfl, _, rfl, ite2 (fun e => ?_) (fun e => ?_)⟩
    · have hb0 : 0 < b := of_decide_eq_true e
      refine ⟨fun σ' H' => H' = H2 ∧ σ' = [some (.int u), some (.int d), some (.int b), some (.int (a % b))], fun σ' H' h => ?_, ?_⟩
      · obtain ⟨rfl, rfl⟩ := h
        have l1 := Int.emod_lt_of_pos a hb0
        have l0 := Int.emod_nonneg a (show b ≠ 0 by omega)
        refine ⟨(a % b).toNat, by omega, rfl, b, a % b, rfl, hb, l0, rfl, ?_⟩
        rw [← hg]
        have e1 : (a % b).natAbs = a.natAbs % b.natAbs := by
          have e2 : ((a.natAbs : Int) % (b.natAbs : Int)) = a % b := by
            rw [Int.natAbs_of_nonneg ha, Int.natAbs_of_nonneg hb]
          rw [← e2]
          omega
        rw [e1, Nat.gcd_comm a.natAbs, Nat.gcd_rec b.natAbs a.natAbs, Nat.gcd_comm]
      · exact ⟨_, rfl, _, rfl, _, rfl, _, _, rfl, rfl, hb0, _, _, rfl, rfl, rfl⟩
    · have hb0 : b = 0 := by
        have := of_decide_eq_false (Bool.eq_false_iff.mpr e)
        omega
      subst hb0
      have hga : a = ((Nat.gcd u.natAbs d.natAbs : Nat) : Int) := by
        rw [← hg]
        simp
        omega
      have hne := FoM.gc_ne (u := u) hd
      have hle := FoM.gc_le (u := u) hd
      have hdz : FoA.CDivZ u (FoM.gc u d) := FoA.divZ_of hne (FoM.Sz.le hz hle) (by decide) (by decide)
      have hdz2 : FoA.CDivZ d (FoM.gc u d) := FoA.divZ_of hne (FoM.Sz.le hz hle) (by decide) (by decide)
      refine ⟨_, rfl, _, _, rfl, rfl, _, rfl, ite2 (fun e2 => ?_) (fun e2 => ?_)⟩
      · have hd0 : d < 0 := of_decide_eq_true e2
        have eg : (0 : Int) - a = FoM.gc u d := by
          unfold FoM.gc
          rw [if_pos hd0, hga]
          omega
        rw [← eg] at hdz hdz2
        refine ⟨_, rfl, _, _, rfl, rfl, _, rfl, _, rfl, _, _, rfl, rfl, hdz, _, rfl, _, rfl, _, _, rfl, rfl, hdz2, (by show 2 ≤ sizeLine; rw [sizeLine_eq]; decide), fun p hp => ?_⟩
        have z := q p hp
        unfold FoM.frN FoM.frD at z
        rw [← eg] at z
        exact z
      · have hd0 : ¬ d < 0 := of_decide_eq_false (Bool.eq_false_iff.mpr e2)
        have eg : a = FoM.gc u d := by
          unfold FoM.gc
          rw [if_neg hd0, hga]
        rw [← eg] at hdz hdz2
        refine ⟨_, rfl, _, rfl, _, _, rfl, rfl, hdz, _, rfl, _, rfl, _, _, rfl, rfl, hdz2, (by show 2 ≤ sizeLine; rw [sizeLine_eq]; decide), fun p hp => ?_⟩
        have z := q p hp
        unfold FoM.frN FoM.frD at z
        rw [← eg] at z
        exact z
theorem ok_plus (T : Tx K mg) : FnOk P w K mg base CX0 2 (He.ga K "_law_plus") T.fd_plus ["_law_x", "_law_y"] (spPlus K) := by
  refine T.F_plus.ok sc_plus (fun vs H Q E h => ?_) (fun cdv A outer s H vs Q E hr h => ?_)
  · obtain ⟨a, b, u, d, v, e, rfl, _⟩ := h
    rfl
  · obtain ⟨a, b, u, d, v, e, rfl, ha, hb, hd, he, zu, zd, zv, ze, q⟩ := h
    refine ⟨_, (pss_one (ps_ret (pe_call (ok_frac T) (hr.mono (by decide)) (by rfl) T.g_frac T.F_frac.kp T.b_frac .nil pass0 (pa_cons (pe_op op_add (pe_op op_mulW (pe_ix ix_tup (pv 0) pe_int (fun _ _ => rfl)) (pe_ix ix_tup (pv 1) pe_int (fun _ _ => rfl))) (pe_op op_mulW (pe_ix ix_tup (pv 1) pe_int (fun _ _ => rfl)) (pe_ix ix_tup (pv 0) pe_int (fun _ _ => rfl)))) (pa_cons (pe_op op_mulW (pe_ix ix_tup (pv 0) pe_int (fun _ _ => rfl)) (pe_ix ix_tup (pv 1) pe_int (fun _ _ => rfl))) pa_nil))))), ?_⟩
    exact ⟨_, rfl, _, _, _, _, rfl, rfl, ha, rfl, _, rfl, _, _, _, _, rfl, rfl, hb, rfl, _, _, rfl, rfl, FoM.Sz.mulok zu ze, _, rfl, _, _, _, _, rfl, rfl, hb, rfl, _, rfl, _, _, _, _, rfl, rfl, ha, rfl, _, _, rfl, rfl, FoM.Sz.mulok zv zd, _, _, rfl, rfl,
      _, rfl, _, _, _, _, rfl, rfl, ha, rfl, _, rfl, _, _, _, _, rfl, rfl, hb, rfl, _, _, rfl, rfl, FoM.Sz.mulok zd ze, _, _, rfl, Int.mul_ne_zero hd he, (zd.mul ze).mono (by decide), q⟩
theorem ok_minus (T : Tx K mg) : FnOk P w K mg base CX0 2 (He.ga K "_law_minus") T.fd_minus ["_law_x", "_law_y"] (spMinus K) := by
  refine T.F_minus.ok sc_minus (fun vs H Q E h => ?_) (fun cdv A outer s H vs Q E hr h => ?_)
  · obtain ⟨a, b, u, d, v, e, rfl, _⟩ := h
    rfl
  · obtain ⟨a, b, u, d, v, e, rfl, ha, hb, hd, he, zu, zd, zv, ze, q⟩ := h
    refine ⟨_, (pss_one (ps_ret (pe_call (ok_frac T) (hr.mono (by decide)) (by rfl) T.g_frac T.F_frac.kp T.b_frac .nil pass0 (pa_cons (pe_op op_sub (pe_op op_mulW (pe_ix ix_tup (pv 0) pe_int (fun _ _ => rfl)) (pe_ix ix_tup (pv 1) pe_int (fun _ _ => rfl))) (pe_op op_mulW (pe_ix ix_tup (pv 1) pe_int (fun _ _ => rfl)) (pe_ix ix_tup (pv 0) pe_int (fun _ _ => rfl)))) (pa_cons (pe_op op_mulW (pe_ix ix_tup (pv 0) pe_int (fun _ _ => rfl)) (pe_ix ix_tup (pv 1) pe_int (fun _ _ => rfl))) pa_nil))))), ?_⟩
    exact ⟨_, rfl, _, _, _, _, rfl, rfl, ha, rfl, _, rfl, _, _, _, _, rfl, rfl, hb, rfl, _, _, rfl, rfl, FoM.Sz.mulok zu ze, _, rfl, _, _, _, _, rfl, rfl, hb, rfl, _, rfl, _, _, _, _, rfl, rfl, ha, rfl, _, _, rfl, rfl, FoM.Sz.mulok zv zd, _, _, rfl, rfl,
      _, rfl, _, _, _, _, rfl, rfl, ha, rfl, _, rfl, _, _, _, _, rfl, rfl, hb, rfl, _, _, rfl, rfl, FoM.Sz.mulok zd ze, _, _, rfl, Int.mul_ne_zero hd he, (zd.mul ze).mono (by decide), q⟩
theorem ok_times (T : Tx K mg) : FnOk P w K mg base CX0 2 (He.ga K "_law_times") T.fd_times ["_law_x", "_law_y"] (spTimes K) := by
  refine T.F_times.ok sc_times (fun vs H Q E h => ?_) (fun cdv A outer s H vs Q E hr h => ?_)
  · obtain ⟨a, b, u, d, v, e, rfl, _⟩ := h
    rfl
  · obtain ⟨a, b, u, d, v, e, rfl, ha, hb, hd, he, zu, zd, zv, ze, q⟩ := h
    refine ⟨_, (pss_one (ps_ret (pe_call (ok_frac T) (hr.mono (by decide)) (by rfl) T.g_frac T.F_frac.kp T.b_frac .nil pass0 (pa_cons (pe_op op_mulW (pe_ix ix_tup (pv 0) pe_int (fun _ _ => rfl)) (pe_ix ix_tup (pv 1) pe_int (fun _ _ => rfl))) (pa_cons (pe_op op_mulW (pe_ix ix_tup (pv 0) pe_int (fun _ _ => rfl)) (pe_ix ix_tup (pv 1) pe_int (fun _ _ => rfl))) pa_nil))))), ?_⟩
    exact ⟨_, rfl, _, _, _, _, rfl, rfl, ha, rfl, _, rfl, _, _, _, _, rfl, rfl, hb, rfl, _, _, rfl, rfl, FoM.Sz.mulok zu zv, _, rfl, _, _, _, _, rfl, rfl, ha, rfl, _, rfl, _, _, _, _, rfl, rfl, hb, rfl, _, _, rfl, rfl, FoM.Sz.mulok zd ze, _, _, rfl, Int.mul_ne_zero hd he, (zd.mul ze).mono (by decide), q⟩
end

/-! ### with rational numbers -/
/-- a fraction's tuple as it stands -/
abbrev qt (r : Rat) : HO := .tup [.int r.num, .int r.den]
def FrQ (H : Hp) (p : Addr) (r : Rat) : Prop := H p = some (qt r)
theorem FrQ.at_ {K : PySem.W.Frag} {H : Hp} {p : Addr} {r : Rat} (h : FrQ H p r) : FrAt K H p r.num r.den := SqT.of h
theorem FrQ.same {H H' : Hp} {p : Addr} {r : Rat} (h : FrQ H p r) (e : Same H H') : FrQ H' p r := e _ _ h
theorem qt_fr {u d : Int} (h : d ≠ 0) : (HO.tup [.int (FoM.frN u d), .int (FoM.frD u d)]) = qt (Rat.divInt u d) := by
  rw [(FoQ.fr_rat h).1, (FoQ.fr_rat h).2]
theorem qt_of {u d : Int} {r : Rat} (h : d ≠ 0) (e : Rat.divInt u d = r) : (HO.tup [.int (FoM.frN u d), .int (FoM.frD u d)]) = qt r := by
  rw [qt_fr h, e]
def spFracQ : Sp := fun vs H Q _ => ∃ u d : Int, vs = [.int u, .int d] ∧ d ≠ 0 ∧ FoM.Sz 4000 d ∧ ∀ p, H p = none → Q (.ref p) (upd H p (qt (Rat.divInt u d)))
def sp2Q (f : Rat → Rat → Rat) : Sp := fun vs H Q _ => ∃ (a b : Addr) (x z : Rat), vs = [.ref a, .ref b] ∧ FrQ H a x ∧ FrQ H b z ∧ FoQ.SzR 1900 x ∧ FoQ.SzR 1900 z ∧ ∀ p, H p = none → Q (.ref p) (upd H p (qt (f x z)))
section
variable {P : Program} {w : World} {K : PySem.W.Frag} {mg : Str → Option Value} {base : Heap}
theorem ok_fracQ (T : Tx K mg) : FnOk P w K mg base CX0 1 (He.ga K "_law_frac") T.fd_frac ["_law_up", "_law_down"] spFracQ := (ok_frac T).imp fun vs H Q E h => by
  obtain ⟨u, d, e, hd, hz, q⟩ := h
  exact ⟨u, d, e, hd, hz, fun p hp => by rw [qt_fr hd]; exact q p hp⟩
theorem ok_plusQ (T : Tx K mg) : FnOk P w K mg base CX0 2 (He.ga K "_law_plus") T.fd_plus ["_law_x", "_law_y"] (sp2Q (· + ·)) := (ok_plus T).imp fun vs H Q E h => by
  obtain ⟨a, b, x, z, e, ha, hb, hx, hz, q⟩ := h
  exact ⟨a, b, x.num, x.den, z.num, z.den, e, ha.at_, hb.at_, FoQ.den_ne x, FoQ.den_ne z, hx.1, hx.2, hz.1, hz.2, fun p hp => by rw [qt_of (Int.mul_ne_zero (FoQ.den_ne x) (FoQ.den_ne z)) (FoQ.q_add x z)]; exact q p hp⟩
theorem ok_minusQ (T : Tx K mg) : FnOk P w K mg base CX0 2 (He.ga K "_law_minus") T.fd_minus ["_law_x", "_law_y"] (sp2Q (· - ·)) := (ok_minus T).imp fun vs H Q E h => by
  obtain ⟨a, b, x, z, e, ha, hb, hx, hz, q⟩ := h
  exact ⟨a, b, x.num, x.den, z.num, z.den, e, ha.at_, hb.at_, FoQ.den_ne x, FoQ.den_ne z, hx.1, hx.2, hz.1, hz.2, fun p hp => by rw [qt_of (Int.mul_ne_zero (FoQ.den_ne x) (FoQ.den_ne z)) (FoQ.q_sub x z)]; exact q p hp⟩
theorem ok_timesQ (T : Tx K mg) : FnOk P w K mg base CX0 2 (He.ga K "_law_times") T.fd_times ["_law_x", "_law_y"] (sp2Q (· * ·)) := (ok_times T).imp fun vs H Q E h => by
  obtain ⟨a, b, x, z, e, ha, hb, hx, hz, q⟩ := h
  exact ⟨a, b, x.num, x.den, z.num, z.den, e, ha.at_, hb.at_, FoQ.den_ne x, FoQ.den_ne z, hx.1, hx.2, hz.1, hz.2, fun p hp => by rw [qt_of (Int.mul_ne_zero (FoQ.den_ne x) (FoQ.den_ne z)) (FoQ.q_mul x z)]; exact q p hp⟩
end

end Fo

set_option maxHeartbeats 4100000
namespace Fo
open PySem PySem.Spec PyProof.Rows L2
/-! ### the class Ratio -/
abbrev RC (K : PySem.W.Frag) : Addr := He.ga K "Ratio"
def rf (a b : Int) : List (Str × V) := putF "_bottom" (.int b) (putF "_top" (.int a) [])
theorem tb_ne : ¬ (("_top" : Str) = "_bottom") := by decide +kernel
theorem rf_top (a b : Int) : (rf a b).lookup ("_top" : Str) = some (.int a) := by
  unfold rf
  rw [lookup_putF, if_neg tb_ne, lookup_putF, if_pos rfl]
theorem rf_bot (a b : Int) : (rf a b).lookup ("_bottom" : Str) = some (.int b) := by
  unfold rf
  rw [lookup_putF, if_pos rfl]
theorem rf_no (a b : Int) {m : Str} (h1 : ¬ m = "_bottom") (h2 : ¬ m = "_top") : (rf a b).lookup m = none := by
  unfold rf
  rw [lookup_putF, if_neg h1, lookup_putF, if_neg h2]
  rfl
/-- at p: the Ratio a / b as its object keeps it -/
def RatAt (K : PySem.W.Frag) (H : Hp) (p : Addr) (a b : Int) : Prop := ∃ dx, H p = some (.ins (RC K) dx (rf a b))
theorem RatAt.same {K : PySem.W.Frag} {H H' : Hp} {p : Addr} {a b : Int} (h : RatAt K H p a b) (e : Same H H') : RatAt K H' p a b :=
  let ⟨dx, q⟩ := h
  ⟨dx, e _ _ q⟩
/-- a number: a Ratio, or an int -/
def NumV (K : PySem.W.Frag) (H : Hp) (y : V) (v e : Int) : Prop := (∃ b, y = .ref b ∧ RatAt K H b v e) ∨ (y = .int v ∧ e = 1)
theorem NumV.same {K : PySem.W.Frag} {H H' : Hp} {y : V} {v e : Int} (h : NumV K H y v e) (s : Same H H') : NumV K H' y v e := by
  rcases h with ⟨b, h1, h2⟩ | h
  · exact .inl ⟨b, h1, h2.same s⟩
  · exact .inr h
/-- a value that is no number -/
inductive NoNum (H : Hp) : V → Prop where
  | non : NoNum H .non
  | bl (b : Bool) : NoNum H (.bl b)
  | str (x : Str) : NoNum H (.str x)
  | lst {a : Addr} {xs : List V} (e : H a = some (.lst xs)) : NoNum H (.ref a)
  | tup {a : Addr} {xs : List V} (e : H a = some (.tup xs)) : NoNum H (.ref a)
  | dK {a : Addr} {xs : List (Key × V)} (e : H a = some (.dK xs)) : NoNum H (.ref a)
theorem NoNum.oth {H : Hp} {C : Addr} {y : V} (h : NoNum H y) : FoA.OthV H C y := by
  cases h with
  | non => exact .non
  | bl b => exact .bl b
  | str x => exact .str x
  | lst e => exact .lst e
  | tup e => exact .tup e
  | dK e => exact .dK e
theorem NumV.oth {K : PySem.W.Frag} {H : Hp} {y : V} {v e : Int} (h : NumV K H y v e) : FoA.OthV H (RC K) y := by
  rcases h with ⟨b, rfl, dx, q⟩ | ⟨rfl, _⟩
  · exact .ins q
  · exact .int _
/-- a plain value's type, and what isinstance tells of it -/
theorem NoNum.ty {K : PySem.W.Frag} {H : Hp} {y : V} (h : NoNum H y) : ∃ T, T ∈ FoZ.tyNames ∧ TyX K H y (.type T) ∧ ∃ b1 b2, PySem.W.kitOne K (.type T) (.type "int") = some b1 ∧ PySem.W.kitOne K (.type T) (.type "bool") = some b2 ∧ (b1 && !b2) = false := by
  cases h with
  | non => exact ⟨"NoneType", by decide, .base .non, false, false, kit_ty (by decide +kernel), kit_ty (by decide +kernel), rfl⟩
  | bl b => exact ⟨"bool", by decide, .base (.bl b), true, true, kit_ty (by decide +kernel), kit_ty (by decide +kernel), rfl⟩
  | str x => exact ⟨"str", by decide, .base (.str x), false, false, kit_ty (by decide +kernel), kit_ty (by decide +kernel), rfl⟩
  | lst e => exact ⟨"list", by decide, .base (.lst e), false, false, kit_ty (by decide +kernel), kit_ty (by decide +kernel), rfl⟩
  | tup e => exact ⟨"tuple", by decide, .base (.tup e), false, false, kit_ty (by decide +kernel), kit_ty (by decide +kernel), rfl⟩
  | dK e => exact ⟨"dict", by decide, .base (.dK e), false, false, kit_ty (by decide +kernel), kit_ty (by decide +kernel), rfl⟩
theorem kit_int {K : PySem.W.Frag} : PySem.W.kitOne K (.type "int") (.type "int") = some true ∧ PySem.W.kitOne K (.type "int") (.type "bool") = some false := ⟨kit_ty (by decide +kernel), kit_ty (by decide +kernel)⟩
def sgn (v : Int) : Int := if v = 0 then 0 else if 0 < v then 1 else -1
/-! ### promises -/
def spInit (K : PySem.W.Frag) : Sp := fun vs H Q _ => ∃ (p dx : Addr) (t b : Int), vs = [.ref p, .int t, .int b] ∧ H p = some (.ins (RC K) dx []) ∧ b ≠ 0 ∧ FoM.Sz 4000 b ∧ ∀ H', RatAt K H' p (FoM.frN t b) (FoM.frD t b) → But p H H' → Q .non H'
def spTop (K : PySem.W.Frag) : Sp := fun vs H Q _ => ∃ (a : Addr) (u d : Int), vs = [.ref a] ∧ RatAt K H a u d ∧ Q (.int u) H
def spBot (K : PySem.W.Frag) : Sp := fun vs H Q _ => ∃ (a : Addr) (u d : Int), vs = [.ref a] ∧ RatAt K H a u d ∧ Q (.int d) H
def spIsInt (K : PySem.W.Frag) : Sp := fun vs H Q _ => ∃ y : V, vs = [y] ∧ (((∃ i, y = .int i) ∧ Q (.bl true) H) ∨ (NoNum H y ∧ Q (.bl false) H))
def spIsNumber (K : PySem.W.Frag) : Sp := fun vs H Q _ => ∃ y : V, vs = [y] ∧ ((∃ v e, NumV K H y v e ∧ Q (.bl true) H) ∨ (NoNum H y ∧ Q (.bl false) H))
def spAs (K : PySem.W.Frag) : Sp := fun vs H Q _ => ∃ (y : V) (v e : Int), vs = [y] ∧ NumV K H y v e ∧ ∀ b H', Same H H' → RatAt K H' b v e → Q (.ref b) H'
def spSign (K : PySem.W.Frag) : Sp := fun vs H Q _ => ∃ (y : V) (v e : Int), vs = [y] ∧ NumV K H y v e ∧ ∀ H', Same H H' → Q (.int (sgn v)) H'
def spEq (K : PySem.W.Frag) : Sp := fun vs H Q _ => ∃ (a : Addr) (y : V) (u d : Int), vs = [.ref a, y] ∧ RatAt K H a u d ∧
  ((∃ (b : Addr) (v e : Int), y = .ref b ∧ RatAt K H b v e ∧ Q (.bl (decide (u = v) && decide (d = e))) H) ∨ (∃ i, y = .int i ∧ Q (.bl (decide (d = 1) && decide (u = i))) H) ∨ (NoNum H y ∧ Q (.bl false) H))
/-- an operation of a Ratio and a number: what is told -/
def spCmp (K : PySem.W.Frag) (f : Int → Int → Bool) : Sp := fun vs H Q _ => ∃ (a : Addr) (y : V) (u d v e : Int), vs = [.ref a, y] ∧ RatAt K H a u d ∧ NumV K H y v e ∧
  FoM.Sz 1900 u ∧ FoM.Sz 1900 d ∧ FoM.Sz 1900 v ∧ FoM.Sz 1900 e ∧ ∀ H', Same H H' → Q (.bl (f (u * e) (v * d))) H'
def spOp (K : PySem.W.Frag) (N D : Int → Int → Int → Int → Int) (C : Int → Int → Prop) : Sp := fun vs H Q _ => ∃ (a : Addr) (y : V) (u d v e : Int), vs = [.ref a, y] ∧ RatAt K H a u d ∧ NumV K H y v e ∧ d ≠ 0 ∧ C v e ∧
  FoM.Sz 1900 u ∧ FoM.Sz 1900 d ∧ FoM.Sz 1900 v ∧ FoM.Sz 1900 e ∧ ∀ p H', H p = none → Same H H' → RatAt K H' p (FoM.frN (N u d v e) (D u d v e)) (FoM.frD (N u d v e) (D u d v e)) → Q (.ref p) H'
abbrev spAdd (K : PySem.W.Frag) : Sp := spOp K (fun u d v e => u * e + v * d) (fun _ d _ e => d * e) (fun _ e => e ≠ 0)
abbrev spSub (K : PySem.W.Frag) : Sp := spOp K (fun u d v e => u * e - v * d) (fun _ d _ e => d * e) (fun _ e => e ≠ 0)
abbrev spMul (K : PySem.W.Frag) : Sp := spOp K (fun u _ v _ => u * v) (fun _ d _ e => d * e) (fun _ e => e ≠ 0)
abbrev spOver (K : PySem.W.Frag) : Sp := spOp K (fun u _ _ e => u * e) (fun _ d v _ => d * v) (fun v _ => v ≠ 0)
def spNeg (K : PySem.W.Frag) : Sp := fun vs H Q _ => ∃ (a : Addr) (u d : Int), vs = [.ref a] ∧ RatAt K H a u d ∧ d ≠ 0 ∧ FoM.Sz 4000 d ∧ ∀ p H', H p = none → Same H H' → RatAt K H' p (FoM.frN (-u) d) (FoM.frD (-u) d) → Q (.ref p) H'
section
variable {P : Program} {w : World} {K : PySem.W.Frag} {mg : Str → Option Value} {base : Heap}
theorem bind_init2 (T : Tx K mg) : Binds K T.fd_Ratio_init ["self", "top", "bottom"] [] := by
  obtain ⟨ds, v, b⟩ := T.F_Ratio_init.binds1 (ps := ["self", "top", "bottom"]) 3 1 (by simp) rfl (fun X kV doc pm an cdv ct us its l1 l2 => match us, its, l1, l2 with | [_, _, _], [_], _, _ => ⟨_, rfl, rfl⟩)
  cases v
  exact b
theorem bind_init1 (T : Tx K mg) : ∃ ds, Vals [.int 1] ds ∧ Binds K T.fd_Ratio_init ["self", "top", "bottom"] ds :=
  T.F_Ratio_init.binds1 (ps := ["self", "top", "bottom"]) 2 0 (by simp) rfl (fun X kV doc pm an cdv ct us its l1 l2 => match us, its, l1, l2 with | [_, _], [_], _, _ => ⟨_, rfl, rfl⟩)
theorem ok_Ratio_init (T : Tx K mg) : FnOk P w K mg base CX0 1 (He.ma K (He.ga K "Ratio") "__init__") T.fd_Ratio_init ["self", "top", "bottom"] (spInit K) := by
  refine T.F_Ratio_init.ok sc_Ratio_init (fun vs H Q E h => ?_) (fun cdv A outer s H vs Q E hr h => ?_)
  · obtain ⟨p, dx, t, b, rfl, _⟩ := h
    rfl
  · obtain ⟨p, dx, t, b, rfl, hp, hb, hz, q⟩ := h
    refine ⟨_, (pss_cons (ps_if (pt_cmpR op_eq (pv 2) pe_int (nomark _)) (pss_one ps_never) pss_nil)
      (pss_cons (ps_set (i := 3) sc_Ratio_init.nd rfl (.inl rfl) (pe_callBfun cr_gcd (by rfl) T.i_gcd (pa_cons (pv 1) (pa_cons (pv 2) pa_nil))))
      (pss_cons (ps_if (pt_cmpR op_lt (pv 2) pe_int (nomark _)) (pss_one (ps_set (i := 3) sc_Ratio_init.nd rfl (.inl rfl) (pe_un un_neg (pv 3)))) pss_nil)
      (pss_cons (ps_fld (pv 0) (pe_op FoA.op_fdivZ (pv 1) (pv 3)) rfl)
      (pss_one (ps_fld (pv 0) (pe_op FoA.op_fdivZ (pv 2) (pv 3)) rfl)))))), ?_⟩
    refine ⟨_, rfl, rfl, _, rfl, ite2 (fun e => absurd (V.int.inj (of_decide_eq_true e)) hb) (fun e => ?_)⟩
    refine ⟨_, rfl, _, rfl, _, _, rfl, ?_⟩
    have hne := FoM.gc_ne (u := t) hb
    have hle := FoM.gc_le (u := t) hb
    have hdz : FoA.CDivZ t (FoM.gc t b) := FoA.divZ_of hne (FoM.Sz.le hz hle) (by decide) (by decide)
    have hdz2 : FoA.CDivZ b (FoM.gc t b) := FoA.divZ_of hne (FoM.Sz.le hz hle) (by decide) (by decide)
    have fin : RatAt K (upd (upd H p (.ins (RC K) dx (putF "_top" (.int (FoM.frN t b)) []))) p (.ins (RC K) dx (putF "_bottom" (.int (FoM.frD t b)) (putF "_top" (.int (FoM.frN t b)) [])))) p (FoM.frN t b) (FoM.frD t b) := ⟨dx, upd_same⟩
    have fb : But p H (upd (upd H p (.ins (RC K) dx (putF "_top" (.int (FoM.frN t b)) []))) p (.ins (RC K) dx (putF "_bottom" (.int (FoM.frD t b)) (putF "_top" (.int (FoM.frN t b)) [])))) := But.upd.trans But.upd
    have last := q _ fin fb
    unfold FoM.frN FoM.frD at last
    refine ⟨_, rfl, _, _, rfl, rfl, _, rfl, ite2 (fun e2 => ?_) (fun e2 => ?_)⟩
    · have hd0 : b < 0 := of_decide_eq_true e2
      have eg : -((Nat.gcd t.natAbs b.natAbs : Nat) : Int) = FoM.gc t b := by
        unfold FoM.gc
        rw [if_pos hd0]
      rw [← eg] at hdz hdz2 last
      exact ⟨_, rfl, _, rfl, _, rfl, _, rfl, _, _, rfl, rfl, hdz, _, rfl, p, _, dx, _, rfl, hp, T.cl_R, T.nT_R, (by show 0 < 1000; decide), _, rfl, _, rfl, _, _, rfl, rfl, hdz2, _, rfl, p, _, dx, _, rfl, upd_same, T.cl_R, T.nB_R, (by show 1 < 1000; decide), last⟩
    · have hd0 : ¬ b < 0 := of_decide_eq_false (Bool.eq_false_iff.mpr e2)
      have eg : ((Nat.gcd t.natAbs b.natAbs : Nat) : Int) = FoM.gc t b := by
        unfold FoM.gc
        rw [if_neg hd0]
      rw [← eg] at hdz hdz2 last
      exact ⟨_, rfl, _, rfl, _, _, rfl, rfl, hdz, _, rfl, p, _, dx, _, rfl, hp, T.cl_R, T.nT_R, (by show 0 < 1000; decide), _, rfl, _, rfl, _, _, rfl, rfl, hdz2, _, rfl, p, _, dx, _, rfl, upd_same, T.cl_R, T.nB_R, (by show 1 < 1000; decide), last⟩
/-- what a call of Ratio asks, of a number and another one that is not 0 -/
theorem rd_make {H : Hp} {t b : Int} {Q : VK} {E : XK} (hb : b ≠ 0) (hz : FoM.Sz 4000 b) (q : ∀ p H', H p = none → Same H H' → RatAt K H' p (FoM.frN t b) (FoM.frD t b) → Q (.ref p) H') :
    ∀ x dx, H x = none → H dx = none → dx ≠ x → spInit K [.ref x, .int t, .int b] (upd (upd H dx (.own x)) x (.ins (RC K) dx [])) (fun v H2 => v = .non ∧ Q (.ref x) H2) E := fun x dx nx ndx ne =>
  ⟨x, dx, t, b, rfl, upd_same, hb, hz, fun H' hR hB => ⟨rfl, q x H' nx (Same.made nx ndx hB) hR⟩⟩
theorem ok_Ratio_top (T : Tx K mg) : FnOk P w K mg base CX0 1 (FoZ.pg K "Ratio" "top") T.fd_Ratio_top ["self"] (spTop K) := by
  refine T.F_Ratio_top.ok sc_Ratio_top (fun vs H Q E h => ?_) (fun cdv A outer s H vs Q E hr h => ?_)
  · obtain ⟨a, u, d, rfl, _⟩ := h
    rfl
  · obtain ⟨a, u, d, rfl, ⟨dx, ha⟩, q⟩ := h
    exact ⟨_, (pss_one (ps_ret (pe_fld (pv 0) rfl))), ⟨_, rfl, a, _, dx, _, _, rfl, ha, T.cl_R, T.nT_R, rf_top _ _, q⟩⟩
theorem ok_Ratio_bottom (T : Tx K mg) : FnOk P w K mg base CX0 1 (FoZ.pg K "Ratio" "bottom") T.fd_Ratio_bottom ["self"] (spBot K) := by
  refine T.F_Ratio_bottom.ok sc_Ratio_bottom (fun vs H Q E h => ?_) (fun cdv A outer s H vs Q E hr h => ?_)
  · obtain ⟨a, u, d, rfl, _⟩ := h
    rfl
  · obtain ⟨a, u, d, rfl, ⟨dx, ha⟩, q⟩ := h
    exact ⟨_, (pss_one (ps_ret (pe_fld (pv 0) rfl))), ⟨_, rfl, a, _, dx, _, _, rfl, ha, T.cl_R, T.nB_R, rf_bot _ _, q⟩⟩
theorem ok_is_whole (T : Tx K mg) : FnOk P w K mg base CX0 1 (He.ga K "is_whole") T.fd_is_whole ["given"] (spIsInt K) := by
  refine T.F_is_whole.ok sc_is_whole (fun vs H Q E h => ?_) (fun cdv A outer s H vs Q E hr h => ?_)
  · obtain ⟨y, rfl, _⟩ := h
    rfl
  · obtain ⟨y, rfl, h⟩ := h
    refine ⟨_, (pss_one (ps_ret (pe_and (pe_callB call_isi (by rfl) T.z_isinstance (by decide +kernel) (pa_cons (pv 0) (pa_cons (pe_bltn (v := V.ty "int") (u := Value.type "int") (by rfl) T.z_int (by decide +kernel) rfl) pa_nil))) (pe_one (pe_not (pe_callB call_isi (by rfl) T.z_isinstance (by decide +kernel) (pa_cons (pv 0) (pa_cons (pe_bltn (v := V.ty "bool") (u := Value.type "bool") (by rfl) T.z_bool (by decide +kernel) rfl) pa_nil)))))))), ?_⟩
    rcases h with ⟨⟨i, rfl⟩, q⟩ | ⟨hN, q⟩
    · refine ⟨_, rfl, _, _, _, _, _, rfl, .ty _, .base (.int i), kit_int.1, _, rfl, iteT ?_⟩
      exact ⟨_, rfl, _, _, _, _, _, rfl, .ty _, .base (.int i), kit_int.2, _, rfl, q⟩
    · obtain ⟨X, hX, ty, b1, b2, k1, k2, hb⟩ := hN.ty (K := K)
      refine ⟨_, rfl, _, _, _, _, _, rfl, .ty _, ty, k1, _, rfl, ?_⟩
      cases b1 with
      | false => exact iteF q
      | true =>
        cases b2 with
        | false => cases hb
        | true => exact iteT ⟨_, rfl, _, _, _, _, _, rfl, .ty _, ty, k2, _, rfl, q⟩
theorem ok_is_number (T : Tx K mg) : FnOk P w K mg base CX0 2 (He.ga K "is_number") T.fd_is_number ["given"] (spIsNumber K) := by
  refine T.F_is_number.ok sc_is_number (fun vs H Q E h => ?_) (fun cdv A outer s H vs Q E hr h => ?_)
  · obtain ⟨y, rfl, _⟩ := h
    rfl
  · obtain ⟨y, rfl, h⟩ := h
    refine ⟨_, (pss_one (ps_ret (pe_or (pe_callB call_isi (by rfl) T.z_isinstance (by decide +kernel) (pa_cons (pv 0) (pa_cons (pe_glob (v := V.ref (He.ga K "Ratio")) (by rfl) T.c_Ratio rfl) pa_nil))) (pe_one (pe_call (ok_is_whole T) (hr.mono (by decide)) (by rfl) T.g_is_whole T.F_is_whole.kp T.b_is_whole .nil pass0 (pa_cons (pv 0) pa_nil)))))), ?_⟩
    rcases h with ⟨v, e, ⟨b, rfl, dx, hb⟩ | ⟨rfl, rfl⟩, q⟩ | ⟨hN, q⟩
    · exact ⟨_, rfl, _, _, _, _, _, rfl, .own _, FoB.TyI T.is_R T.cl_R hb, FoB.kit_self, _, rfl, iteT q⟩
    · refine ⟨_, rfl, _, _, _, _, _, rfl, .own _, .base (.int v), T.is_R.kt "int" (by decide), _, rfl, iteF ?_⟩
      exact ⟨_, rfl, _, rfl, .inl ⟨⟨v, rfl⟩, q⟩⟩
    · obtain ⟨X, hX, ty, _⟩ := hN.ty (K := K)
      refine ⟨_, rfl, _, _, _, _, _, rfl, .own _, ty, T.is_R.kt X hX, _, rfl, iteF ?_⟩
      exact ⟨_, rfl, _, rfl, .inr ⟨hN, q⟩⟩
theorem ok_as_ratio (T : Tx K mg) : FnOk P w K mg base CX0 3 (He.ga K "as_ratio") T.fd_as_ratio ["given"] (spAs K) := by
  refine T.F_as_ratio.ok sc_as_ratio (fun vs H Q E h => ?_) (fun cdv A outer s H vs Q E hr h => ?_)
  · obtain ⟨y, v, e, rfl, _⟩ := h
    rfl
  · obtain ⟨y, v, e, rfl, hy, q⟩ := h
    obtain ⟨ds, vd, bd⟩ := bind_init1 T
    refine ⟨_, (pss_cons (ps_if (pt_not (pt_val (pe_call (ok_is_number T) (hr.mono (by decide)) (by rfl) T.g_is_number T.F_is_number.kp T.b_is_number .nil pass0 (pa_cons (pv 0) pa_nil)))) (pss_one ps_never) pss_nil)
      (pss_one (ps_ret (pe_ifExp (pt_val (pe_callB call_isi (by rfl) T.z_isinstance (by decide +kernel) (pa_cons (pv 0) (pa_cons (pe_glob (v := V.ref (He.ga K "Ratio")) (by rfl) T.c_Ratio rfl) pa_nil)))) (pv 0) (pe_make T.mk_R (ok_Ratio_init T) (hr.mono (by decide)) (by rfl) T.c_Ratio bd vd pass0 (pa_cons (pv 0) pa_nil)))))), ?_⟩
    refine ⟨_, rfl, y, rfl, .inl ⟨v, e, hy, _, rfl, iteF ?_⟩⟩
    rcases hy with ⟨b, rfl, hb⟩ | ⟨rfl, rfl⟩
    · obtain ⟨dx, hb'⟩ := id hb
      refine ⟨_, rfl, _, _, _, _, _, rfl, .own _, FoB.TyI T.is_R T.cl_R hb', FoB.kit_self, _, rfl, iteT ?_⟩
      exact ⟨_, rfl, q b H (Same.refl H) hb⟩
    · refine ⟨_, rfl, _, _, _, _, _, rfl, .own _, .base (.int v), T.is_R.kt "int" (by decide), _, rfl, iteF ?_⟩
      refine ⟨_, rfl, rd_make (by decide) (sz_of 1000000 (by decide) (by decide) (Nat.le_trans (by decide) (Nat.pow_le_pow_right (by decide) (show 20 ≤ 4000 by decide)))) fun p H' np sm hR => ?_⟩
      rw [(FoM.fr_one v).1, (FoM.fr_one v).2] at hR
      exact q p H' sm hR
theorem ok_Ratio_eq (T : Tx K mg) : FnOk P w K mg base CX0 2 (He.ma K (He.ga K "Ratio") "__eq__") T.fd_Ratio_eq ["self", "other"] (spEq K) := by
  refine T.F_Ratio_eq.ok sc_Ratio_eq (fun vs H Q E h => ?_) (fun cdv A outer s H vs Q E hr h => ?_)
  · obtain ⟨a, y, u, d, rfl, _⟩ := h
    rfl
  · obtain ⟨a, y, u, d, rfl, ⟨dx, ha⟩, h⟩ := h
    refine ⟨_, (pss_cons (ps_if (pt_val (pe_callB call_isi (by rfl) T.z_isinstance (by decide +kernel) (pa_cons (pv 1) (pa_cons (pe_glob (v := V.ref (He.ga K "Ratio")) (by rfl) T.c_Ratio rfl) pa_nil)))) (pss_one (ps_ret (pe_and (pe_cmpR op_eq (pe_fld (pv 0) rfl) (pe_fld (pv 1) rfl) (nomark _)) (pe_one (pe_cmpR op_eq (pe_fld (pv 0) rfl) (pe_fld (pv 1) rfl) (nomark _)))))) pss_nil)
      (pss_one (ps_ret (pe_and (pe_call (ok_is_whole T) (hr.mono (by decide)) (by rfl) T.g_is_whole T.F_is_whole.kp T.b_is_whole .nil pass0 (pa_cons (pv 1) pa_nil)) (pe_and (pe_cmpR op_eq (pe_fld (pv 0) rfl) pe_int (nomark _)) (pe_one (pe_cmpR op_eq (pe_fld (pv 0) rfl) (pv 1) (nomark _)))))))), ?_⟩
    rcases h with ⟨b, v, e, rfl, ⟨dy, hb⟩, q⟩ | ⟨i, rfl, q⟩ | ⟨hN, q⟩
    · refine ⟨_, rfl, _, _, _, _, _, rfl, .own _, FoB.TyI T.is_R T.cl_R hb, FoB.kit_self, _, rfl, iteT ?_⟩
      refine ⟨_, rfl, a, _, dx, _, _, rfl, ha, T.cl_R, T.nT_R, rf_top _ _, _, rfl, b, _, dy, _, _, rfl, hb, T.cl_R, T.nT_R, rf_top _ _, rfl, _, rfl, ?_⟩
      by_cases e1 : u = v
      · rw [decide_eq_true e1, Bool.true_and] at q
        rw [decide_eq_true (show V.int u = V.int v by rw [e1])]
        refine iteT ⟨_, rfl, a, _, dx, _, _, rfl, ha, T.cl_R, T.nB_R, rf_bot _ _, _, rfl, b, _, dy, _, _, rfl, hb, T.cl_R, T.nB_R, rf_bot _ _, rfl, ?_⟩
        have e2 : decide (V.int d = V.int e) = decide (d = e) := by
          by_cases z : d = e
          · rw [z]; simp
          · rw [decide_eq_false z, decide_eq_false (fun h => z (V.int.inj h))]
        show Q (.bl (decide (V.int d = V.int e))) H
        rw [e2]
        exact q
      · rw [decide_eq_false e1, Bool.false_and] at q
        rw [decide_eq_false (fun h : V.int u = V.int v => e1 (V.int.inj h))]
        exact iteF q
    · refine ⟨_, rfl, _, _, _, _, _, rfl, .own _, .base (.int i), T.is_R.kt "int" (by decide), _, rfl, iteF ?_⟩
      refine ⟨_, rfl, _, rfl, .inl ⟨⟨i, rfl⟩, _, rfl, iteT ?_⟩⟩
      refine ⟨_, rfl, a, _, dx, _, _, rfl, ha, T.cl_R, T.nB_R, rf_bot _ _, rfl, _, rfl, ?_⟩
      by_cases e1 : d = 1
      · rw [decide_eq_true e1, Bool.true_and] at q
        rw [decide_eq_true (show V.int d = V.int 1 by rw [e1])]
        refine iteT ⟨_, rfl, a, _, dx, _, _, rfl, ha, T.cl_R, T.nT_R, rf_top _ _, _, rfl, rfl, ?_⟩
        have e2 : decide (V.int u = V.int i) = decide (u = i) := by
          by_cases z : u = i
          · rw [z]; simp
          · rw [decide_eq_false z, decide_eq_false (fun h => z (V.int.inj h))]
        show Q (.bl (decide (V.int u = V.int i))) H
        rw [e2]
        exact q
      · rw [decide_eq_false e1, Bool.false_and] at q
        rw [decide_eq_false (fun h : V.int d = V.int 1 => e1 (V.int.inj h))]
        exact iteF q
    · obtain ⟨X, hX, ty, _⟩ := hN.ty (K := K)
      refine ⟨_, rfl, _, _, _, _, _, rfl, .own _, ty, T.is_R.kt X hX, _, rfl, iteF ?_⟩
      exact ⟨_, rfl, _, rfl, .inr ⟨hN, _, rfl, iteF q⟩⟩
theorem ok_Ratio_add (T : Tx K mg) : FnOk P w K mg base CX0 4 (He.ma K (He.ga K "Ratio") "__add__") T.fd_Ratio_add ["self", "other"] (spAdd K) := by
  refine T.F_Ratio_add.ok sc_Ratio_add (fun vs H Q E h => ?_) (fun cdv A outer s H vs Q E hr h => ?_)
  · obtain ⟨a, y, u, d, v, e, rfl, _⟩ := h
    rfl
  · obtain ⟨a, y, u, d, v, e, rfl, ha, hy, hd, he, zu, zd, zv, ze, q⟩ := h
    refine ⟨_, (pss_cons (ps_set (i := 2) sc_Ratio_add.nd rfl (.inl rfl) (pe_call (ok_as_ratio T) (hr.mono (by decide)) (by rfl) T.g_as_ratio T.F_as_ratio.kp T.b_as_ratio .nil pass0 (pa_cons (pv 1) pa_nil)))
      (pss_one (ps_ret (pe_make T.mk_R (ok_Ratio_init T) (hr.mono (by decide)) (by rfl) T.c_Ratio (bind_init2 T) .nil pass0 (pa_cons (pe_op op_add (pe_op op_mulW (pe_fld (pv 0) rfl) (pe_fld (pv 2) rfl)) (pe_op op_mulW (pe_fld (pv 2) rfl) (pe_fld (pv 0) rfl))) (pa_cons (pe_op op_mulW (pe_fld (pv 0) rfl) (pe_fld (pv 2) rfl)) pa_nil)))))), ?_⟩
    refine ⟨_, rfl, y, v, e, rfl, hy, fun b H' sm hb => ?_⟩
    obtain ⟨dx, ha'⟩ := ha.same sm
    obtain ⟨dy, hb'⟩ := hb
    exact ⟨_, rfl, a, _, dx, _, _, rfl, ha', T.cl_R, T.nT_R, rf_top _ _, _, rfl, b, _, dy, _, _, rfl, hb', T.cl_R, T.nB_R, rf_bot _ _, _, _, rfl, rfl, FoM.Sz.mulok zu ze, _, rfl, b, _, dy, _, _, rfl, hb', T.cl_R, T.nT_R, rf_top _ _, _, rfl, a, _, dx, _, _, rfl, ha', T.cl_R, T.nB_R, rf_bot _ _, _, _, rfl, rfl, FoM.Sz.mulok zv zd, _, _, rfl, rfl,
      _, rfl, a, _, dx, _, _, rfl, ha', T.cl_R, T.nB_R, rf_bot _ _, _, rfl, b, _, dy, _, _, rfl, hb', T.cl_R, T.nB_R, rf_bot _ _, _, _, rfl, rfl, FoM.Sz.mulok zd ze, rd_make (Int.mul_ne_zero hd he) ((zd.mul ze).mono (by decide)) fun p H2 np sm2 hR => q p H2 (sm.free np) (sm.trans sm2) hR⟩
theorem ok_Ratio_mul (T : Tx K mg) : FnOk P w K mg base CX0 4 (He.ma K (He.ga K "Ratio") "__mul__") T.fd_Ratio_mul ["self", "other"] (spMul K) := by
  refine T.F_Ratio_mul.ok sc_Ratio_mul (fun vs H Q E h => ?_) (fun cdv A outer s H vs Q E hr h => ?_)
  · obtain ⟨a, y, u, d, v, e, rfl, _⟩ := h
    rfl
  · obtain ⟨a, y, u, d, v, e, rfl, ha, hy, hd, he, zu, zd, zv, ze, q⟩ := h
    refine ⟨_, (pss_cons (ps_set (i := 2) sc_Ratio_mul.nd rfl (.inl rfl) (pe_call (ok_as_ratio T) (hr.mono (by decide)) (by rfl) T.g_as_ratio T.F_as_ratio.kp T.b_as_ratio .nil pass0 (pa_cons (pv 1) pa_nil)))
      (pss_one (ps_ret (pe_make T.mk_R (ok_Ratio_init T) (hr.mono (by decide)) (by rfl) T.c_Ratio (bind_init2 T) .nil pass0 (pa_cons (pe_op op_mulW (pe_fld (pv 0) rfl) (pe_fld (pv 2) rfl)) (pa_cons (pe_op op_mulW (pe_fld (pv 0) rfl) (pe_fld (pv 2) rfl)) pa_nil)))))), ?_⟩
    refine ⟨_, rfl, y, v, e, rfl, hy, fun b H' sm hb => ?_⟩
    obtain ⟨dx, ha'⟩ := ha.same sm
    obtain ⟨dy, hb'⟩ := hb
    exact ⟨_, rfl, a, _, dx, _, _, rfl, ha', T.cl_R, T.nT_R, rf_top _ _, _, rfl, b, _, dy, _, _, rfl, hb', T.cl_R, T.nT_R, rf_top _ _, _, _, rfl, rfl, FoM.Sz.mulok zu zv,
      _, rfl, a, _, dx, _, _, rfl, ha', T.cl_R, T.nB_R, rf_bot _ _, _, rfl, b, _, dy, _, _, rfl, hb', T.cl_R, T.nB_R, rf_bot _ _, _, _, rfl, rfl, FoM.Sz.mulok zd ze, rd_make (Int.mul_ne_zero hd he) ((zd.mul ze).mono (by decide)) fun p H2 np sm2 hR => q p H2 (sm.free np) (sm.trans sm2) hR⟩
theorem ok_Ratio_neg (T : Tx K mg) : FnOk P w K mg base CX0 3 (He.ma K (He.ga K "Ratio") "__neg__") T.fd_Ratio_neg ["self"] (spNeg K) := by
  refine T.F_Ratio_neg.ok sc_Ratio_neg (fun vs H Q E h => ?_) (fun cdv A outer s H vs Q E hr h => ?_)
  · obtain ⟨a, u, d, rfl, _⟩ := h
    rfl
  · obtain ⟨a, u, d, rfl, ⟨dx, ha'⟩, hd, hz, q⟩ := h
    refine ⟨_, (pss_one (ps_ret (pe_make T.mk_R (ok_Ratio_init T) (hr.mono (by decide)) (by rfl) T.c_Ratio (bind_init2 T) .nil pass0 (pa_cons (pe_un un_neg (pe_fld (pv 0) rfl)) (pa_cons (pe_fld (pv 0) rfl) pa_nil))))), ?_⟩
    exact ⟨_, rfl, a, _, dx, _, _, rfl, ha', T.cl_R, T.nT_R, rf_top _ _, _, rfl, _, rfl, a, _, dx, _, _, rfl, ha', T.cl_R, T.nB_R, rf_bot _ _, rd_make hd hz q⟩
end

/-! ### the class Ratio, with rational numbers -/
def RtAt (K : PySem.W.Frag) (H : Hp) (p : Addr) (r : Rat) : Prop := RatAt K H p r.num r.den
theorem RtAt.same {K : PySem.W.Frag} {H H' : Hp} {p : Addr} {r : Rat} (h : RtAt K H p r) (e : Same H H') : RtAt K H' p r := RatAt.same h e
def NmV (K : PySem.W.Frag) (H : Hp) (y : V) (r : Rat) : Prop := (∃ b, y = .ref b ∧ RtAt K H b r) ∨ (∃ i : Int, y = .int i ∧ r = (i : Rat))
theorem NmV.num {K : PySem.W.Frag} {H : Hp} {y : V} {r : Rat} (h : NmV K H y r) : NumV K H y r.num r.den := by
  rcases h with ⟨b, rfl, hb⟩ | ⟨i, rfl, rfl⟩
  · exact .inl ⟨b, rfl, hb⟩
  · refine .inr ⟨?_, ?_⟩
    · rw [Rat.num_intCast]
    · rw [Rat.den_intCast]
      rfl
theorem NmV.same {K : PySem.W.Frag} {H H' : Hp} {y : V} {r : Rat} (h : NmV K H y r) (s : Same H H') : NmV K H' y r := by
  rcases h with ⟨b, h1, h2⟩ | h
  · exact .inl ⟨b, h1, h2.same s⟩
  · exact .inr h
theorem RtAt.nm {K : PySem.W.Frag} {H : Hp} {p : Addr} {r : Rat} (h : RtAt K H p r) : NmV K H (.ref p) r := .inl ⟨p, rfl, h⟩
theorem rt_of {K : PySem.W.Frag} {H : Hp} {p : Addr} {u d : Int} {r : Rat} (h : d ≠ 0) (e : Rat.divInt u d = r) (q : RatAt K H p (FoM.frN u d) (FoM.frD u d)) : RtAt K H p r := by
  rw [(FoQ.fr_of h e).1, (FoQ.fr_of h e).2] at q
  exact q
def spInitQ (K : PySem.W.Frag) : Sp := fun vs H Q _ => ∃ (p dx : Addr) (t b : Int), vs = [.ref p, .int t, .int b] ∧ H p = some (.ins (RC K) dx []) ∧ b ≠ 0 ∧ FoM.Sz 4000 b ∧ ∀ H', RtAt K H' p (Rat.divInt t b) → But p H H' → Q .non H'
def spTopQ (K : PySem.W.Frag) : Sp := fun vs H Q _ => ∃ (a : Addr) (r : Rat), vs = [.ref a] ∧ RtAt K H a r ∧ Q (.int r.num) H
def spBotQ (K : PySem.W.Frag) : Sp := fun vs H Q _ => ∃ (a : Addr) (r : Rat), vs = [.ref a] ∧ RtAt K H a r ∧ Q (.int r.den) H
def spAsQ (K : PySem.W.Frag) : Sp := fun vs H Q _ => ∃ (y : V) (r : Rat), vs = [y] ∧ NmV K H y r ∧ ∀ b H', Same H H' → RtAt K H' b r → Q (.ref b) H'
def spEqQ (K : PySem.W.Frag) : Sp := fun vs H Q _ => ∃ (a : Addr) (y : V) (x : Rat), vs = [.ref a, y] ∧ RtAt K H a x ∧ ((∃ z, NmV K H y z ∧ Q (.bl (decide (x = z))) H) ∨ (NoNum H y ∧ Q (.bl false) H))
def spOpQ (K : PySem.W.Frag) (f : Rat → Rat → Rat) (C : Rat → Prop) : Sp := fun vs H Q _ => ∃ (a : Addr) (y : V) (x z : Rat), vs = [.ref a, y] ∧ RtAt K H a x ∧ NmV K H y z ∧ C z ∧ FoQ.SzR 1900 x ∧ FoQ.SzR 1900 z ∧
  ∀ p H', H p = none → Same H H' → RtAt K H' p (f x z) → Q (.ref p) H'
def spCmpQ (K : PySem.W.Frag) (f : Rat → Rat → Bool) : Sp := fun vs H Q _ => ∃ (a : Addr) (y : V) (x z : Rat), vs = [.ref a, y] ∧ RtAt K H a x ∧ NmV K H y z ∧ FoQ.SzR 1900 x ∧ FoQ.SzR 1900 z ∧ ∀ H', Same H H' → Q (.bl (f x z)) H'
def spNegQ (K : PySem.W.Frag) : Sp := fun vs H Q _ => ∃ (a : Addr) (x : Rat), vs = [.ref a] ∧ RtAt K H a x ∧ FoQ.SzR 4000 x ∧ ∀ p H', H p = none → Same H H' → RtAt K H' p (-x) → Q (.ref p) H'
def spSignQ (K : PySem.W.Frag) : Sp := fun vs H Q _ => ∃ (y : V) (r : Rat), vs = [y] ∧ NmV K H y r ∧ ∀ H', Same H H' → Q (.int (sgn r.num)) H'
theorem eq_bool {x z : Rat} : (decide (x.num = z.num) && decide ((x.den : Int) = z.den)) = decide (x = z) := by
  by_cases h : x = z
  · subst h
    simp
  · rw [decide_eq_false h]
    cases e : (decide (x.num = z.num) && decide ((x.den : Int) = z.den)) with
    | false => rfl
    | true =>
      rw [Bool.and_eq_true] at e
      exact absurd ((FoQ.q_eq_iff x z).mp ⟨of_decide_eq_true e.1, of_decide_eq_true e.2⟩) h
section
variable {P : Program} {w : World} {K : PySem.W.Frag} {mg : Str → Option Value} {base : Heap}
theorem ok_initQ (T : Tx K mg) : FnOk P w K mg base CX0 1 (He.ma K (He.ga K "Ratio") "__init__") T.fd_Ratio_init ["self", "top", "bottom"] (spInitQ K) := (ok_Ratio_init T).imp fun vs H Q E h => by
  obtain ⟨p, dx, t, b, e, hp, hb, hz, q⟩ := h
  exact ⟨p, dx, t, b, e, hp, hb, hz, fun H' hR bt => q H' (rt_of hb rfl hR) bt⟩
/-- what a call of Ratio asks -/
theorem rq_make {H : Hp} {t b : Int} {r : Rat} {R : Addr → VK} {E : XK} (hb : b ≠ 0) (hz : FoM.Sz 4000 b) (e : Rat.divInt t b = r) (q : ∀ p H', H p = none → Same H H' → RtAt K H' p r → R p .non H') :
    ∀ x dx, H x = none → H dx = none → dx ≠ x → spInitQ K [.ref x, .int t, .int b] (upd (upd H dx (.own x)) x (.ins (RC K) dx [])) (R x) E := fun x dx nx ndx ne =>
  ⟨x, dx, t, b, rfl, upd_same, hb, hz, fun H' hR hB => q x H' nx (Same.made nx ndx hB) (by rw [← e]; exact hR)⟩
theorem ok_topQ (T : Tx K mg) : FnOk P w K mg base CX0 1 (FoZ.pg K "Ratio" "top") T.fd_Ratio_top ["self"] (spTopQ K) := (ok_Ratio_top T).imp fun vs H Q E h => by
  obtain ⟨a, r, e, ha, q⟩ := h
  exact ⟨a, r.num, r.den, e, ha, q⟩
theorem ok_bottomQ (T : Tx K mg) : FnOk P w K mg base CX0 1 (FoZ.pg K "Ratio" "bottom") T.fd_Ratio_bottom ["self"] (spBotQ K) := (ok_Ratio_bottom T).imp fun vs H Q E h => by
  obtain ⟨a, r, e, ha, q⟩ := h
  exact ⟨a, r.num, r.den, e, ha, q⟩
theorem ok_asQ (T : Tx K mg) : FnOk P w K mg base CX0 3 (He.ga K "as_ratio") T.fd_as_ratio ["given"] (spAsQ K) := (ok_as_ratio T).imp fun vs H Q E h => by
  obtain ⟨y, r, e, hy, q⟩ := h
  exact ⟨y, r.num, r.den, e, hy.num, q⟩
theorem ok_eqQ (T : Tx K mg) : FnOk P w K mg base CX0 2 (He.ma K (He.ga K "Ratio") "__eq__") T.fd_Ratio_eq ["self", "other"] (spEqQ K) := (ok_Ratio_eq T).imp fun vs H Q E h => by
  obtain ⟨a, y, x, e, ha, h⟩ := h
  refine ⟨a, y, x.num, x.den, e, ha, ?_⟩
  rcases h with ⟨z, ⟨b, rfl, hb⟩ | ⟨i, rfl, rfl⟩, q⟩ | h
  · exact .inl ⟨b, z.num, z.den, rfl, hb, by rw [eq_bool]; exact q⟩
  · refine .inr (.inl ⟨i, rfl, ?_⟩)
    have e2 : (decide ((x.den : Int) = 1) && decide (x.num = i)) = decide (x = (i : Rat)) := by
      rw [← eq_bool, Rat.num_intCast, Rat.den_intCast, Bool.and_comm]
      rfl
    rw [e2]
    exact q
  · exact .inr (.inr h)
theorem ok_addQ (T : Tx K mg) : FnOk P w K mg base CX0 4 (He.ma K (He.ga K "Ratio") "__add__") T.fd_Ratio_add ["self", "other"] (spOpQ K (· + ·) fun _ => True) := (ok_Ratio_add T).imp fun vs H Q E h => by
  obtain ⟨a, y, x, z, e, ha, hy, _, hx, hz, q⟩ := h
  exact ⟨a, y, x.num, x.den, z.num, z.den, e, ha, hy.num, FoQ.den_ne x, FoQ.den_ne z, hx.1, hx.2, hz.1, hz.2, fun p H' n s hR => q p H' n s (rt_of (Int.mul_ne_zero (FoQ.den_ne x) (FoQ.den_ne z)) (FoQ.q_add x z) hR)⟩
theorem ok_mulQ (T : Tx K mg) : FnOk P w K mg base CX0 4 (He.ma K (He.ga K "Ratio") "__mul__") T.fd_Ratio_mul ["self", "other"] (spOpQ K (· * ·) fun _ => True) := (ok_Ratio_mul T).imp fun vs H Q E h => by
  obtain ⟨a, y, x, z, e, ha, hy, _, hx, hz, q⟩ := h
  exact ⟨a, y, x.num, x.den, z.num, z.den, e, ha, hy.num, FoQ.den_ne x, FoQ.den_ne z, hx.1, hx.2, hz.1, hz.2, fun p H' n s hR => q p H' n s (rt_of (Int.mul_ne_zero (FoQ.den_ne x) (FoQ.den_ne z)) (FoQ.q_mul x z) hR)⟩
theorem ok_negQ (T : Tx K mg) : FnOk P w K mg base CX0 3 (He.ma K (He.ga K "Ratio") "__neg__") T.fd_Ratio_neg ["self"] (spNegQ K) := (ok_Ratio_neg T).imp fun vs H Q E h => by
  obtain ⟨a, x, e, ha, hx, q⟩ := h
  exact ⟨a, x.num, x.den, e, ha, FoQ.den_ne x, hx.2, fun p H' n s hR => q p H' n s (rt_of (FoQ.den_ne x) (FoQ.q_neg x) hR)⟩
end

end Fo

set_option maxHeartbeats 4100000
/-! A method without arguments whose exceptions are wished for at the caller's slots. -/
namespace FoC2
open PySem PySem.Spec PyProof.Rows L2
section
variable {X : Cx} {CX : CXT} {k : Nat} {f C : Addr} {fd : FuncData} {ps : List Str} {sp : Sp} {dvs : List V} {ds : List Value} {E : L2.St → XK} {m : Str} {pos apos : Pos} {o : Expr} {ta : TE}
theorem pe_methS0 {pl : Sem Bool} (he : PE X o ta) (c : Cls X.K C) (hm : Meth X.K C m f) (F : FnOk X.prog X.w X.K X.mg X.base CX k f fd ps sp) (hr : Room k X.A) (hb : Binds X.K fd ps ds) (hd : Vals dvs ds) (hx : ∀ τ, PassesAt CX X τ (E τ))
    (ht : eval (.Call (.Attribute o m apos) [] [] pos) X.env = (do
      let ov ← eval o X.env
      standAt apos.atName
      let (f, first) ← holding [ov] (getMethod ov m pl)
      callWith pos f first (backTo pos (starEach [] X.env)) (backToKw pos (keywordEach [] X.env))) := by rfl) :
    PE X (.Call (.Attribute o m apos) [] [] pos) (FoC.tMethS C m sp dvs E ta tNil) := by
  refine ⟨fun pz s τ H Q I h => ?_⟩
  refine PySem.W.methodCall_KW (pl := pl) (thn (he.run pz s τ H _ I h) fun u s1 ⟨x, H1, J1, rx, a, dx, fs, ex, ea, l, q⟩ => ?_) ht
  subst ex
  obtain rfl : u = Value.ref a := rx
  refine getmeth_ok J1 ea c hm l ?_
  exact PySem.W.callWith_K0 (first := [.ref a]) J1.kIn hm.kp (run_fnSD (us := [.ref a]) (vs := [.ref a]) F hr hb hd (hx τ) J1 (.cons rfl .nil) q)
end
end FoC2

set_option maxHeartbeats 4100000
/-! sorted(.., key=f) where the keys are whole numbers or texts: sorted and stable. -/
namespace FoSrt
open PySem PyProof.Rows Srt SrtO
section
variable {prog : Program} {w : World} {A : Around} {E : Value → Shared → Prop} {s : Shared} {lt : Keyed → Keyed → Bool} {Kr : Value → Value → Prop} {a : Addr} {vs : List Value} {f : Value} {R : PySem.Fin → Shared → Prop}
/-- the sorted pairs, in the order of their keys -/
def Done (lt : Keyed → Keyed → Bool) (Kr : Value → Value → Prop) (vs : List Value) (out : List Keyed) : Prop :=
  ∃ ks : List Value, ks.length = vs.length ∧ (∀ (i : Nat) (v k : Value), vs[i]? = some v → ks[i]? = some k → Kr v k) ∧ Srtd lt out ∧ Stb lt out (ks.zip vs)
theorem zip_kr {ks vs : List Value} (h : ∀ (i : Nat) (v k : Value), vs[i]? = some v → ks[i]? = some k → Kr v k) : ∀ p ∈ ks.zip vs, Kr p.2 p.1 := by
  intro p hp
  obtain ⟨i, hi, e⟩ := List.mem_iff_getElem.mp hp
  rw [List.getElem_zip] at e
  rw [List.length_zip] at hi
  rw [← e]
  exact h i _ _ (List.getElem?_eq_getElem (by omega)) (List.getElem?_eq_getElem (by omega))
theorem short_srt {l : List Keyed} (h : l.length < 2) : Srtd lt l := by
  match l, h with
  | [], _ => exact List.Pairwise.nil
  | [x], _ => exact List.pairwise_singleton _ _
  | _ :: _ :: l, h => exact absurd h (by simp)
theorem key_end {kS : Addr} {e1 e2 : Nat} {ks : List Value} (O : Swo lt) (na : s.heap.get? a = some (seqObj "list" #[] e1)) (nk : s.heap.get? kS = some (seqObj "list" ks.toArray e2)) (ne : kS ≠ a) (hz : vs.length ≤ 1000) (hl : ks.length = vs.length)
    (hr : ∀ (i : Nat) (v k : Value), vs[i]? = some v → ks[i]? = some k → Kr v k) (hk : 2 ≤ ks.length → keyKind' ks.toArray = pure oneType') (hc : Cmp prog w A s oneType' (fun p => Kr p.2 p.1) lt)
    (h : ∀ h' out c, (∀ b o, b ≠ a → b ≠ kS → s.heap.get? b = some o → h'.get? b = some o) → h'.get? a = some (seqObj "list" (out.map (·.2)).toArray c) → Done lt Kr vs out → R (.done (.ret .none)) { s with heap := h' }) :
    wpAny (model prog w) A (ksk_end a false vs.toArray e1 (.ref kS) ks.toArray) R E s := by
  have hzip : (ks.toArray.zip vs.toArray).toList = ks.zip vs := ksk_zip _ _
  have tail : ∀ st : SortSt, Srtd lt (arrOf st).toList → Stb lt (arrOf st).toList (ks.zip vs) → failedOf st = none → wpAny (model prog w) A (ksk_tail a false e1 (.ref kS) st) R E s := fun st h1 h2 h3 => by
    have hn := h2.len
    rw [List.length_zip, Array.length_toList] at hn
    have s1 := Heap.SameBut.update s.heap kS (Obj.mapSeq fun _ => (#[] : Array Value))
    have na1 := (s1.2 a (Ne.symm ne)).trans na
    have s2 := Heap.SameBut.update (s.heap.update kS (Obj.mapSeq fun _ => (#[] : Array Value))) a (Obj.mapSeq fun _ => (arrOf st).map (·.2))
    obtain ⟨c2, hc2⟩ : ∃ c2, ((s.heap.update kS (Obj.mapSeq fun _ => (#[] : Array Value))).update a (Obj.mapSeq fun _ => (arrOf st).map (·.2))).get? a = some (seqObj "list" ((arrOf st).map (·.2)) c2) := ⟨_, get?_update_seq na1 fun _ => (arrOf st).map (·.2)⟩
    unfold ksk_tail
    try dsimp only
    refine wpAny_bind (listUpdate_at nk rfl ?_ (by rw [List.size_toArray, sizeLine_eq]; omega) (Nat.zero_le _))
    refine wpAny_bind (wpAny_letGo ?_)
    refine wpAny_bind (seqEpoch_at na1 rfl ?_)
    refine wpAny_bind (listUpdate_at na1 rfl ?_ (Nat.zero_le _) (by simp only [Bool.false_eq_true, if_false, Array.size_map]; rw [sizeLine_eq]; omega))
    rw [h3]
    simp only [bne_self_eq_false, Bool.false_eq_true, if_false]
    refine wpAny_pure (h _ (arrOf st).toList c2 (fun b o b1 b2 e => (s2.2 b b1).trans ((s1.2 b b2).trans e)) ?_ ⟨ks, hl, hr, h1, h2⟩)
    rw [hc2]
    rw [show ((arrOf st).toList.map (fun x : Keyed => x.2)).toArray = (arrOf st).map (fun x : Keyed => x.2) from Array.ext' (by simp)]
  have step : ∀ t : Sem PySem.Fin, wpAny (model prog w) A t R E s → wpAny (model prog w) A (if false = true then (do let _ ← rule "list.sort.reverse"; t) else t) R E s := by
    intro t ht
    exact ht
  unfold ksk_end
  try dsimp only
  refine step _ ?_
  by_cases h2 : vs.toArray.size < 2
  · rw [if_pos h2, if_pos h2]
    refine wpAny_bind (wpAny_pure ?_)
    rw [StateT.run_pure]
    refine wpAny_bind (wpAny_pure ?_)
    try dsimp only
    rw [List.size_toArray] at h2
    refine tail (SortSt.mk' general' (ks.toArray.zip vs.toArray) #[] 7 none) ?_ ?_ rfl
    · show Srtd lt (ks.toArray.zip vs.toArray).toList
      rw [hzip]
      exact short_srt (by rw [List.length_zip]; omega)
    · show Stb lt (ks.toArray.zip vs.toArray).toList _
      rw [hzip]
      exact Stb.refl _
  · rw [if_neg h2, if_neg h2]
    rw [List.size_toArray] at h2
    rw [hk (by omega)]
    refine wpAny_bind (wpAny_pure ?_)
    refine wpAny_bind (wpAny_mono (wpS_sortO (st0 := SortSt.mk' oneType' (ks.toArray.zip vs.toArray) #[] 7 none)
      (Q := fun _ st' => Srtd lt (arrOf st').toList ∧ Stb lt (arrOf st').toList (ks.zip vs) ∧ failedOf st' = none) O hc rfl ?_ rfl rfl fun st' b1 b2 b3 => ⟨b1, by rw [← hzip]; exact b2, b3⟩) ?_ fun _ _ e => e)
    · show AllL _ (ks.toArray.zip vs.toArray).toList
      rw [hzip]
      exact zip_kr hr
    · rintro ⟨⟨⟩, st'⟩ s' ⟨rfl, g1, g2, g3⟩
      try dsimp only
      exact tail st' g1 g2 g3
theorem key_rest (O : Swo lt) (na : s.heap.get? a = some (seqObj "list" #[] e1)) (nk : s.heap.get? kS = some (seqObj "list" #[] 0)) (ne : kS ≠ a) (hz : vs.length ≤ 1000)
    (turn : ∀ (i : Nat) (v : Value), vs[i]? = some v → ∀ (h : Heap) (tk : Nat), wpAny (model prog w) A (call f [v]) (fun k s' => ∃ tk2, s' = { s with heap := h, toks := tk2 } ∧ Kr v k) (fun _ _ => False) { s with heap := h, toks := tk })
    (hk : ∀ ks : List Value, ks.length = vs.length → (∀ (i : Nat) (v k : Value), vs[i]? = some v → ks[i]? = some k → Kr v k) → 2 ≤ ks.length → keyKind' ks.toArray = pure oneType')
    (hc : ∀ (h : Heap) (tk : Nat), Cmp prog w A { s with heap := h, toks := tk } oneType' (fun p => Kr p.2 p.1) lt)
    (h : ∀ h' tk out c, (∀ b o, b ≠ a → b ≠ kS → s.heap.get? b = some o → h'.get? b = some o) → h'.get? a = some (seqObj "list" (out.map (·.2)).toArray c) → Done lt Kr vs out → R (.done (.ret .none)) { s with heap := h', toks := tk }) :
    wpAny (model prog w) A (ksk_rest a f false vs.toArray e1 (.ref kS)) R E s := by
  unfold ksk_rest
  refine wpAny_bind (wpAny_rule ?_)
  first
    | rw [List.forIn_toArray]
    | (rw [← Array.forIn_toList]; simp only [List.toList_toArray])
    | rw [← Array.forIn_toList]
  refine wpAny_bind (ksk_fold (fun i s' => ∃ (h' : Heap) (tk : Nat) (ks : List Value) (e : Nat), s' = { s with heap := h', toks := tk } ∧ (∀ b o, b ≠ kS → s.heap.get? b = some o → h'.get? b = some o) ∧ h'.get? kS = some (seqObj "list" ks.toArray e) ∧ ks.length = i ∧
      (∀ (i : Nat) (v k : Value), vs[i]? = some v → ks[i]? = some k → Kr v k)) vs 0 s
    ⟨s.heap, s.toks, [], 0, rfl, fun b o _ e => e, nk, rfl, fun i v k _ e => absurd e (by simp)⟩ ?step ?done)
  case step =>
    rintro j x s' hx ⟨h', tk, ks, e, rfl, keep, nk', hl, hr⟩
    simp only [Nat.zero_add] at hl ⊢
    have hj : j < vs.length := (List.getElem?_eq_some_iff.mp hx).1
    refine wpAny_bind (wpAny_attempt (wpAny_mono (turn j x hx h' tk) (fun v s'' he => ?_) fun _ _ hF => hF.elim))
    obtain ⟨tk2, rfl, hv⟩ := he
    try dsimp only
    have s1 := Heap.SameBut.update h' kS (Obj.mapSeq (·.push v))
    obtain ⟨c2, hc2⟩ : ∃ c2, (h'.update kS (Obj.mapSeq (·.push v))).get? kS = some (seqObj "list" (ks.toArray.push v) c2) := ⟨_, get?_update_seq nk' (·.push v)⟩
    refine wpAny_bind (listUpdate_at nk' rfl ?_ (by rw [List.size_toArray, sizeLine_eq]; omega) (Nat.le_trans (Nat.le_of_eq (Array.size_push ..)) (by rw [List.size_toArray, sizeLine_eq]; omega)))
    refine wpAny_pure ⟨rfl, _, _, ks ++ [v], c2, rfl, fun b o hb e => (s1.2 b hb).trans (keep b o hb e), ?_, by rw [List.length_append, hl]; rfl, fun i u k hu hk' => ?_⟩
    · rw [hc2]
      simp
    · by_cases hi : i < ks.length
      · rw [List.getElem?_append_left hi] at hk'
        exact hr i u k hu hk'
      · rw [List.getElem?_append_right (by omega)] at hk'
        have hi2 : i = j := by
          have := (List.getElem?_eq_some_iff.mp hk').1
          have z : ([v] : List Value).length = 1 := rfl
          omega
        subst hi2
        rw [hl, Nat.sub_self] at hk'
        cases hk'
        rw [hx] at hu
        cases hu
        exact hv
  case done =>
    rintro s' ⟨h', tk, ks, e, rfl, keep, nk', hl, hr⟩
    have hl' : ks.length = vs.length := by omega
    try dsimp only
    refine wpAny_bind (listItems_at nk' rfl ?_)
    exact key_end O ((keep _ _ (Ne.symm ne) na)) nk' ne hz hl' hr (fun h2 => hk ks hl' hr h2) (hc _ _) fun h3 out c k3 q3 d3 => h h3 tk out c (fun b o b1 b2 e => k3 b o b1 b2 (keep b o b2 e)) q3 d3
theorem key_tree {n : Nat} (O : Swo lt) (ho : s.heap.get? a = some (seqObj "list" vs.toArray n)) (hz : vs.length ≤ 1000)
    (turn : ∀ (i : Nat) (v : Value), vs[i]? = some v → ∀ (h : Heap) (tk : Nat), wpAny (model prog w) A (call f [v]) (fun k s' => ∃ tk2, s' = { s with heap := h, toks := tk2 } ∧ Kr v k) (fun _ _ => False) { s with heap := h, toks := tk })
    (hk : ∀ ks : List Value, ks.length = vs.length → (∀ (i : Nat) (v k : Value), vs[i]? = some v → ks[i]? = some k → Kr v k) → 2 ≤ ks.length → keyKind' ks.toArray = pure oneType')
    (hc : ∀ (h : Heap) (tk : Nat), Cmp prog w A { s with heap := h, toks := tk } oneType' (fun p => Kr p.2 p.1) lt)
    (h : ∀ h' tk out c, (∀ b o, b ≠ a → s.heap.get? b = some o → h'.get? b = some o) → h'.get? a = some (seqObj "list" (out.map (·.2)).toArray c) → Done lt Kr vs out → R (.done (.ret .none)) { s with heap := h', toks := tk }) :
    wpAny (model prog w) A (ksk_tree a f false) R E s := by
  have ha : a < s.heap.objs.size := Heap.lt_size ho
  have s1 := Heap.SameBut.update s.heap a (Obj.mapSeq fun _ => (#[] : Array Value))
  obtain ⟨e1, ho1⟩ : ∃ e1, (s.heap.update a (Obj.mapSeq fun _ => (#[] : Array Value))).get? a = some (seqObj "list" #[] e1) := ⟨_, get?_update_seq ho fun _ => #[]⟩
  have hkS : ((s.heap.update a (Obj.mapSeq fun _ => (#[] : Array Value))).push (seqObj "tuple" vs.toArray 0)).objs.size = s.heap.objs.size + 1 := by rw [size_push', Heap.size_update]
  unfold ksk_tree
  refine wpAny_bind (listItems_at ho rfl ?_)
  refine wpAny_bind (listUpdate_at ho rfl ?_ (by rw [List.size_toArray, sizeLine_eq]; omega) (Nat.zero_le _))
  refine wpAny_bind (seqEpoch_at ho1 rfl ?_)
  refine wpAny_bind (wpAny_newTuple ?_ (by show vs.length ≤ _; rw [sizeLine_eq]; omega))
  refine wpAny_bind (wpAny_newList ?_ (Nat.zero_le _))
  refine wpAny_holding ?_
  refine key_rest (s := { s with heap := ((s.heap.update a (Obj.mapSeq fun _ => (#[] : Array Value))).push (seqObj "tuple" vs.toArray 0)).push (seqObj "list" #[] 0) }) (kS := ((s.heap.update a (Obj.mapSeq fun _ => (#[] : Array Value))).push (seqObj "tuple" vs.toArray 0)).objs.size)
    O (Heap.get?_push_of_some _ (Heap.get?_push_of_some _ ho1)) (Heap.get?_push_size _ rfl) (by rw [hkS]; exact Nat.ne_of_gt (Nat.lt_succ_of_lt ha)) hz turn hk hc fun h' tk out c k1 q1 d1 => h h' tk out c (fun b o hb e => k1 b o hb ?_ ?_) q1 d1
  · rw [hkS]
    exact Nat.ne_of_lt (Nat.lt_succ_of_lt (Heap.lt_size e))
  · exact Heap.get?_push_of_some _ (Heap.get?_push_of_some _ ((s1.2 b hb).trans e))
end
end FoSrt

set_option maxHeartbeats 4100000
/-! sorted(e, key=len), sorted(e, key=str) of texts: lists, and dicts by their keys. -/
namespace FoSrt
open PySem PyProof.Rows Srt SrtO
/-- what is asked of a key, and the order that it gives among texts -/
structure KeyFn (prog : Program) (w : World) (f : Value) (ord : Str → Str → Bool) where
  Kr : Value → Value → Prop
  lt : Keyed → Keyed → Bool
  back : Str → Value
  swo : Swo lt
  tree : ∀ x : Addr, Builtin.«list.sort» ⟨[.ref x], [(Str.ofString "key", f)]⟩ = ksk_tree x f false
  turn : ∀ (A : Around) (x : Str) (t : Tok) (s : Shared), x.length ≤ 1000 → wpAny (model prog w) A (call f [.str x t]) (fun k s' => ∃ tk2, s' = { s with toks := tk2 } ∧ Kr (.str x t) k) (fun _ _ => False) s
  kind : ∀ ks : List Value, (∀ k ∈ ks, ∃ x t, Kr (.str x t) k) → 2 ≤ ks.length → keyKind' ks.toArray = pure oneType'
  cmp : ∀ (A : Around) (s : Shared), Cmp prog w A s oneType' (fun p => ∃ x t, p.2 = .str x t ∧ Kr (.str x t) p.1) lt
  rel : ∀ (k1 k2 u1 u2 : Value) (x1 x2 : Str) (t1 t2 : Tok), Kr (.str x1 t1) k1 → Kr (.str x2 t2) k2 → lt (k1, u1) (k2, u2) = ord x1 x2
  bk : ∀ x : Str, Kr (.str x 0) (back x)
section
variable {ord : Str → Str → Bool} {lt : Keyed → Keyed → Bool} {P : Keyed → Prop}
theorem srtd_strs (f : Keyed → Str) (hl : ∀ p q, P p → P q → lt p q = ord (f p) (f q)) {out : List Keyed} (hP : ∀ p ∈ out, P p) (h : Srtd lt out) : Srtd ord (out.map f) := by
  refine List.pairwise_map.mpr (List.Pairwise.imp_of_mem (fun {p q} hp hq e => ?_) h)
  rw [← hl q p (hP q hq) (hP p hp)]
  exact e
theorem stb_strs (f : Keyed → Str) (c : Str → Keyed) (hl : ∀ p q, P p → P q → lt p q = ord (f p) (f q)) (hc : ∀ x, P (c x) ∧ f (c x) = x) {out m : List Keyed} (hP : ∀ p ∈ m, P p) (h : Stb lt out m) : Stb ord (out.map f) (m.map f) := by
  refine ⟨h.perm.map f, fun x => ?_⟩
  have e : ∀ l : List Keyed, (∀ p ∈ l, P p) → (l.map f).filter (eqv ord x) = (l.filter (eqv lt (c x))).map f := by
    intro l hl2
    rw [List.filter_map]
    congr 1
    refine List.filter_congr fun p hp => ?_
    show eqv ord x (f p) = eqv lt (c x) p
    unfold eqv
    rw [hl _ _ (hc x).1 (hl2 p hp), hl _ _ (hl2 p hp) (hc x).1, (hc x).2]
  rw [e out fun p hp => hP p (h.perm.mem_iff.mp hp), e m hP, h.cls]
end
section
variable {prog : Program} {w : World} {A : Around} {E : Value → Shared → Prop} {s : Shared} {ord : Str → Str → Bool} {f : Value} {vs : List Value} {ss : List Str} {a : Addr} {R : PySem.Fin → Shared → Prop}
theorem strs_get {vs : List Value} {ss : List Str} (h : StrsAre vs ss) : ∀ {i : Nat} {v : Value}, vs[i]? = some v → ∃ x t, v = .str x t ∧ ss[i]? = some x := by
  intro i
  induction h generalizing i with
  | nil => intro v e; simp at e
  | cons x t r ih =>
    intro v e
    cases i with
    | zero => simp at e; exact ⟨x, t, e.symm, by simp⟩
    | succ i => exact ih (by simpa using e)
theorem strs_zip {vs : List Value} : ∀ {ks : List Value} {ss : List Str}, StrsAre vs ss → ks.length = vs.length → (ks.zip vs).map (fun p : Keyed => strOf p.2) = ss := by
  intro ks ss h
  induction h generalizing ks with
  | nil => intro _; simp
  | cons x t r ih =>
    intro hl
    cases ks with
    | nil => simp at hl
    | cons k ks =>
      rw [List.zip_cons_cons, List.map_cons, ih (by simpa using hl)]
      rfl
theorem str_out : ∀ {out : List Value}, (∀ v ∈ out, ∃ x t, v = Value.str x t) → StrsAre out (out.map strOf) := fun h => strsAre_map _ h
theorem sort_texts (F : KeyFn prog w f ord) {n : Nat} (ho : s.heap.get? a = some (seqObj "list" vs.toArray n)) (hS : StrsAre vs ss) (hz : vs.length ≤ 1000) (h1 : ∀ x ∈ ss, x.length ≤ 1000)
    (h : ∀ h' tk (out : List Value) (ys : List Str) c, (∀ b o, b ≠ a → s.heap.get? b = some o → h'.get? b = some o) → h'.get? a = some (seqObj "list" out.toArray c) → StrsAre out ys → Srtd ord ys → Stb ord ys ss → R (.done (.ret .none)) { s with heap := h', toks := tk }) :
    wpAny (model prog w) A (Builtin.«list.sort» ⟨[.ref a], [(Str.ofString "key", f)]⟩) R E s := by
  rw [F.tree]
  have KrS : ∀ (v k : Value), (∃ x t, v = Value.str x t ∧ F.Kr v k) → ∃ x t, v = Value.str x t ∧ F.Kr (.str x t) k := fun v k ⟨x, t, e, r⟩ => ⟨x, t, e, by rw [← e]; exact r⟩
  refine key_tree (lt := F.lt) (Kr := fun v k => ∃ x t, v = Value.str x t ∧ F.Kr (.str x t) k) F.swo ho hz (fun i v hv g tk => ?_) (fun ks hl hr h2 => ?_) (fun g tk => F.cmp _ _) fun h' tk out c k1 q1 d1 => ?_
  · obtain ⟨x, t, rfl, hx⟩ := strs_get hS hv
    refine wpAny_mono (F.turn A x t { s with heap := g, toks := tk } (h1 x (List.mem_of_getElem? hx))) (fun k s' z => ?_) fun _ _ e => e
    obtain ⟨tk2, rfl, r⟩ := z
    exact ⟨tk2, rfl, x, t, rfl, r⟩
  · refine F.kind ks (fun k hk => ?_) h2
    obtain ⟨i, hi, e⟩ := List.mem_iff_getElem.mp hk
    obtain ⟨x, t, e1, r⟩ := hr i _ k (List.getElem?_eq_getElem (by omega)) (by rw [List.getElem?_eq_getElem hi, e])
    exact ⟨x, t, r⟩
  · obtain ⟨ks, hl, hr, d2, d3⟩ := d1
    have hP : ∀ p ∈ ks.zip vs, ∃ x t, p.2 = Value.str x t ∧ F.Kr (.str x t) p.1 := zip_kr hr
    have hPo : ∀ p ∈ out, ∃ x t, p.2 = Value.str x t ∧ F.Kr (.str x t) p.1 := fun p hp => hP p (d3.perm.mem_iff.mp hp)
    have hrel : ∀ p q : Keyed, (∃ x t, p.2 = Value.str x t ∧ F.Kr (.str x t) p.1) → (∃ x t, q.2 = Value.str x t ∧ F.Kr (.str x t) q.1) → F.lt p q = ord (strOf p.2) (strOf q.2) := by
      rintro ⟨k1, u1⟩ ⟨k2, u2⟩ ⟨x1, t1, e1, r1⟩ ⟨x2, t2, e2, r2⟩
      dsimp only at e1 e2 r1 r2
      subst e1 e2
      exact F.rel _ _ _ _ _ _ _ _ r1 r2
    have z1 := srtd_strs (fun p : Keyed => strOf p.2) hrel hPo d2
    have z2 := stb_strs (fun p : Keyed => strOf p.2) (fun x => (F.back x, Value.str x 0)) hrel (fun x => ⟨⟨x, 0, rfl, F.bk x⟩, rfl⟩) hP d3
    rw [strs_zip hS hl] at z2
    refine h h' tk (out.map (·.2)) _ c k1 q1 (str_out fun v hv => ?_) (by rw [List.map_map]; exact z1) (by rw [List.map_map]; exact z2)
    obtain ⟨p, hp, rfl⟩ := List.mem_map.mp hv
    obtain ⟨x, t, e, _⟩ := hPo p hp
    exact ⟨x, t, e⟩
end
/-! ### the two keys -/
section
variable {prog : Program} {w : World}
def ordN (x y : Str) : Bool := decide (x.length < y.length)
def ordT (x y : Str) : Bool := decide (x.cps.toList < y.cps.toList)
theorem ints_all : ∀ ks : List Value, (∀ k ∈ ks, ∃ n t, k = Value.int n t) → IntsAre ks (ks.map iv) := fun ks h => ints_iv h
def keyLen : KeyFn prog w (.builtin "len") ordN where
  Kr v k := ∃ x t u, v = Value.str x t ∧ k = Value.int x.length u
  lt p q := decide (iv p.1 < iv q.1)
  back x := .int x.length 0
  swo := by
    refine ⟨fun x y h => ?_, fun x y z h1 h2 => ?_⟩
    · have a := of_decide_eq_true (p := iv x.1 < iv y.1) h
      exact decide_eq_false (p := iv y.1 < iv x.1) (by omega)
    · have a := of_decide_eq_false (p := iv y.1 < iv x.1) h1
      have b := of_decide_eq_false (p := iv z.1 < iv y.1) h2
      exact decide_eq_false (p := iv z.1 < iv x.1) (by omega)
  tree x := ksk_t4 "len" x
  turn A x t s hx := by
    exact len_str (by omega) ⟨_, rfl, x, t, _, rfl, rfl⟩
  kind ks h h2 := by
    have hI := ints_all ks (fun k hk => by
      obtain ⟨x, t, x2, t2, u, _, e⟩ := h k hk
      exact ⟨_, _, e⟩)
    match ks, hI, h2 with
    | v1 :: v2 :: rest, hI, _ => exact keyKind_ints hI
    | [], _, h => exact absurd h (by decide)
    | [v], _, h => exact absurd h (by simp)
  cmp A s := by
    rintro ⟨k1, u1⟩ ⟨k2, u2⟩ ⟨x1, t1, _, y1, s1, v1, _, e1⟩ ⟨x2, t2, _, y2, s2, v2, _, e2⟩
    dsimp only at e1 e2
    subst e1 e2
    show wpAny (model prog w) A (keyLt' oneType' (Value.int _ _) (Value.int _ _)) _ _ s
    rw [keyLt'_oneType]
    exact oneLt_int ⟨rfl, rfl⟩
  rel := by
    rintro k1 k2 u1 u2 x1 x2 t1 t2 ⟨y1, s1, v1, e1, rfl⟩ ⟨y2, s2, v2, e2, rfl⟩
    cases e1
    cases e2
    show decide ((x1.length : Int) < (x2.length : Int)) = decide (x1.length < x2.length)
    exact decide_eq_decide.mpr (by omega)
  bk x := ⟨x, 0, 0, rfl, rfl⟩
def keyStr : KeyFn prog w (.type "str") ordT where
  Kr v k := ∃ x t u, v = Value.str x t ∧ k = Value.str x u
  lt p q := decide ((strOf p.1).cps.toList < (strOf q.1).cps.toList)
  back x := .str x 0
  swo := by
    refine ⟨fun x y h => ?_, fun x y z h1 h2 => ?_⟩
    · exact decide_eq_false (List.lt_asymm (of_decide_eq_true h))
    · have a := List.not_lt.mp (of_decide_eq_false h1)
      have b := List.not_lt.mp (of_decide_eq_false h2)
      exact decide_eq_false (List.not_lt.mpr (List.le_trans a b))
  tree x := rfl
  turn A x t s hx := PySem.P.str_of_str ⟨_, rfl, x, t, _, rfl, rfl⟩
  kind ks h h2 := by
    have hI := strsAre_map ks (fun k hk => by
      obtain ⟨x, t, x2, t2, u, _, e⟩ := h k hk
      exact ⟨_, _, e⟩)
    match ks, hI, h2 with
    | v1 :: v2 :: rest, hI, _ => exact keyKind_strs hI
    | [], _, h => exact absurd h (by decide)
    | [v], _, h => exact absurd h (by simp)
  cmp A s := by
    rintro ⟨k1, u1⟩ ⟨k2, u2⟩ ⟨x1, t1, _, y1, s1, v1, _, e1⟩ ⟨x2, t2, _, y2, s2, v2, _, e2⟩
    dsimp only at e1 e2
    subst e1 e2
    show wpAny (model prog w) A (keyLt' oneType' (Value.str _ _) (Value.str _ _)) _ _ s
    rw [keyLt'_oneType]
    exact oneLt_str ⟨rfl, rfl⟩
  rel := by
    rintro k1 k2 u1 u2 x1 x2 t1 t2 ⟨y1, s1, v1, e1, rfl⟩ ⟨y2, s2, v2, e2, rfl⟩
    cases e1
    cases e2
    rfl
  bk x := ⟨x, 0, 0, rfl, rfl⟩
end
end FoSrt

set_option maxHeartbeats 4100000
namespace FoSrt
open PySem PyProof.Rows Srt SrtO
section
variable {prog : Program} {w : World} {A : Around} {E : Value → Shared → Prop} {s : Shared} {ord : Str → Str → Bool} {f : Value} {vs : List Value} {ss : List Str} {Q : Value → Shared → Prop}
/-- the part behind the collecting: a new list, sorted -/
theorem sorted_tail (F : KeyFn prog w f ord) (hS : StrsAre vs ss) (hz : vs.length ≤ 1000) (h1 : ∀ x ∈ ss, x.length ≤ 1000)
    (h : ∀ h' tk (out : List Value) (ys : List Str) c, (∀ b o, s.heap.get? b = some o → h'.get? b = some o) → h'.get? s.heap.objs.size = some (seqObj "list" out.toArray c) → StrsAre out ys → Srtd ord ys → Stb ord ys ss → Q (.ref s.heap.objs.size) { s with heap := h', toks := tk })
    {K : Value → Sem PySem.Fin} (hK : ∀ l s', Q l s' → wpAny (model prog w) A (K l) (fun r s'' => ∃ v, r = .done (.ret v) ∧ Q v s'') E s') (B : Around) :
    wpAny (model prog w) B (Builtin.«list.sort» ⟨[.ref s.heap.objs.size], [(Str.ofString "key", f)]⟩) (fun r s' => r = .done (.ret .none) ∧ Q (.ref s.heap.objs.size) s') E { s with heap := s.heap.push (seqObj "list" vs.toArray 0) } := by
  have hoL : (s.heap.push (seqObj "list" vs.toArray 0)).get? s.heap.objs.size = some (seqObj "list" vs.toArray 0) := Heap.get?_push_size _ rfl
  refine sort_texts (s := { s with heap := s.heap.push (seqObj "list" vs.toArray 0) }) F hoL hS hz h1 fun h' tk out ys c k1 q1 o1 o2 o3 => ⟨rfl, h h' tk out ys c (fun b o e => k1 b o (Nat.ne_of_lt (Heap.lt_size e)) (Heap.get?_push_of_some _ e)) q1 o1 o2 o3⟩
end
end FoSrt
namespace L2
open PySem PySem.Spec PyProof.Rows
/-- where the texts come from: a list of them, or a dict's keys -/
def SrcT (K : PySem.W.Frag) (H : Hp) (a : Addr) (ss : List Str) : Prop := SqL K H a (ss.map V.str) ∨ ∃ kvs : List (Key × V), Rd H a (.dK kvs) ∧ kvs.map (·.1) = ss.map Sum.inr
def tSortK (K : PySem.W.Frag) (ord : Str → Str → Bool) (t : TA) : TE := fun σ H Q => t σ H fun vs H1 => ∃ (a : Addr) (ss : List Str), vs = [.ref a] ∧ SrcT K H1 a ss ∧ ss.length ≤ 1000 ∧ (∀ x ∈ ss, x.length ≤ 1000) ∧
  ∀ ys p, SrtO.Srtd ord ys → SrtO.Stb ord ys ss → H1 p = none → Q (.ref p) (upd H1 p (.lst (ys.map V.str)))
section
variable {X : Cx} {ord : Str → Str → Bool} {f : Value}
theorem sortedK_run (hcalm : X.calm = true) (F : FoSrt.KeyFn X.prog X.w f ord) {pins : List (Addr × Obj)} {s : Shared} {σ : St} {H : Hp} {a : Addr} {ss : List Str} {Q : VK} (I : Inv X pins σ H s) (hs : SrcT X.K H a ss) (hz : ss.length ≤ 1000) (h1 : ∀ x ∈ ss, x.length ≤ 1000)
    (q : ∀ ys p, SrtO.Srtd ord ys → SrtO.Stb ord ys ss → H p = none → Q (.ref p) (upd H p (.lst (ys.map V.str)))) : wpAny (model X.prog X.w) X.A (call (.builtin "sorted") [.ref a] [(Str.ofString "key", f)]) (EP X pins σ Q) X.xe s := by
  have fin : ∀ (B : Around) (h0 : Heap) (tk0 : Nat) (acc : List Value), Inv X pins σ H { s with heap := h0, toks := tk0 } → StrsAre acc ss →
      wpAny (model X.prog X.w) B (Builtin.«list.sort» ⟨[.ref h0.objs.size], [(Str.ofString "key", f)]⟩) (fun r s' => r = .done (.ret .none) ∧ EP X pins σ Q (.ref h0.objs.size) s') X.xe { s with heap := h0.push (seqObj "list" acc.toArray 0), toks := tk0 } := by
    intro B h0 tk0 acc I0 hS
    have hl : acc.length = ss.length := hS.length
    refine wpAny_mono (FoSrt.sorted_tail (A := B) (s := { s with heap := h0, toks := tk0 }) (E := X.xe) (Q := fun v s' => EP X pins σ Q v s') F hS (by rw [hl]; exact hz) h1 (fun h' tk out ys c k1 q1 o1 o2 o3 => ?_) (K := fun l => pure (.done (.ret l))) (fun l s' z => wpAny_pure ⟨l, rfl, z⟩) B) (fun r s' z => z) fun _ _ e => e
    have ly : ys.length = ss.length := o3.len
    exact ⟨.ref h0.objs.size, upd H h0.objs.size (.lst (ys.map V.str)), I0.laid (t' := tk) k1 (Nat.le_refl _)
      (show ObjOk X.prog X.w _ _ _ (.lst (ys.map V.str)) from ⟨by rw [List.length_map, ly, sizeLine_eq]; omega, out, c, vals_of_strs o1, q1⟩), rfl, q ys _ o2 o3 (I0.hok.fresh (Nat.le_refl _))⟩
  refine call_function_entry_kw kind_sorted plain_sorted entry_sorted (ksk_s1 _ _) ?_
  unfold Builtin.«sorted»
  refine wpAny_bind (m := checkCount "sorted" 1 1 _) (wpAny_pure ?_)
  rcases hs with hs | ⟨kvs, hd, hks⟩
  · obtain ⟨its, rv, hl, hz2⟩ := I.list hs
    have hS := Vals.strs rv
    have il : its.length = ss.length := hS.length
    refine wpAny_bind (collect_list hl.isList ?_ (by rw [List.length_map] at hz2; omega))
    refine wpAny_bind (wpAny_newList ?_ (by rw [sizeLine_eq]; omega))
    have hsz : ((s.heap.push (seqObj "list" #[] 0)).update s.heap.objs.size (Obj.mapSeq (· ++ its.toArray))).objs.size = s.heap.objs.size + 1 := by
      rw [Heap.size_update, size_push']
    have keep : ∀ b o, s.heap.get? b = some o → ((s.heap.push (seqObj "list" #[] 0)).update s.heap.objs.size (Obj.mapSeq (· ++ its.toArray))).get? b = some o := fun b o e => by
      have hlt : b < s.heap.objs.size := Heap.lt_size e
      rw [Heap.get?_update_ne _ _ _ _ (Nat.ne_of_lt hlt)]
      exact Heap.get?_push_of_some _ e
    have hoL : ∀ h0 : Heap, (h0.push (seqObj "list" its.toArray 0)).get? h0.objs.size = some (seqObj "list" its.toArray 0) := fun h0 => Heap.get?_push_size _ rfl
    show wpAny _ _ _ _ _ { s with heap := ((s.heap.push (seqObj "list" #[] 0)).update s.heap.objs.size (Obj.mapSeq (· ++ its.toArray))).push (seqObj "list" its.toArray 0) }
    refine wpAny_bind (wpAny_holding (wpAny_call_entry_kw slot_list_sort ⟨_, hoL _, rfl⟩ entry_list_sort (wpAny_mono (fin _ _ s.toks its (I.kept (t' := s.toks) keep) hS) (fun r s' z => ?_) fun _ _ e => e) (ksk_l1 _ _)))
    obtain ⟨rfl, z⟩ := z
    exact ⟨_, rfl, wpAny_pure ⟨_, rfl, z⟩⟩
  · obtain ⟨z, lo, ws, rel, dd⟩ := dk_rd I.hok hd
    obtain ⟨ep, hat⟩ := dd.dictAt
    have hkeys : ws.map (·.1) = ss.map Sum.inr := rel.keys.symm.trans hks
    have hl : ws.length = ss.length := by
      have e := congrArg List.length hkeys
      rw [List.length_map, List.length_map] at e
      exact e
    have h16 : ws.length ≤ sizeLine := by rw [hl, sizeLine_eq]; omega
    refine wpAny_bind (PySem.W.kdu_collect (A := X.A.in1) (PySem.W.kdl_dict (knd := mixKind X.prog X.w) (kvs := ws) (ep := ep) lo) (I.ok.hd hcalm) hat h16 fun h' tk acc hk hacc => ?_)
    have hal : acc.toList.length = ss.length := by rw [Array.length_toList, hacc.1, hl]
    have hS : StrsAre acc.toList ss := strs_at hal fun j v e => by
      obtain ⟨k, x, e1, e2⟩ := hacc.2 j v (by rw [← Array.getElem?_toList]; exact e)
      have e3 : (ws.map (·.1))[j]? = some k := by rw [List.getElem?_map, e1]; all_goals rfl
      rw [hkeys, List.getElem?_map] at e3
      cases e4 : ss[j]? with
      | none => rw [e4] at e3; cases e3
      | some y =>
        rw [e4] at e3
        have e5 : Sum.inr y = k := Option.some.inj e3
        subst e5
        obtain ⟨t, ev⟩ := Value.isStrOf_shape (x := y) (v := v) e2
        exact ⟨y, t, rfl, ev⟩
    refine wpAny_bind (wpAny_newList ?_ (by rw [hal, sizeLine_eq]; omega))
    have hoL : (h'.push (seqObj "list" acc.toList.toArray 0)).get? h'.objs.size = some (seqObj "list" acc.toList.toArray 0) := Heap.get?_push_size _ rfl
    show wpAny _ _ _ _ _ { s with heap := h'.push (seqObj "list" acc.toList.toArray 0), toks := tk }
    refine wpAny_bind (wpAny_holding (wpAny_call_entry_kw slot_list_sort ⟨_, hoL, rfl⟩ entry_list_sort (wpAny_mono (fin _ _ tk acc.toList (I.kept hk) hS) (fun r s' z => ?_) fun _ _ e => e) (ksk_l1 _ _)))
    obtain ⟨rfl, z⟩ := z
    exact ⟨_, rfl, wpAny_pure ⟨_, rfl, z⟩⟩
variable {x y : Str} {p kp apos : Pos} {e : Expr} {t : TA}
/-- sorted(e, key=y), y a builtin name -/
theorem pe_sortK {pos : Pos} (hcalm : X.calm = true) (F : FoSrt.KeyFn X.prog X.w f ord) (hg : Gl X "sorted") (hm : X.mg "sorted" = none) (hv : bootBuiltins "sorted" = some (.builtin "sorted")) (hgy : Gl X y) (hmy : X.mg y = none) (hvy : bootBuiltins y = some f) (ha : PA X [e] t)
    (hny : y ≠ "__name__" := by decide) (hdy : (y == ("__debug__" : Str)) = false := by decide) (hn : ("sorted" : Str) ≠ "__name__" := by decide) (hdb : (("sorted" : Str) == ("__debug__" : Str)) = false := by decide)
    (he : backTo pos (starEach [e] X.env) = (false, eval e X.env) :: backTo pos (starEach [] X.env) := by rfl) (hpl : (backTo pos (starEach [e] X.env)).any (·.1) = false := by rfl) :
    PE X (.Call (.Name "sorted" p) [e] [⟨some "key", .Name y kp, apos⟩] pos) (tSortK X.K ord t) := by
  refine ⟨fun pins s σ H Q I h => ?_⟩
  refine wpAny_Call_Name_kw (ld_blt I hg hm hv ?_ hn hdb)
  refine PyProof.Rows.callWith_kw (thn (ha.run pos pins s σ H _ I h) fun us s1 ⟨vs, H1, I1, r1, a, ss, ea, h1, h2, h3, h4⟩ => ?_) he hpl (by rfl) (by rfl)
  subst ea
  obtain rfl := Vals.ref1 r1
  show wpAny _ _ (evalAll [(do let v ← eval (.Name y kp) X.env; standAt pos; pure v)]) _ _ s1
  refine wpAny_evalAll_cons (wpAny_bind (ld_blt I1 hgy hmy hvy (wpAny_bind (wpAny_standAt (wpAny_pure ?_))) hny hdy))
  refine wpAny_evalAll_nil ?_
  exact sortedK_run hcalm F I1 h1 h2 h3 h4
end
end L2

set_option maxHeartbeats 1000000
/-! Words of two letters, shortened; sums over lists of (word, number). No program. -/
namespace FoWd
abbrev Wd := List Bool
/-- a letter put behind what is shortened -/
def shF (u : Wd) (c : Bool) : Wd := if u.getLast? = some c then u else u ++ [c]
def sh (w : Wd) : Wd := w.foldl shF []
theorem shF_same {u : Wd} {c : Bool} (h : u.getLast? = some c) : shF u c = u := by
  unfold shF
  rw [if_pos h]
theorem shF_last (u : Wd) (c : Bool) : (shF u c).getLast? = some c := by
  unfold shF
  split
  · assumption
  · simp
theorem sh_snoc (w : Wd) (c : Bool) : sh (w ++ [c]) = shF (sh w) c := by
  unfold sh
  rw [List.foldl_append]
  rfl
theorem fold_snoc (u w : Wd) (c : Bool) : (w ++ [c]).foldl shF u = shF (w.foldl shF u) c := by
  rw [List.foldl_append]
  rfl
/-- induction from the end -/
theorem snoc_ind {p : Wd → Prop} (h0 : p []) (h1 : ∀ w c, p w → p (w ++ [c])) : ∀ w, p w := by
  have key : ∀ n (w : Wd), w.length = n → p w := by
    intro n
    induction n with
    | zero => intro w h; rw [List.eq_nil_of_length_eq_zero h]; exact h0
    | succ n ih =>
      intro w h
      have hne : w ≠ [] := by intro e; rw [e] at h; simp at h
      rw [← List.dropLast_concat_getLast hne]
      exact h1 _ _ (ih _ (by rw [List.length_dropLast]; omega))
  exact fun w => key _ w rfl
theorem sh_fold (u : Wd) : ∀ v, (sh v).foldl shF u = v.foldl shF u := by
  refine snoc_ind rfl fun v c ih => ?_
  rw [sh_snoc, fold_snoc]
  by_cases h : (sh v).getLast? = some c
  · rw [show shF (sh v) c = sh v by unfold shF; rw [if_pos h], ih]
    have e : (v.foldl shF u).getLast? = some c := by
      rw [← ih]
      obtain ⟨s', hs⟩ : ∃ s', sh v = s' ++ [c] := by
        have hne : sh v ≠ [] := by intro e; rw [e] at h; simp at h
        refine ⟨(sh v).dropLast, ?_⟩
        rw [List.getLast?_eq_some_getLast hne] at h
        have := List.dropLast_concat_getLast hne
        rw [Option.some.inj h] at this
        exact this.symm
      rw [hs, fold_snoc]
      exact shF_last _ _
    rw [shF_same e]
  · rw [show shF (sh v) c = sh v ++ [c] by unfold shF; rw [if_neg h], fold_snoc, ih]
theorem sh_sh (v : Wd) : sh (sh v) = sh v := sh_fold [] v
theorem sh_app (w v : Wd) : sh (w ++ v) = v.foldl shF (sh w) := by
  unfold sh
  rw [List.foldl_append]
theorem sh_both (w v : Wd) : sh (sh w ++ sh v) = sh (w ++ v) := by
  rw [sh_app, sh_app, sh_sh, sh_fold]
theorem sh_left (w v : Wd) : sh (sh w ++ v) = sh (w ++ v) := by
  rw [sh_app, sh_app, sh_sh]
theorem sh_right (w v : Wd) : sh (w ++ sh v) = sh (w ++ v) := by
  rw [sh_app, sh_app, sh_fold]
theorem sh_rev : ∀ v : Wd, sh (sh v).reverse = sh v.reverse := by
  refine snoc_ind rfl fun v c ih => ?_
  rw [List.reverse_append]
  show _ = sh ([c] ++ v.reverse)
  rw [← sh_right [c] v.reverse, ← ih, sh_right, sh_snoc]
  by_cases h : (sh v).getLast? = some c
  · rw [show shF (sh v) c = sh v by unfold shF; rw [if_pos h]]
    obtain ⟨s', hs⟩ : ∃ s', sh v = s' ++ [c] := by
      have hne : sh v ≠ [] := by intro e; rw [e] at h; simp at h
      refine ⟨(sh v).dropLast, ?_⟩
      rw [List.getLast?_eq_some_getLast hne] at h
      have := List.dropLast_concat_getLast hne
      rw [Option.some.inj h] at this
      exact this.symm
    rw [hs, List.reverse_append]
    show sh (c :: s'.reverse) = sh (c :: c :: s'.reverse)
    have e : shF (shF [] c) c = shF [] c := by
      have := shF_last [] c
      generalize shF [] c = z at *
      unfold shF
      rw [if_pos this]
    unfold sh
    show List.foldl shF (shF [] c) _ = List.foldl shF (shF (shF [] c) c) _
    rw [e]
  · rw [show shF (sh v) c = sh v ++ [c] by unfold shF; rw [if_neg h], List.reverse_append]
    rfl
/-! ### alternating words -/
def alt (b : Bool) : Nat → Wd
  | 0 => []
  | n + 1 => b :: alt (!b) n
theorem alt_len (n : Nat) : ∀ b, (alt b n).length = n := by
  induction n with
  | zero => intro b; rfl
  | succ n ih => intro b; show (alt (!b) n).length + 1 = n + 1; rw [ih]
/-- the letter behind n alternating ones -/
def nxt (b : Bool) (n : Nat) : Bool := if n % 2 = 0 then b else !b
theorem alt_snoc (n : Nat) : ∀ b, alt b (n + 1) = alt b n ++ [nxt b n] := by
  induction n with
  | zero => intro b; rfl
  | succ n ih =>
    intro b
    show b :: alt (!b) (n + 1) = b :: (alt (!b) n ++ [nxt b (n + 1)])
    rw [ih]
    congr 3
    unfold nxt
    have : (n + 1) % 2 = 0 ↔ ¬ n % 2 = 0 := by omega
    by_cases h : n % 2 = 0
    · rw [if_pos h, if_neg (by omega)]
    · rw [if_neg h, if_pos (by omega), Bool.not_not]
theorem nxt_ne (b : Bool) (n : Nat) : nxt b (n + 1) = !nxt b n := by
  unfold nxt
  by_cases h : n % 2 = 0
  · rw [if_pos h, if_neg (by omega)]
  · rw [if_neg h, if_pos (by omega), Bool.not_not]
theorem sh_alt : ∀ w : Wd, ∃ b n, n ≤ w.length ∧ sh w = alt b n := by
  refine snoc_ind ⟨true, 0, Nat.le_refl _, rfl⟩ fun w c ⟨b, n, hn, e⟩ => ?_
  rw [sh_snoc, e, List.length_append]
  cases n with
  | zero => exact ⟨c, 1, by show 1 ≤ _ + 1; omega, by unfold shF; rfl⟩
  | succ n =>
    unfold shF
    split
    · exact ⟨b, n + 1, by omega, rfl⟩
    · rename_i h
      refine ⟨b, n + 2, by show n + 2 ≤ _ + 1; omega, ?_⟩
      rw [alt_snoc (n + 1)]
      congr 2
      rw [alt_snoc] at h
      have h2 : ¬ nxt b n = c := fun z => h (by simp [z])
      rw [nxt_ne]
      cases c <;> cases hb : nxt b n <;> simp_all
/-- all of them up to a length, the shorter first, p first -/
def AW : Nat → List Wd
  | 0 => [[]]
  | n + 1 => AW n ++ [alt true (n + 1), alt false (n + 1)]
theorem mem_AW {n m : Nat} (b : Bool) (h : m ≤ n) : alt b m ∈ AW n := by
  induction n with
  | zero =>
    obtain rfl : m = 0 := by omega
    show [] ∈ [[]]
    simp
  | succ n ih =>
    show _ ∈ AW n ++ _
    by_cases h2 : m ≤ n
    · exact List.mem_append_left _ (ih h2)
    · obtain rfl : m = n + 1 := by omega
      refine List.mem_append_right _ ?_
      cases b <;> simp
theorem AW_len {n : Nat} : ∀ {a : Wd}, a ∈ AW n → a.length ≤ n := by
  induction n with
  | zero => intro a h; simp [AW] at h; rw [h]; exact Nat.le_refl _
  | succ n ih =>
    intro a h
    rcases List.mem_append.mp (show a ∈ AW n ++ _ from h) with h | h
    · exact Nat.le_succ_of_le (ih h)
    · simp at h
      rcases h with rfl | rfl <;> rw [alt_len] <;> exact Nat.le_refl _
theorem AW_nodup : ∀ n, (AW n).Nodup
  | 0 => by simp [AW]
  | n + 1 => by
    show (AW n ++ _).Nodup
    refine List.nodup_append.mpr ⟨AW_nodup n, by simp [alt], fun a ha b hb e => ?_⟩
    have l1 := AW_len ha
    have l2 : b.length = n + 1 := by
      simp at hb
      rcases hb with rfl | rfl <;> rw [alt_len]
    rw [e] at l1
    omega
theorem AW_sh : ∀ {n : Nat} {a : Wd}, a ∈ AW n → sh a = a := by
  have key : ∀ n b, sh (alt b n) = alt b n := by
    intro n
    induction n with
    | zero => intro b; rfl
    | succ n ih =>
      intro b
      rw [alt_snoc, sh_snoc, ih]
      unfold shF
      cases n with
      | zero => rfl
      | succ n =>
        rw [if_neg]
        rw [alt_snoc]
        simp
        rw [nxt_ne]
        simp
  intro n
  induction n with
  | zero => intro a h; simp [AW] at h; rw [h]; rfl
  | succ n ih =>
    intro a h
    rcases List.mem_append.mp (show a ∈ AW n ++ _ from h) with h | h
    · exact ih h
    · simp at h
      rcases h with rfl | rfl <;> exact key _ _
end FoWd

set_option maxHeartbeats 1000000
namespace FoWd
abbrev Ps := List (Wd × Rat)
def lin (G : Wd → Rat) : Ps → Rat
  | [] => 0
  | p :: ps => p.2 * G p.1 + lin G ps
def ind (a w : Wd) : Rat := if sh w = a then 1 else 0
def coef (ps : Ps) (a : Wd) : Rat := lin (ind a) ps
def sumA (F : Wd → Rat) : List Wd → Rat
  | [] => 0
  | a :: l => F a + sumA F l
theorem sumA_congr {F G : Wd → Rat} {l : List Wd} (h : ∀ a ∈ l, F a = G a) : sumA F l = sumA G l := by
  induction l with
  | nil => rfl
  | cons a l ih =>
    show F a + _ = G a + _
    rw [h a List.mem_cons_self, ih fun b hb => h b (List.mem_cons_of_mem _ hb)]
theorem sumA_add {F G : Wd → Rat} {l : List Wd} : sumA (fun a => F a + G a) l = sumA F l + sumA G l := by
  induction l with
  | nil => show (0 : Rat) = 0 + 0; grind
  | cons a l ih =>
    show F a + G a + _ = F a + _ + (G a + _)
    rw [ih]
    grind
theorem sumA_zero {F : Wd → Rat} {l : List Wd} (h : ∀ a ∈ l, F a = 0) : sumA F l = 0 := by
  induction l with
  | nil => rfl
  | cons a l ih =>
    show F a + _ = 0
    rw [h a List.mem_cons_self, ih fun b hb => h b (List.mem_cons_of_mem _ hb)]
    grind
theorem sumA_one {b : Wd} {x : Rat} {G : Wd → Rat} {l : List Wd} (hn : l.Nodup) (hb : b ∈ l) : sumA (fun a => (if b = a then x else 0) * G a) l = x * G b := by
  induction l with
  | nil => exact absurd hb (by simp)
  | cons a l ih =>
    obtain ⟨h1, h2⟩ := List.nodup_cons.mp hn
    show (if b = a then x else 0) * G a + _ = _
    by_cases e : b = a
    · subst e
      rw [if_pos rfl, sumA_zero (fun a ha => by
        have : b ≠ a := fun z => h1 (z ▸ ha)
        rw [if_neg this, Rat.zero_mul])]
      grind
    · rw [if_neg e, ih h2 ((List.mem_cons.mp hb).resolve_left e)]
      grind
/-- the form: the words that are left, in their order -/
def form (N : Nat) (ps : Ps) : Ps := (AW N).filterMap fun a => if coef ps a = 0 then none else some (a, coef ps a)
theorem lin_fm {ps : Ps} {G : Wd → Rat} : ∀ l : List Wd, lin G (l.filterMap fun a => if coef ps a = 0 then none else some (a, coef ps a)) = sumA (fun a => coef ps a * G a) l
  | [] => rfl
  | a :: l => by
    rw [List.filterMap_cons]
    by_cases e : coef ps a = 0
    · rw [if_pos e]
      show lin G _ = coef ps a * G a + _
      rw [lin_fm l, e]
      grind
    · rw [if_neg e]
      show coef ps a * G a + lin G _ = _
      rw [lin_fm l]
      rfl
/-- short enough words -/
def Le (N : Nat) (ps : Ps) : Prop := ∀ p ∈ ps, p.1.length ≤ N
theorem sh_mem {N : Nat} {w : Wd} (h : w.length ≤ N) : sh w ∈ AW N := by
  obtain ⟨b, n, hn, e⟩ := sh_alt w
  rw [e]
  exact mem_AW b (Nat.le_trans hn h)
theorem lin_form {N : Nat} {ps : Ps} (h : Le N ps) (G : Wd → Rat) : lin G (form N ps) = lin (fun w => G (sh w)) ps := by
  unfold form
  rw [lin_fm]
  induction ps with
  | nil => exact sumA_zero fun a _ => by show (0 : Rat) * _ = 0; rw [Rat.zero_mul]
  | cons p ps ih =>
    show _ = p.2 * G (sh p.1) + lin _ ps
    rw [← ih fun q hq => h q (List.mem_cons_of_mem _ hq), ← sumA_one (G := G) (x := p.2) (AW_nodup N) (sh_mem (h p List.mem_cons_self)), ← sumA_add]
    refine sumA_congr fun a ha => ?_
    show (p.2 * ind a p.1 + coef ps a) * G a = _
    unfold ind
    split <;> grind
theorem lin_congr {F G : Wd → Rat} {ps : Ps} (h : ∀ p ∈ ps, F p.1 = G p.1) : lin F ps = lin G ps := by
  induction ps with
  | nil => rfl
  | cons p ps ih =>
    show p.2 * F p.1 + _ = p.2 * G p.1 + _
    rw [h p List.mem_cons_self, ih fun b hb => h b (List.mem_cons_of_mem _ hb)]
theorem coef_form {N : Nat} {ps : Ps} (h : Le N ps) (a : Wd) : coef (form N ps) a = coef ps a := by
  unfold coef
  rw [lin_form h]
  refine lin_congr fun p _ => ?_
  unfold ind
  rw [sh_sh]
theorem form_ext {N : Nat} {ps qs : Ps} (h : ∀ a, coef ps a = coef qs a) : form N ps = form N qs := by
  unfold form
  congr 1
  funext a
  rw [h a]
theorem form_form {N M : Nat} {ps : Ps} (h : Le N ps) : form M (form N ps) = form M ps := form_ext (coef_form h)
theorem lin_app {G : Wd → Rat} {ps qs : Ps} : lin G (ps ++ qs) = lin G ps + lin G qs := by
  induction ps with
  | nil => show lin G qs = 0 + _; grind
  | cons p ps ih =>
    show p.2 * G p.1 + lin G (ps ++ qs) = p.2 * G p.1 + lin G ps + _
    rw [ih]
    grind
theorem coef_app {ps qs : Ps} (a : Wd) : coef (ps ++ qs) a = coef ps a + coef qs a := lin_app
/-- each word turned, each number times another -/
def turn (ps : Ps) : Ps := ps.map fun p => (p.1.reverse, p.2)
def scl (c : Rat) (ps : Ps) : Ps := ps.map fun p => (p.1, c * p.2)
def mul (ps qs : Ps) : Ps := ps.flatMap fun p => qs.map fun q => (p.1 ++ q.1, p.2 * q.2)
theorem lin_turn {G : Wd → Rat} {ps : Ps} : lin G (turn ps) = lin (fun w => G w.reverse) ps := by
  induction ps with
  | nil => rfl
  | cons p ps ih =>
    show p.2 * G p.1.reverse + lin G (turn ps) = _
    rw [ih]
    rfl
theorem lin_scl {G : Wd → Rat} {c : Rat} {ps : Ps} : lin G (scl c ps) = c * lin G ps := by
  induction ps with
  | nil => show (0 : Rat) = c * 0; grind
  | cons p ps ih =>
    show c * p.2 * G p.1 + lin G (scl c ps) = c * (p.2 * G p.1 + lin G ps)
    rw [ih]
    grind
theorem lin_mul {G : Wd → Rat} {ps qs : Ps} : lin G (mul ps qs) = lin (fun w => lin (fun v => G (w ++ v)) qs) ps := by
  induction ps with
  | nil => rfl
  | cons p ps ih =>
    show lin G (qs.map _ ++ mul ps qs) = p.2 * lin _ qs + lin _ ps
    rw [lin_app, ih]
    congr 1
    induction qs with
    | nil => show (0 : Rat) = p.2 * 0; grind
    | cons q qs ih2 =>
      show p.2 * q.2 * G (p.1 ++ q.1) + lin G _ = p.2 * (q.2 * G (p.1 ++ q.1) + lin _ qs)
      have ih3 : lin G (qs.map fun q => (p.1 ++ q.1, p.2 * q.2)) = p.2 * lin (fun v => G (p.1 ++ v)) qs := by
        clear ih ih2
        induction qs with
        | nil => show (0 : Rat) = p.2 * 0; grind
        | cons q qs ih => 
          show p.2 * q.2 * G (p.1 ++ q.1) + lin G (qs.map fun q => (p.1 ++ q.1, p.2 * q.2)) = p.2 * (q.2 * G (p.1 ++ q.1) + lin (fun v => G (p.1 ++ v)) qs)
          rw [ih]
          grind
      rw [ih3]
      grind
theorem form_turn {N M : Nat} {ps : Ps} (h : Le N ps) : form M (turn (form N ps)) = form M (turn ps) := form_ext fun a => by
  unfold coef
  rw [lin_turn, lin_turn, lin_form h]
  refine lin_congr fun p _ => ?_
  unfold ind
  rw [sh_rev]
theorem form_scl {N M : Nat} {c : Rat} {ps : Ps} (h : Le N ps) : form M (scl c (form N ps)) = form M (scl c ps) := form_ext fun a => by
  have := coef_form h a
  unfold coef at *
  rw [lin_scl, lin_scl, this]
theorem form_add {N1 N2 M : Nat} {ps qs : Ps} (h : Le N1 ps) (g : Le N2 qs) : form M (form N1 ps ++ form N2 qs) = form M (ps ++ qs) := form_ext fun a => by
  rw [coef_app, coef_app, coef_form h, coef_form g]
theorem form_mul {N1 N2 M : Nat} {ps qs : Ps} (h : Le N1 ps) (g : Le N2 qs) : form M (mul (form N1 ps) (form N2 qs)) = form M (mul ps qs) := form_ext fun a => by
  unfold coef
  rw [lin_mul, lin_mul, lin_form h]
  refine lin_congr fun p _ => ?_
  rw [lin_form g]
  refine lin_congr fun q _ => ?_
  unfold ind
  rw [sh_both]
theorem lin_swap {G : Wd → Wd → Rat} {ps qs : Ps} : lin (fun w => lin (fun v => G w v) qs) ps = lin (fun v => lin (fun w => G w v) ps) qs := by
  induction ps with
  | nil =>
    show (0 : Rat) = lin (fun v => (0 : Rat)) qs
    induction qs with
    | nil => rfl
    | cons q qs ih => show (0 : Rat) = q.2 * 0 + lin (fun v => (0 : Rat)) qs; rw [← ih]; grind
  | cons p ps ih =>
    show p.2 * lin (fun v => G p.1 v) qs + lin (fun w => lin (fun v => G w v) qs) ps = lin (fun v => p.2 * G p.1 v + lin (fun w => G w v) ps) qs
    rw [ih]
    clear ih
    induction qs with
    | nil => show p.2 * 0 + (0 : Rat) = 0; grind
    | cons q qs ih2 =>
      show p.2 * (q.2 * G p.1 q.1 + lin (fun v => G p.1 v) qs) + (q.2 * lin (fun w => G w q.1) ps + lin (fun v => lin (fun w => G w v) ps) qs) = q.2 * (p.2 * G p.1 q.1 + lin (fun w => G w q.1) ps) + lin (fun v => p.2 * G p.1 v + lin (fun w => G w v) ps) qs
      rw [← ih2]
      grind
theorem rev_ind (a w : Wd) (ha : sh a = a) : ind a w.reverse = ind (sh a.reverse) w := by
  unfold ind
  have e : sh w.reverse = a ↔ sh w = sh a.reverse := by
    constructor
    · intro h
      rw [← h, sh_rev, List.reverse_reverse]
    · intro h
      rw [← sh_rev, h, sh_rev, List.reverse_reverse, ha]
  by_cases h : sh w.reverse = a
  · rw [if_pos h, if_pos (e.mp h)]
  · rw [if_neg h, if_neg fun z => h (e.mpr z)]
/-- its own mirror -/
def IsM (N : Nat) (ps : Ps) : Prop := form N (turn ps) = form N ps
theorem isM_add {N : Nat} {ps : Ps} : IsM N (ps ++ turn ps) := form_ext fun a => by
  have e : turn (turn ps) = ps := by
    unfold turn
    rw [List.map_map]
    refine (List.map_congr_left fun p _ => ?_).trans (List.map_id _)
    show ((p.1.reverse).reverse, p.2) = p
    rw [List.reverse_reverse]
  have e2 : turn (ps ++ turn ps) = turn ps ++ ps := by
    unfold turn
    rw [List.map_append]
    congr 1
  rw [e2, coef_app, coef_app]
  grind
theorem isM_mul {N : Nat} {ps : Ps} : IsM N (mul (turn ps) ps) := form_ext fun a => by
  unfold coef
  rw [lin_turn, lin_mul, lin_mul, lin_turn, lin_turn]
  rw [lin_swap]
  refine lin_congr fun p _ => ?_
  refine lin_congr fun q _ => ?_
  rw [List.reverse_append, List.reverse_reverse]
end FoWd

set_option maxHeartbeats 1000000
namespace FoWd
open PySem SrtO FoSrt
/-- a letter's lcode; a word as a text -/
def lcode (b : Bool) : Nat := if b then 112 else 113
def tx (w : Wd) : Str := ⟨(w.map lcode).toArray⟩
theorem tl_tx (w : Wd) : TL.tl (tx w) = w.map lcode := rfl
theorem tx_len (w : Wd) : (tx w).length = w.length := by
  rw [TL.len_tl, tl_tx, List.length_map]
theorem code_inj {a b : Bool} (h : lcode a = lcode b) : a = b := by
  cases a <;> cases b <;> first | rfl | exact absurd h (by decide)
theorem tx_inj {w v : Wd} (h : tx w = tx v) : w = v := by
  have e : w.map lcode = v.map lcode := congrArg TL.tl h
  exact (List.map_inj_right fun _ _ => code_inj).mp e
theorem tx_app (w v : Wd) : tx w ++ tx v = tx (w ++ v) := by
  refine TL.ext_tl ?_
  rw [TL.tl_append, tl_tx, tl_tx, tl_tx, List.map_append]
theorem tx_nil : tx [] = Str.empty := rfl
/-! ### the order -/
def Le2 (x y : Str) : Prop := x.length < y.length ∨ (x.length = y.length ∧ ¬ TL.tl y < TL.tl x)
theorem le2_anti {x y : Str} (h : Le2 x y) (g : Le2 y x) : x = y := by
  rcases h with h | ⟨h, h2⟩
  · rcases g with g | ⟨g, _⟩ <;> omega
  · rcases g with g | ⟨_, g2⟩
    · omega
    · exact TL.ext_tl (List.le_antisymm (List.not_lt.mp h2) (List.not_lt.mp g2))
theorem pw_le2 : ∀ l : List Str, Srtd ordN l → (∀ c, (l.filter (eqv ordN c)).Pairwise fun x y => ¬ TL.tl y < TL.tl x) → l.Pairwise Le2
  | [], _, _ => List.Pairwise.nil
  | x :: l, h, g => by
    obtain ⟨h1, h2⟩ := List.pairwise_cons.mp h
    refine List.pairwise_cons.mpr ⟨fun y hy => ?_, pw_le2 l h2 fun c => ?_⟩
    · have e := of_decide_eq_false (h1 y hy)
      by_cases d : x.length < y.length
      · exact .inl d
      · refine .inr ⟨by omega, ?_⟩
        have e1 : eqv ordN x x = true := by simp [eqv, ordN]
        have e2 : eqv ordN x y = true := by
          have : x.length = y.length := by omega
          simp [eqv, ordN, this]
        have q := g x
        rw [List.filter_cons, if_pos e1] at q
        exact (List.pairwise_cons.mp q).1 y (List.mem_filter.mpr ⟨hy, e2⟩)
    · have q := g c
      rw [List.filter_cons] at q
      split at q
      · exact (List.pairwise_cons.mp q).2
      · exact q
theorem both_le2 {l m : List Str} (h1 : Srtd ordT m) (h2 : Srtd ordN l) (h3 : Stb ordN l m) : l.Pairwise Le2 := by
  refine pw_le2 l h2 fun c => ?_
  rw [h3.cls]
  refine List.Pairwise.sublist List.filter_sublist ?_
  exact h1.imp fun {x y} e => of_decide_eq_false e
theorem le2_aw : ∀ n, ((AW n).map tx).Pairwise Le2
  | 0 => List.pairwise_singleton _ _
  | n + 1 => by
    show (((AW n) ++ [alt true (n + 1), alt false (n + 1)]).map tx).Pairwise Le2
    rw [List.map_append]
    refine List.pairwise_append.mpr ⟨le2_aw n, ?_, fun x hx y hy => .inl ?_⟩
    · show [tx (alt true (n + 1)), tx (alt false (n + 1))].Pairwise Le2
      refine List.pairwise_cons.mpr ⟨fun y hy => ?_, List.pairwise_singleton _ _⟩
      obtain rfl := List.mem_singleton.mp hy
      refine .inr ⟨by rw [tx_len, tx_len, alt_len, alt_len], ?_⟩
      show ¬ (113 :: (alt true n).map lcode : List Nat) < 112 :: (alt false n).map lcode
      rw [List.cons_lt_cons_iff]
      omega
    · obtain ⟨a, ha, rfl⟩ := List.mem_map.mp hx
      obtain ⟨b, hb, rfl⟩ := List.mem_map.mp hy
      rw [tx_len, tx_len]
      have l1 := AW_len ha
      simp at hb
      rcases hb with rfl | rfl <;> rw [alt_len] <;> omega
/-- what is sorted so is the list of the alternating words that are there -/
theorem sorted_aw {N : Nat} {ks : List Wd} {l : List Str} (hk : ks.Nodup) (ha : ∀ a ∈ ks, a ∈ AW N) (hp : l.Perm (ks.map tx)) (hl : l.Pairwise Le2) : l = ((AW N).filter fun a => decide (a ∈ ks)).map tx := by
  refine List.Perm.eq_of_pairwise (fun a b _ _ => le2_anti) hl ?_ (hp.trans (List.Perm.map tx ?_))
  · exact List.Pairwise.sublist (List.Sublist.map tx List.filter_sublist) (le2_aw N)
  · refine (List.perm_ext_iff_of_nodup hk (List.Nodup.sublist List.filter_sublist (AW_nodup N))).mpr fun a => ?_
    rw [List.mem_filter]
    exact ⟨fun h => ⟨ha a h, decide_eq_true h⟩, fun h => of_decide_eq_true h.2⟩
end FoWd

set_option maxHeartbeats 4100000
/-! all of a list of truths; two readings of one walk or value. -/
namespace FoY
open PySem PySem.Spec PyProof.Rows L2
theorem pi_or {X : Cx} {tg e : Expr} {w1 w2 : TI} (h1 : PI X tg e w1) (h2 : PI X tg e w2) : PI X tg e (fun τ H R => w1 τ H R ∨ w2 τ H R) :=
  ⟨fun pz s τ H R I h => h.elim (h1.run pz s τ H R I) (h2.run pz s τ H R I)⟩
theorem pe_or {X : Cx} {e : Expr} {t1 t2 : TE} (h1 : PE X e t1) (h2 : PE X e t2) : PE X e (fun τ H Q => t1 τ H Q ∨ t2 τ H Q) :=
  ⟨fun pz s τ H Q I h => h.elim (h1.run pz s τ H Q I) (h2.run pz s τ H Q I)⟩
theorem reads_bools {h : Heap} : ∀ {bs : List Bool} {us : List Value}, Vals (bs.map V.bl) us → ReadsAll h us (bs.map PyData.bool) []
  | [], _, .nil => .nil
  | b :: bs, _, .cons r rr => by
    cases r
    exact ReadsAll.cons (as := []) (bs := []) (.bool b) (reads_bools rr)
theorem plain_bools : ∀ bs : List Bool, PyData.plainAll (bs.map PyData.bool) = true
  | [] => rfl
  | b :: bs => by
    show (PyData.plain (.bool b) && PyData.plainAll (bs.map PyData.bool)) = true
    rw [plain_bools bs]
    rfl
def rAll (K : PySem.W.Frag) : List V → Hp → VK → Prop := fun xs H Q => ∃ (a : Addr) (bs : List Bool), xs = [V.ref a] ∧ SqL K H a (bs.map V.bl) ∧ Q (.bl (bs.all id)) H
theorem call_all {X : Cx} {K' : PySem.W.Frag} (hc : X.calm = true) (hK : X.K = K') : CallR X (.builtin "all") (rAll K') := by
  subst hK
  intro pz s τ H vs us Q I r h
  obtain ⟨a, bs, rfl, hS, q⟩ := h
  obtain ⟨its, rv, hl, _⟩ := I.list hS
  rw [Vals.ref1 r]
  refine PySem.W.all_list_data (I.ok.hd hc) hl.isList (reads_bools rv) (plain_bools bs) (fun x hx => ?_) fun h' tk hk => ?_
  · obtain ⟨b, _, rfl⟩ := List.mem_map.mp hx
    trivial
  · have e : (bs.map PyData.bool).all PyData.truthy = bs.all id := by
      rw [List.all_map]
      rfl
    rw [e]
    exact ⟨.bl _, H, I.kept hk, rfl, q⟩
end FoY

set_option maxHeartbeats 4100000
namespace Fo
open PySem PySem.Spec PyProof.Rows L2
/-! ### words -/
open FoWd
/-- no text -/
inductive NoStr (H : Hp) : V → Prop where
  | non : NoStr H .non
  | bl (b : Bool) : NoStr H (.bl b)
  | int (i : Int) : NoStr H (.int i)
  | tup {a : Addr} {xs : List V} (e : H a = some (.tup xs)) : NoStr H (.ref a)
/-- no row: no text, or a text with another letter -/
def NoRow (H : Hp) (v : V) : Prop := NoStr H v ∨ ∃ z : Str, v = .str z ∧ z.cps.size ≤ 1000 ∧ (z.cps.toList.all fun c => decide (c ∈ ("pq" : Str).cps.toList)) = false
def spIsRow : Sp := fun vs H Q _ => ∃ v, vs = [v] ∧ ((∃ w : Wd, v = .str (tx w) ∧ w.length ≤ 1000 ∧ ∀ H', Same H H' → Q (.bl true) H') ∨ (NoRow H v ∧ ∀ H', Same H H' → Q (.bl false) H'))
def spShort : Sp := fun vs H Q _ => ∃ w : Wd, vs = [.str (tx w)] ∧ w.length ≤ 1000 ∧ Q (.str (tx (sh w))) H
theorem pq_codes : ("pq" : Str).cps.toList = [112, 113] := by decide +kernel
theorem code_in (b : Bool) : decide (lcode b ∈ ("pq" : Str).cps.toList) = true := by
  rw [pq_codes]
  cases b <;> decide
theorem tx_all (w : Wd) : ((tx w).cps.toList.all fun c => decide (c ∈ ("pq" : Str).cps.toList)) = true := by
  rw [List.all_eq_true]
  intro c hc
  obtain ⟨b, _, rfl⟩ := List.mem_map.mp (show c ∈ w.map lcode from hc)
  exact code_in b
theorem tx_size (w : Wd) : (tx w).cps.size = w.length := by simp [tx]
theorem tx_at {w : Wd} {i c : Nat} (h : (tx w).cps[i]? = some c) : ∃ b, w[i]? = some b ∧ c = lcode b := by
  rw [← Array.getElem?_toList] at h
  have h' : (w.map lcode)[i]? = some c := h
  rw [List.getElem?_map] at h'
  cases e : w[i]? with
  | none => rw [e] at h'; cases h'
  | some b =>
    rw [e] at h'
    cases h'
    exact ⟨b, rfl, rfl⟩
theorem tx_one (b : Bool) : (⟨#[lcode b]⟩ : Str) = tx [b] := rfl
theorem tx_snoc (w : Wd) (b : Bool) : tx w ++ ⟨#[lcode b]⟩ = tx (w ++ [b]) := by
  rw [tx_one, tx_app]
theorem fold_take {w : Wd} {i : Nat} {b : Bool} (h : w[i]? = some b) : sh (w.take (i + 1)) = shF (sh (w.take i)) b := by
  rw [List.take_add_one, h]
  exact sh_snoc _ _
theorem sh_len (w : Wd) : (sh w).length ≤ w.length := by
  obtain ⟨b, n, h, e⟩ := sh_alt w
  rw [e, alt_len]
  exact h
theorem ends_tx (w : Wd) (b : Bool) : Txt.endswith (tx w) ⟨#[lcode b]⟩ = decide (w.getLast? = some b) := by
  have e0 : (⟨#[lcode b]⟩ : Str).length = 1 := rfl
  unfold Txt.endswith Builtin.Str.subAt
  rw [e0, tx_len]
  cases hw : w.getLast? with
  | none =>
    have : w = [] := by simpa using hw
    subst this
    rfl
  | some c =>
    have hne : w ≠ [] := by intro e; rw [e] at hw; simp at hw
    have hl : 1 ≤ w.length := Nat.one_le_iff_ne_zero.mpr fun e => hne (List.eq_nil_of_length_eq_zero e)
    rw [decide_eq_true (by omega : 0 + 1 ≤ w.length), Bool.true_and]
    have hc : w[w.length - 1]? = some c := by rw [← List.getLast?_eq_getElem?]; exact hw
    have ex : (tx w).cps.extract (w.length - 1) (w.length - 1 + 1) = #[lcode c] := by
      apply Array.ext'
      rw [Array.toList_extract]
      show List.extract (w.map lcode) _ _ = [lcode c]
      rw [List.extract_eq_take_drop, ← List.map_drop, ← List.map_take]
      have : (w.drop (w.length - 1)).take (w.length - 1 + 1 - (w.length - 1)) = [c] := by
        have h1 : w.length - 1 + 1 - (w.length - 1) = 1 := by omega
        rw [h1, List.drop_eq_getElem_cons (by omega)]
        rw [List.getElem?_eq_getElem (by omega)] at hc
        rw [Option.some.inj hc]
        rfl
      rw [this]
      rfl
    rw [ex]
    cases b <;> cases c <;> decide
theorem at_last {u : Wd} {d : Bool} (h : u.getLast? = some d) : atI (tx u).cps.toList (-1) = some (lcode d) := by
  have hne : u ≠ [] := by intro e; rw [e] at h; simp at h
  have hl : 1 ≤ u.length := Nat.one_le_iff_ne_zero.mpr fun e => hne (List.eq_nil_of_length_eq_zero e)
  have hd : (u.map lcode)[u.length - 1]? = some (lcode d) := by
    rw [List.getElem?_map, ← List.getLast?_eq_getElem?, h]
    rfl
  show (ixN (u.map lcode).length (-1)).bind (fun j => (u.map lcode)[j]?) = _
  have e : ixN (u.map lcode).length (-1) = some (u.length - 1) := by
    rw [List.length_map]
    unfold ixN
    rw [if_neg (by decide), if_pos (by omega)]
    congr 1
    omega
  rw [e]
  exact hd
section
variable {P : Program} {w : World} {K : PySem.W.Frag} {mg : Str → Option Value} {base : Heap}
theorem ok_is_row (T : Tx K mg) : FnOk P w K mg base CX0 1 (He.ga K "_is_row") T.fd_is_row ["given"] spIsRow := by
  refine T.F_is_row.ok sc_is_row (fun vs H Q E h => ?_) (fun cdv A outer s H vs Q E hr h => ?_)
  · obtain ⟨v, rfl, _⟩ := h
    rfl
  · obtain ⟨v, rfl, h⟩ := h
    refine ⟨_, (pss_one (ps_ret (pe_and (pe_callB call_isi (by rfl) T.z_isinstance (by decide +kernel) (pa_cons (pv 0) (pa_cons (pe_bltn (v := V.ty "str") (u := Value.type "str") (by rfl) T.z_str (by decide +kernel) rfl) pa_nil))) (pe_one (pe_callB (FoY.call_all rfl rfl) (by rfl) T.z_all (by decide +kernel) (pa_cons (pe_lc (own := [("letter", 1)]) (g := gName 1) rfl sc_is_row.nd (pi_str (pv 0)) (blkOk_by (own := [("letter", 1)]) (N := ["given", "letter"]) (sc := defScope s_is_row) (by decide +kernel)) (fun _ _ _ _ _ => (pg_name (i := 1) sc_is_row.nd rfl (.inl rfl))) (fun _ _ _ _ _ => pts_nil) (fun _ _ _ _ _ => (pe_cmpR op_in_sign (pv 1) pe_str (by rfl)))) pa_nil)))))), ?_⟩
    have ks : PySem.W.kitOne K (.type "str") (.type "str") = some true := kit_ty (by decide +kernel)
    have cases2 : (∃ z r, v = .str z ∧ z.cps.size ≤ 1000 ∧ (z.cps.toList.all fun c => decide (c ∈ ("pq" : Str).cps.toList)) = r ∧ ∀ H', Same H H' → Q (.bl r) H') ∨ (NoStr H v ∧ Q (.bl false) H) := by
      rcases h with ⟨w, rfl, hw, q⟩ | ⟨hN | ⟨z, rfl, hz, hr⟩, q⟩
      · exact .inl ⟨_, true, rfl, by rw [tx_size]; exact hw, tx_all w, q⟩
      · exact .inr ⟨hN, q _ (Same.refl _)⟩
      · exact .inl ⟨_, false, rfl, hz, hr, q⟩
    rcases cases2 with ⟨z, r, rfl, hz, hr2, q⟩ | ⟨hN, q⟩
    · refine ⟨_, rfl, _, _, _, _, _, rfl, .ty _, .base (.str _), ks, _, rfl, iteT ?_⟩
      refine ⟨_, rfl, z, rfl, fun D nD => ?_⟩
      refine FoV.lc_str (fun i H1 => H1 D = some (.lst (((z.cps.toList.take i).map fun c => decide (c ∈ ("pq" : Str).cps.toList)).map V.bl)) ∧ Same H H1) ⟨upd_same, Same.upd nD⟩ (fun i c H1 ec p => ?_) (fun H1 p => ?_)
      · obtain ⟨hL, sL⟩ := p
        have tk : z.cps.toList.take (i + 1) = z.cps.toList.take i ++ [c] := by
          rw [List.take_add_one, show z.cps.toList[i]? = some c by rw [Array.getElem?_toList]; exact ec]
          rfl
        refine ⟨rfl, _, rfl, c, "pq", rfl, rfl, _, hL, ?_, ?_, fun b o e => ?_⟩
        · rw [List.length_map, List.length_map, List.length_take, Array.length_toList, sizeLine_eq]
          omega
        · rw [upd_same, tk, List.map_append, List.map_append]
          rfl
        · rw [upd_ne (ne_of_none e nD)]
          exact sL b o e
      · obtain ⟨hL, sL⟩ := p
        rw [List.take_of_length_le (by simp)] at hL
        refine ⟨D, _, rfl, SqL.of hL, ?_⟩
        rw [List.all_map]
        have e : (z.cps.toList.all ((id : Bool → Bool) ∘ fun c => decide (c ∈ ("pq" : Str).cps.toList))) = r := hr2
        rw [e]
        exact q _ sL
    · cases hN with
      | non => exact ⟨_, rfl, _, _, _, _, _, rfl, .ty _, .base .non, kit_ty (by decide +kernel), _, rfl, iteF q⟩
      | bl b => exact ⟨_, rfl, _, _, _, _, _, rfl, .ty _, .base (.bl b), kit_ty (by decide +kernel), _, rfl, iteF q⟩
      | int i => exact ⟨_, rfl, _, _, _, _, _, rfl, .ty _, .base (.int i), kit_ty (by decide +kernel), _, rfl, iteF q⟩
      | tup e => exact ⟨_, rfl, _, _, _, _, _, rfl, .ty _, .base (.tup e), kit_ty (by decide +kernel), _, rfl, iteF q⟩
theorem ok_shortened (T : Tx K mg) : FnOk P w K mg base CX0 1 (He.ga K "_shortened") T.fd_shortened ["row"] spShort := by
  refine T.F_shortened.ok sc_shortened (fun vs H Q E h => ?_) (fun cdv A outer s H vs Q E hr h => ?_)
  · obtain ⟨x, rfl, _⟩ := h
    rfl
  · obtain ⟨x, rfl, hl, q⟩ := h
    refine ⟨_, (pss_cons (ps_set (i := 1) sc_shortened.nd rfl (.inl rfl) pe_str)
      (pss_cons (ps_for PassesOwn.never rfl (pi_str (pv 0)) (pg_name (i := 2) sc_shortened.nd rfl (.inl rfl)) (pss_one (ps_if (pt_not (pt_val (pe_m1 PySem.F.slot_str_endswith PySem.F.type_str_endswith mt_endswith (pv 1) (pv 2)))) (pss_one (ps_set (i := 1) sc_shortened.nd rfl (.inl rfl) (pe_op op_add_str (pv 1) (pv 2)))) pss_nil)))
      (pss_one (ps_ret (pv 1))))), ?_⟩
    refine ⟨_, rfl, _, rfl, ?_⟩
    refine for_it walk_str (fun j σ H2 => H2 = H ∧ ∃ o2, σ = [some (.str (tx x)), some (.str (tx (sh (x.take j)))), o2]) ⟨rfl, _, rfl⟩ (fun _ _ _ _ _ => trivial) (fun j v σ H2 H3 hj h y => ?_) (fun σ H2 h => ?_)
    · obtain ⟨rfl, o2, rfl⟩ := h
      obtain ⟨rfl, c, ec, rfl⟩ := y
      obtain ⟨b, eb, rfl⟩ := tx_at ec
      refine ⟨_, rfl, ⟨_, rfl⟩, _, rfl, _, _, rfl, rfl, _, rfl, ?_⟩
      rw [ends_tx, fold_take eb]
      have hj' : j < x.length := by rw [← tx_size]; exact hj
      have l1 : (sh (x.take j)).length ≤ 1000 := by
        have a1 := sh_len (x.take j)
        rw [List.length_take] at a1
        omega
      by_cases hc : (sh (x.take j)).getLast? = some b
      · rw [decide_eq_true hc, shF_same hc]
        exact iteF ⟨rfl, _, rfl⟩
      · rw [decide_eq_false hc, show shF (sh (x.take j)) b = sh (x.take j) ++ [b] by unfold shF; rw [if_neg hc], ← tx_snoc]
        refine iteT ⟨_, rfl, _, rfl, _, _, rfl, rfl, ?_, rfl, _, rfl⟩
        rw [tx_len, sizeLine_eq]
        show _ + 1 ≤ _
        omega
    · obtain ⟨rfl, o2, rfl⟩ := h
      rw [tx_size, List.take_length]
      exact ⟨_, rfl, q⟩
theorem ok_shortL (T : Tx K mg) : FnOk P w K mg base CX0 1 (He.ga K "_law_short") T.fd_short ["_law_row_here"] spShort := by
  refine T.F_short.ok sc_short (fun vs H Q E h => ?_) (fun cdv A outer s H vs Q E hr h => ?_)
  · obtain ⟨x, rfl, _⟩ := h
    rfl
  · obtain ⟨x, rfl, hl, q⟩ := h
    refine ⟨_, (pss_cons (ps_set (i := 1) sc_short.nd rfl (.inl rfl) pe_str)
      (pss_cons (ps_for PassesOwn.never rfl (pi_str (pv 0)) (pg_name (i := 2) sc_short.nd rfl (.inl rfl)) (pss_one (ps_if (PW.pt (pw_or (pt_cmpR op_eq (pv 1) pe_str (nomark _)) (pw_or1 (pt_cmpR op_ne (pe_ix ix_str (pv 1) (pe_un un_neg pe_int) (fun _ _ => rfl)) (pv 2) (nomark _))))) (pss_one (ps_set (i := 1) sc_short.nd rfl (.inl rfl) (pe_op op_add_str (pv 1) (pv 2)))) pss_nil)))
      (pss_one (ps_ret (pv 1))))), ?_⟩
    refine ⟨_, rfl, _, rfl, ?_⟩
    refine for_it walk_str (fun j σ H2 => H2 = H ∧ ∃ o2, σ = [some (.str (tx x)), some (.str (tx (sh (x.take j)))), o2]) ⟨rfl, _, rfl⟩ (fun _ _ _ _ _ => trivial) (fun j v σ H2 H3 hj h y => ?_) (fun σ H2 h => ?_)
    · obtain ⟨rfl, o2, rfl⟩ := h
      obtain ⟨rfl, c, ec, rfl⟩ := y
      obtain ⟨b, eb, rfl⟩ := tx_at ec
      have hj' : j < x.length := by rw [← tx_size]; exact hj
      rw [fold_take eb]
      generalize hu : sh (x.take j) = u at *
      have l1 : u.length ≤ 1000 := by
        have a1 := sh_len (x.take j)
        rw [List.length_take, hu] at a1
        omega
      refine ⟨_, rfl, rfl, _, rfl, ite2 (fun c => ?_) (fun c => ?_)⟩
      · have e0 : u = [] := tx_inj (V.str.inj (of_decide_eq_true c))
        subst e0
        rw [show shF [] b = [] ++ [b] from rfl, ← tx_snoc]
        refine iteT ⟨_, rfl, _, rfl, _, _, rfl, rfl, ?_, rfl, _, rfl⟩
        rw [tx_len, sizeLine_eq]
        show 0 + 1 ≤ 16777216
        decide
      · have hne : u ≠ [] := fun e => c (decide_eq_true (by rw [e]; rfl))
        obtain ⟨d, hd⟩ : ∃ d, u.getLast? = some d := ⟨_, List.getLast?_eq_some_getLast hne⟩
        refine ⟨_, rfl, 1, rfl, _, _, lcode d, rfl, rfl, by rw [tx_len, sizeLine_eq]; omega, at_last hd, _, rfl, rfl, _, rfl, ?_⟩
        by_cases e : d = b
        · subst e
          rw [shF_same hd]
          refine ite2 (fun c => absurd c (by simp)) (fun _ => ⟨rfl, _, rfl⟩)
        · have e2 : ¬ u.getLast? = some b := fun z => e (by rw [hd] at z; exact Option.some.inj z)
          rw [show shF u b = u ++ [b] by unfold shF; rw [if_neg e2], ← tx_snoc]
          refine ite2 (fun _ => ⟨_, rfl, _, rfl, _, _, rfl, rfl, ?_, rfl, _, rfl⟩) (fun c => absurd ?_ c)
          · rw [tx_len, sizeLine_eq]
            show _ + 1 ≤ _
            omega
          · have : ¬ V.str ⟨#[lcode d]⟩ = V.str ⟨#[lcode b]⟩ := fun z => e (by have z2 := V.str.inj z; have z3 : tx [d] = tx [b] := z2; have z4 := tx_inj z3; injection z4)
            simp [this]
    · obtain ⟨rfl, o2, rfl⟩ := h
      rw [tx_size, List.take_length]
      exact ⟨_, rfl, q⟩
end

end Fo

set_option maxHeartbeats 1000000
namespace FoWd
/-! ### tables: words to numbers, in the order of their coming -/
def look : Ps → Wd → Option Rat
  | [], _ => none
  | p :: r, w => if p.1 = w then some p.2 else look r w
def put : Ps → Wd → Rat → Ps
  | [], w, x => [(w, x)]
  | p :: r, w, x => if p.1 = w then (w, x) :: r else p :: put r w x
def keys (f : Ps) : List Wd := f.map (·.1)
theorem look_none {f : Ps} {w : Wd} (h : w ∉ keys f) : look f w = none := by
  induction f with
  | nil => rfl
  | cons p r ih =>
    have h1 : p.1 ≠ w := fun e => h (by rw [← e]; exact List.mem_cons_self)
    show (if p.1 = w then some p.2 else look r w) = none
    rw [if_neg h1]
    exact ih fun m => h (List.mem_cons_of_mem _ m)
theorem look_some {f : Ps} {w : Wd} (h : w ∈ keys f) : ∃ x, look f w = some x := by
  induction f with
  | nil => exact absurd h (by simp [keys])
  | cons p r ih =>
    show ∃ x, (if p.1 = w then some p.2 else look r w) = some x
    by_cases e : p.1 = w
    · rw [if_pos e]; exact ⟨_, rfl⟩
    · rw [if_neg e]
      exact ih ((List.mem_cons.mp h).resolve_left fun z => e z.symm)
theorem put_new {f : Ps} {w : Wd} {x : Rat} (h : w ∉ keys f) : put f w x = f ++ [(w, x)] := by
  induction f with
  | nil => rfl
  | cons p r ih =>
    have h1 : p.1 ≠ w := fun e => h (by rw [← e]; exact List.mem_cons_self)
    show (if p.1 = w then (w, x) :: r else p :: put r w x) = _
    rw [if_neg h1, ih fun m => h (List.mem_cons_of_mem _ m)]
    rfl
theorem put_old {f : Ps} {w : Wd} {x : Rat} (hn : (keys f).Nodup) (h : w ∈ keys f) : put f w x = f.map fun p => if p.1 = w then (w, x) else p := by
  induction f with
  | nil => exact absurd h (by simp [keys])
  | cons p r ih =>
    obtain ⟨n1, n2⟩ := List.nodup_cons.mp hn
    show (if p.1 = w then (w, x) :: r else p :: put r w x) = (if p.1 = w then (w, x) else p) :: _
    by_cases e : p.1 = w
    · rw [if_pos e, if_pos e]
      congr 1
      refine ((List.map_congr_left fun q hq => ?_).trans (List.map_id _)).symm
      have : q.1 ≠ w := fun z => n1 (List.mem_map.mpr ⟨q, hq, z.trans e.symm⟩)
      rw [if_neg this]
      rfl
    · rw [if_neg e, if_neg e, ih n2 ((List.mem_cons.mp h).resolve_left fun z => e z.symm)]
theorem keys_put {f : Ps} {w : Wd} {x : Rat} : keys (put f w x) = if w ∈ keys f then keys f else keys f ++ [w] := by
  induction f with
  | nil => rfl
  | cons p r ih =>
    show keys (if p.1 = w then (w, x) :: r else p :: put r w x) = _
    by_cases e : p.1 = w
    · rw [if_pos e, if_pos (by rw [← e]; exact List.mem_cons_self)]
      show w :: keys r = p.1 :: keys r
      rw [e]
    · rw [if_neg e]
      show p.1 :: keys (put r w x) = _
      rw [ih]
      by_cases m : w ∈ keys r
      · rw [if_pos m, if_pos (show w ∈ keys (p :: r) from List.mem_cons_of_mem _ m)]
        rfl
      · rw [if_neg m, if_neg (show ¬ w ∈ keys (p :: r) from fun z => (List.mem_cons.mp z).elim (fun z => e z.symm) m)]
        rfl
theorem put_nodup {f : Ps} {w : Wd} {x : Rat} (h : (keys f).Nodup) : (keys (put f w x)).Nodup := by
  rw [keys_put]
  split
  · exact h
  · rename_i m
    refine List.nodup_append.mpr ⟨h, by simp, fun a ha b hb e => ?_⟩
    rw [List.mem_singleton.mp hb] at e
    exact m (e ▸ ha)
theorem look_put {f : Ps} {w a : Wd} {x : Rat} : look (put f w x) a = if w = a then some x else look f a := by
  induction f with
  | nil => rfl
  | cons p r ih =>
    show look (if p.1 = w then (w, x) :: r else p :: put r w x) a = if w = a then some x else if p.1 = a then some p.2 else look r a
    by_cases e : p.1 = w
    · rw [if_pos e]
      show (if w = a then some x else look r a) = _
      by_cases e2 : w = a
      · rw [if_pos e2, if_pos e2]
      · rw [if_neg e2, if_neg e2, if_neg (fun z => e2 (e.symm.trans z))]
    · rw [if_neg e]
      show (if p.1 = a then some p.2 else look (put r w x) a) = _
      rw [ih]
      by_cases e2 : w = a
      · rw [if_pos e2, if_pos e2, if_neg (fun z => e (z.trans e2.symm))]
      · rw [if_neg e2, if_neg e2]
/-- a number added to the one that stands at w -/
def addAt (f : Ps) (w : Wd) (x : Rat) : Ps := put f w ((look f w).getD 0 + x)
/-- what the pairs, their words shortened, come to -/
def gath (ps : Ps) : Ps := ps.foldl (fun f p => addAt f (sh p.1) p.2) []
theorem gath_snoc (ps : Ps) (p : Wd × Rat) : gath (ps ++ [p]) = addAt (gath ps) (sh p.1) p.2 := by
  unfold gath
  rw [List.foldl_append]
  rfl
theorem gath_take {ps : Ps} {i : Nat} {p : Wd × Rat} (h : ps[i]? = some p) : gath (ps.take (i + 1)) = addAt (gath (ps.take i)) (sh p.1) p.2 := by
  rw [List.take_add_one, h]
  exact gath_snoc _ _
theorem coef_snoc {ps : Ps} {p : Wd × Rat} {a : Wd} : coef (ps ++ [p]) a = coef ps a + (if sh p.1 = a then p.2 else 0) := by
  rw [coef_app]
  congr 1
  show p.2 * ind a p.1 + 0 = _
  unfold ind
  split <;> grind
theorem gath_all (ps : Ps) : (keys (gath ps)).Nodup ∧ (∀ a, (look (gath ps) a).getD 0 = coef ps a) ∧ (∀ a, a ∈ keys (gath ps) ↔ ∃ p ∈ ps, sh p.1 = a) := by
  have key : ∀ (n : Nat) (ps : Ps), ps.length = n → (keys (gath ps)).Nodup ∧ (∀ a, (look (gath ps) a).getD 0 = coef ps a) ∧ (∀ a, a ∈ keys (gath ps) ↔ ∃ p ∈ ps, sh p.1 = a) := by
    intro n
    induction n with
    | zero =>
      intro ps h
      rw [List.eq_nil_of_length_eq_zero h]
      exact ⟨List.nodup_nil, fun a => rfl, fun a => by simp [gath, keys]⟩
    | succ n ih =>
      intro ps h
      have hne : ps ≠ [] := by intro e; rw [e] at h; simp at h
      obtain ⟨h1, h2, h3⟩ := ih ps.dropLast (by rw [List.length_dropLast]; omega)
      rw [← List.dropLast_concat_getLast hne]
      generalize ps.dropLast = qs at *
      generalize ps.getLast hne = p at *
      rw [gath_snoc]
      refine ⟨put_nodup h1, fun a => ?_, fun a => ?_⟩
      · unfold addAt
        rw [look_put, coef_snoc, ← h2 a]
        by_cases e : sh p.1 = a
        · rw [if_pos e, if_pos e, e]
          rfl
        · rw [if_neg e, if_neg e]
          grind
      · unfold addAt
        rw [keys_put]
        have e : (∃ q ∈ qs ++ [p], sh q.1 = a) ↔ (∃ q ∈ qs, sh q.1 = a) ∨ sh p.1 = a := by
          constructor
          · rintro ⟨q, hq, e⟩
            rcases List.mem_append.mp hq with hq | hq
            · exact .inl ⟨q, hq, e⟩
            · rw [List.mem_singleton.mp hq] at e
              exact .inr e
          · rintro (⟨q, hq, e⟩ | e)
            · exact ⟨q, List.mem_append_left _ hq, e⟩
            · exact ⟨p, List.mem_append_right _ (List.mem_singleton.mpr rfl), e⟩
        rw [e, ← h3 a]
        split
        · rename_i m
          constructor
          · exact .inl
          · rintro (z | z)
            · exact z
            · rw [← z]; exact m
        · rw [List.mem_append, List.mem_singleton]
          exact ⟨fun z => z.imp id Eq.symm, fun z => z.imp id Eq.symm⟩
  exact key _ ps rfl
theorem put_len {f : Ps} {w : Wd} {x : Rat} : (put f w x).length ≤ f.length + 1 := by
  induction f with
  | nil => exact Nat.le_refl _
  | cons p r ih =>
    show (if p.1 = w then (w, x) :: r else p :: put r w x).length ≤ _
    split
    · exact Nat.le_succ _
    · exact Nat.succ_le_succ ih
theorem gath_len (ps : Ps) : (gath ps).length ≤ ps.length := by
  have key : ∀ (n : Nat) (ps : Ps), ps.length = n → (gath ps).length ≤ n := by
    intro n
    induction n with
    | zero => intro ps h; rw [List.eq_nil_of_length_eq_zero h]; exact Nat.le_refl _
    | succ n ih =>
      intro ps h
      have hne : ps ≠ [] := by intro e; rw [e] at h; simp at h
      have z := ih ps.dropLast (by rw [List.length_dropLast]; omega)
      rw [← List.dropLast_concat_getLast hne, gath_snoc]
      exact Nat.le_trans put_len (Nat.succ_le_succ z)
  exact key _ ps rfl
theorem gath_at {ps : Ps} {a : Wd} (h : a ∈ keys (gath ps)) : look (gath ps) a = some (coef ps a) := by
  obtain ⟨x, hx⟩ := look_some h
  have := (gath_all ps).2.1 a
  rw [hx] at this ⊢
  exact congrArg some this
theorem gath_aw {N : Nat} {ps : Ps} (h : Le N ps) : ∀ a ∈ keys (gath ps), a ∈ AW N := by
  intro a ha
  obtain ⟨p, hp, rfl⟩ := ((gath_all ps).2.2 a).mp ha
  exact sh_mem (h p hp)
/-- the words that are there, in their order -/
def ordered (N : Nat) (ps : Ps) : List Wd := (AW N).filter fun a => decide (a ∈ keys (gath ps))
theorem fmap_congr {α β : Type} {f g : α → Option β} : ∀ {l : List α}, (∀ a ∈ l, f a = g a) → l.filterMap f = l.filterMap g
  | [], _ => rfl
  | a :: l, h => by
    rw [List.filterMap_cons, List.filterMap_cons, h a List.mem_cons_self, fmap_congr fun b hb => h b (List.mem_cons_of_mem _ hb)]
theorem form_ordered (N : Nat) (ps : Ps) : form N ps = (ordered N ps).filterMap fun a => if coef ps a = 0 then none else some (a, coef ps a) := by
  unfold form ordered
  rw [List.filterMap_filter]
  refine fmap_congr fun a _ => ?_
  by_cases m : a ∈ keys (gath ps)
  · rw [if_pos (decide_eq_true m)]
  · have e : coef ps a = 0 := by
      rw [← (gath_all ps).2.1 a, look_none m]
      rfl
    rw [if_neg (show ¬ decide (a ∈ keys (gath ps)) = true from fun z => m (of_decide_eq_true z)), if_pos e]
end FoWd

set_option maxHeartbeats 4100000
/-! a dict comprehension over any walk -/
namespace FoDc
open PySem PySem.Spec PyProof.Rows L2
variable {J : It} {n : Nat} {G : Hp → Prop} {Y : Nat → Hp → V → Hp → Prop}
theorem dc_it (w : Walk J n G Y) {g : TG} {tt : TT} {tk tv : TE} {vs : List Nat} {σ : L2.St} {H1 : Hp} {D : Addr} {Qd : Hp → Prop} (Pv : Nat → Hp → Prop) (h0 : Pv 0 (upd H1 D (.dK []))) (hG : ∀ i H, i ≤ n → Pv i H → G H)
    (hs : ∀ i x H H', i < n → Pv i H → Y i H x H' → g x (wipe σ vs) H' fun σ2 H2 => wipe σ2 vs = wipe σ vs ∧ tt σ2 H2 fun b H3 =>
      if b = true then tk σ2 H3 fun y H4 => tv σ2 H4 fun z H5 => ∃ kvs k, y = kV k ∧ H5 D = some (.dK kvs) ∧ kvs.length < sizeLine ∧ Pv (i + 1) (upd H5 D (.dK (putK kvs k z))) else Pv (i + 1) H3) (hd : ∀ H, Pv n H → Qd H) :
    ∃ W : Nat → Nat → Hp → Prop, (∃ m, W 0 m (upd H1 D (.dK []))) ∧ ∀ i m H, W i m H →
      (J.stop i H ∧ Qd H) ∨ (J.go i H ∧ ∃ Nx : Hp → Prop, (∀ H', Nx H' → ∃ m', m' < m ∧ W (i + 1) m' H') ∧ ∀ x H', J.yld i H x H' → g x (wipe σ vs) H' fun σ2 H2 => wipe σ2 vs = wipe σ vs ∧ tt σ2 H2 fun b H3 =>
        if b = true then tk σ2 H3 fun y H4 => tv σ2 H4 fun z H5 => ∃ kvs k, y = kV k ∧ H5 D = some (.dK kvs) ∧ kvs.length < sizeLine ∧ Nx (upd H5 D (.dK (putK kvs k z))) else Nx H3) := by
  refine ⟨fun i m H => m = n - i ∧ i ≤ n ∧ Pv i H, ⟨n, by simp, Nat.zero_le _, h0⟩, ?_⟩
  rintro i m H ⟨rfl, hi, p⟩
  have q := hG i H hi p
  by_cases hlt : i < n
  · exact .inr ⟨w.goes i H hlt q, Pv (i + 1), fun H' p' => ⟨n - (i + 1), by omega, rfl, hlt, p'⟩, fun x H' y => hs i x H H' hlt p (w.yields i H x H' hlt q y)⟩
  · have e : i = n := by omega
    subst e
    exact .inl ⟨w.stops H q, hd H p⟩
end FoDc

set_option maxHeartbeats 4100000
namespace Fo
open PySem PySem.Spec PyProof.Rows L2
/-! ### tables of words -/
open FoWd
/-- what is no list and no dict -/
def Firm : HO → Prop
  | .lst _ => False
  | .dK _ => False
  | .frz _ _ => False
  | _ => True
/-- all that is neither a list nor a dict stands as it stood -/
def NLD (H H' : Hp) : Prop := ∀ b o, H b = some o → Firm o → H' b = some o
theorem NLD.refl (H : Hp) : NLD H H := fun _ _ h _ => h
theorem NLD.trans {H H1 H2 : Hp} (a : NLD H H1) (b : NLD H1 H2) : NLD H H2 := fun c o h n => b c o (a c o h n) n
theorem same_nld {H H' : Hp} (s : Same H H') : NLD H H' := fun b o h _ => s b o h
theorem nld_upd {H : Hp} {D : Addr} {u o : HO} (h : H D = some u) (hu : ¬ Firm u) : NLD H (upd H D o) := fun b v e n => by
  rw [upd_ne (fun z => by rw [z, h] at e; cases e; exact hu n)]
  exact e
/-- told of a value in a heap, and not changed by what happens to lists and dicts -/
def SolidD (R : Hp → V → Prop) : Prop := ∀ {H H' : Hp} {v : V}, NLD H H' → R H v → R H' v
theorem rtAt_nld {K : PySem.W.Frag} {H H' : Hp} {a : Addr} {r : Rat} (h : RtAt K H a r) (s : NLD H H') : RtAt K H' a r := by
  obtain ⟨dx, e⟩ := h
  exact ⟨dx, s _ _ e trivial⟩
def Rr (K : PySem.W.Frag) (r : Rat) (H : Hp) (v : V) : Prop := ∃ a, v = .ref a ∧ RtAt K H a r
def Rn (K : PySem.W.Frag) (r : Rat) (H : Hp) (v : V) : Prop := NmV K H v r
def Rq (r : Rat) (H : Hp) (v : V) : Prop := ∃ a, v = .ref a ∧ FrQ H a r
theorem rr_solidD {K : PySem.W.Frag} (r : Rat) : SolidD (Rr K r) := fun s ⟨a, e, h⟩ => ⟨a, e, rtAt_nld h s⟩
theorem rn_solidD {K : PySem.W.Frag} (r : Rat) : SolidD (Rn K r) := fun s h => by
  rcases h with ⟨b, e, h⟩ | h
  · exact .inl ⟨b, e, rtAt_nld h s⟩
  · exact .inr h
theorem rq_solidD (r : Rat) : SolidD (Rq r) := fun s ⟨a, e, h⟩ => ⟨a, e, s _ _ h trivial⟩
/-- a dict's entry for a word -/
def TKv (R : Rat → Hp → V → Prop) (H : Hp) (kv : Key × V) (p : Wd × Rat) : Prop := kv.1 = .inr (tx p.1) ∧ R p.2 H kv.2
abbrev DL (R : Rat → Hp → V → Prop) (H : Hp) (kvs : List (Key × V)) (f : Ps) : Prop := Paired (TKv R H) kvs f
section
variable {R : Rat → Hp → V → Prop} {H H' : Hp} {kvs : List (Key × V)} {f : Ps} {w : Wd}
theorem DL.nld (hR : ∀ r, SolidD (R r)) (h : DL R H kvs f) (s : NLD H H') : DL R H' kvs f := Paired.mapP h fun a b ⟨e, q⟩ => ⟨e, hR _ s q⟩
theorem key_ne {p w : Wd} (h : p ≠ w) : ¬ (Sum.inr (tx p) : Key) = .inr (tx w) := fun z => h (tx_inj (by injection z))
theorem DL.keys (h : DL R H kvs f) : kvs.map (·.1) = (FoWd.keys f).map (fun w => (Sum.inr (tx w) : Key)) := by
  induction h with
  | nil => rfl
  | @cons a b l1 l2 r t ih =>
    show a.1 :: _ = Sum.inr (tx b.1) :: _
    rw [r.1, ih]
    rfl
theorem DL.look (h : DL R H kvs f) : (look f w = none ∧ valV kvs (.inr (tx w)) = none) ∨ ∃ x v, look f w = some x ∧ valV kvs (.inr (tx w)) = some v ∧ R x H v := by
  induction h with
  | nil => exact .inl ⟨rfl, rfl⟩
  | @cons a b l1 l2 r t ih =>
    obtain ⟨r1, r2⟩ := r
    by_cases e : b.1 = w
    · refine .inr ⟨b.2, a.2, ?_, ?_, r2⟩
      · show (if b.1 = w then some b.2 else _) = _
        rw [if_pos e]
      · exact valV_pos (by rw [r1, e])
    · have e1 : FoWd.look (b :: l2) w = FoWd.look l2 w := by
        show (if b.1 = w then some b.2 else FoWd.look l2 w) = _
        rw [if_neg e]
      have e2 : valV (a :: l1) (.inr (tx w)) = valV l1 (.inr (tx w)) := valV_neg (by rw [r1]; exact key_ne e)
      rw [e1, e2]
      exact ih
theorem putK_cons {a : Key × V} {l : List (Key × V)} {k : Key} {v : V} (hn : ((a :: l).map (·.1)).Nodup) : putK (a :: l) k v = if a.1 = k then (k, v) :: l else a :: putK l k v := by
  obtain ⟨n1, n2⟩ := List.nodup_cons.mp hn
  by_cases e : a.1 = k
  · rw [if_pos e]
    unfold putK
    rw [if_pos (by simp [e])]
    rw [List.map_cons, if_pos e, e]
    congr 1
    refine (List.map_congr_left fun q hq => ?_).trans (List.map_id _)
    have : ¬ q.1 = k := fun z => n1 (List.mem_map.mpr ⟨q, hq, z.trans e.symm⟩)
    rw [if_neg this]
    rfl
  · rw [if_neg e]
    unfold putK
    have e1 : ((a :: l).any fun kv => decide (kv.1 = k)) = l.any fun kv => decide (kv.1 = k) := by
      rw [List.any_cons, decide_eq_false e, Bool.false_or]
    rw [e1]
    split
    · rw [List.map_cons, if_neg e]
    · rfl
theorem DL.put {v : V} {x : Rat} (h : DL R H kvs f) (hn : (FoWd.keys f).Nodup) (q : R x H v) : DL R H (putK kvs (.inr (tx w)) v) (put f w x) := by
  have hk := h.keys
  have nk : (kvs.map (·.1)).Nodup := by
    rw [hk]
    refine List.Pairwise.map _ (fun a b hab z => hab (tx_inj (by injection z))) hn
  clear hk
  induction h with
  | nil => exact .cons ⟨rfl, q⟩ .nil
  | @cons a b l1 l2 r t ih =>
    rw [putK_cons nk]
    show DL R H _ (if b.1 = w then (w, x) :: l2 else b :: FoWd.put l2 w x)
    by_cases e : b.1 = w
    · rw [if_pos e, if_pos (by rw [r.1, e])]
      exact .cons ⟨rfl, q⟩ t
    · rw [if_neg e, if_neg (by rw [r.1]; exact key_ne e)]
      exact .cons r (ih (List.nodup_cons.mp hn).2 (List.nodup_cons.mp nk).2)
theorem DL.len (h : DL R H kvs f) : kvs.length = f.length := Paired.length h
theorem DL.snoc {v : V} {x : Rat} (h : DL R H kvs f) (q : R x H v) : DL R H (kvs ++ [((.inr (tx w)), v)]) (f ++ [(w, x)]) := by
  induction h with
  | nil => exact .cons ⟨rfl, q⟩ .nil
  | cons r t ih => exact .cons r ih
theorem DL.at_ (h : DL R H kvs f) {i : Nat} {k : Key} {v : V} (e : kvs[i]? = some (k, v)) : ∃ p, f[i]? = some p ∧ k = .inr (tx p.1) ∧ R p.2 H v := by
  obtain ⟨p, hp, r1, r2⟩ := paired_get h e
  exact ⟨p, hp, r1, r2⟩
end
theorem fm_take {f : Wd → Option (Wd × Rat)} {l : List Wd} {i : Nat} {a : Wd} (h : l[i]? = some a) : (l.take (i + 1)).filterMap f = (l.take i).filterMap f ++ (f a).toList := by
  rw [List.take_add_one, h, List.filterMap_append]
  have e : List.filterMap f [a] = (f a).toList := by
    rw [List.filterMap_cons]
    cases f a <;> rfl
  exact congrArg _ e
theorem ordered_nodup (N : Nat) (ps : Ps) : (ordered N ps).Nodup := List.Nodup.sublist List.filter_sublist (AW_nodup N)
/-- numbers that stay small while they are added one after the other -/
def Grow (B : Nat) (ps : Ps) : Prop := (∀ p ∈ ps, FoQ.SzR B p.2) ∧ ∀ i a, FoQ.SzR B (coef (ps.take i) a)
def spForm (K : PySem.W.Frag) : Sp := fun vs H Q _ => ∃ (a : Addr) (kvs : List (Key × V)) (ps : Ps) (N : Nat), vs = [.ref a] ∧ H a = some (.dK kvs) ∧ DL (Rr K) H kvs ps ∧ Le N ps ∧ N ≤ 60 ∧ ps.length ≤ 200 ∧ Grow 1900 ps ∧
  ∀ p H' kvs', H p = none → Same H H' → H' p = some (.dK kvs') → DL (Rr K) H' kvs' (form N ps) → Q (.ref p) H'
section
variable {P : Program} {w : World} {K : PySem.W.Frag} {mg : Str → Option Value} {base : Heap}
theorem ok_form_of (T : Tx K mg) : FnOk P w K mg base CX0 5 (He.ga K "_form_of") T.fd_form_of ["terms"] (spForm K) := by
  refine T.F_form_of.ok sc_form_of (fun vs H Q E h => ?_) (fun cdv A outer s H vs Q E hr h => ?_)
  · obtain ⟨a, kvs, ps, N, rfl, _⟩ := h
    rfl
  · obtain ⟨a, kvs, ps, N, rfl, ha, hL, hN, n60, l200, hG, Qr⟩ := h
    obtain ⟨ds, vd, bd⟩ := bind_init1 T
    refine ⟨_, (pss_cons (ps_set (i := 1) sc_form_of.nd rfl (.inr rfl) pe_dnewK)
      (pss_cons (ps_lock (ps_for PassesOwn.never rfl (pi_items (pv 0)) (pg_tup (by rfl) (pgs_cons (pg_name (i := 2) sc_form_of.nd rfl (.inl rfl)) (pgs_cons (pg_name (i := 3) sc_form_of.nd rfl (.inl rfl)) pgs_nil))) (pss_cons (ps_set (i := 4) sc_form_of.nd rfl (.inl rfl) (pe_call (ok_shortened T) (hr.mono (by decide)) (by rfl) T.g_shortened T.F_shortened.kp T.b_shortened .nil pass0 (pa_cons (pv 2) pa_nil)))
      (pss_one (ps_dput (Nat.lt_of_le_of_lt (Nat.add_le_add_left (by decide) _) hr.units) (pv 1) (pv 4) (pe_op (FoA.op_own (ok_addQ T) (hr.mono (by decide)) T.b_Ratio_add pass0 T.bi_add FoN.int_add FoN.int_addR) (pe_dget2 (Nat.lt_of_le_of_lt (Nat.add_le_add_left (by decide) _) hr.units) (pv 1) (pv 4) (pe_make T.mk_R (ok_initQ T) (hr.mono (by decide)) (by rfl) T.c_Ratio bd vd pass0 (pa_cons pe_int pa_nil)) ⟨by rfl, by rfl, by rfl, by rfl⟩) (pv 3)) rfl)))))
      (pss_cons (ps_set (i := 5) sc_form_of.nd rfl (.inl rfl) (pe_sortK rfl FoSrt.keyLen (by rfl) T.z_sorted (by decide +kernel) (by rfl) T.z_len (by decide +kernel) (pa_cons (pe_sortK rfl FoSrt.keyStr (by rfl) T.z_sorted (by decide +kernel) (by rfl) T.z_str (by decide +kernel) (pa_cons (pv 1) pa_nil)) pa_nil)))
      (pss_one (ps_ret (pe_dc (own := [("row", 2)]) (g := gName 2) rfl sc_form_of.nd (pi_list (pv 5)) (blkOk_by (own := [("row", 2)]) (N := ["terms", "total", "row", "number", "short", "in_order"]) (sc := defScope s_form_of) (by decide +kernel)) (fun _ _ _ _ _ => (pg_name (i := 2) sc_form_of.nd rfl (.inl rfl))) (fun _ _ _ _ _ => (pts_one (pt_cmpR (FoN.op_neC (ok_eqQ T) (hr.mono (by decide)) T.b_Ratio_eq pass0 T.cm_eq T.ne_R) (pe_dget (Nat.lt_of_le_of_lt (Nat.add_le_add_left (by decide) _) hr.units) (pv 1) (pv 2) (fun _ _ => rfl)) pe_int (nomark _)))) (fun _ _ _ _ _ => (pv 2)) (fun _ _ _ _ _ => (pe_dget (Nat.lt_of_le_of_lt (Nat.add_le_add_left (by decide) _) hr.units) (pv 1) (pv 2) (fun _ _ => rfl))))))))), ?_⟩
    refine fun p np => ?_
    have pa : p ≠ a := fun z => by rw [z, ha] at np; cases np
    have lk : kvs.length = ps.length := hL.len
    refine ⟨a, .dK kvs, by rw [upd_ne (Ne.symm pa)]; exact ha, trivial, fun od => ?_⟩
    have f0 : upd (upd H p (.dK [])) a (.frz od (.dK kvs)) a = some (.frz od (.dK kvs)) := upd_same
    have p0 : upd (upd H p (.dK [])) a (.frz od (.dK kvs)) p = some (.dK []) := by rw [upd_ne pa]; exact upd_same
    have s0 : ∀ b o, H b = some o → b ≠ a → upd (upd H p (.dK [])) a (.frz od (.dK kvs)) b = some o := fun b o e n => by
      rw [upd_ne n, upd_ne (fun z => by rw [z, np] at e; cases e)]
      exact e
    generalize upd (upd H p (.dK [])) a (.frz od (.dK kvs)) = H1 at *
    refine ⟨_, rfl, a, od, kvs, rfl, f0, ?_⟩
    refine for_it walk_items (fun i σ H2 => ∃ kt o2 o3 o4, σ = [some (.ref a), some (.ref p), o2, o3, o4, none] ∧ H2 a = some (.frz od (.dK kvs)) ∧ H2 p = some (.dK kt) ∧ DL (Rr K) H2 kt (gath (ps.take i)) ∧ ∀ b o, H b = some o → b ≠ a → H2 b = some o)
      ⟨[], none, none, none, rfl, f0, p0, .nil, s0⟩ (fun i σ H2 _ ⟨_, _, _, _, _, h, _⟩ => h) (fun i v σ H2 H3 hi h y => ?_) (fun σ H2 h => ?_)
    · obtain ⟨kt, o2, o3, o4, rfl, fa, hp, hD, hs⟩ := h
      obtain ⟨tp, k1, v1, rfl, ntp, rfl, ek, ev⟩ := y
      obtain ⟨⟨k0, v0⟩, e0⟩ : ∃ q, kvs[i]? = some q := ⟨_, List.getElem?_eq_getElem hi⟩
      dsimp only at ek ev
      rw [e0] at ek ev
      obtain ⟨q, eq, hk, r, hv, hr⟩ := hL.at_ e0
      obtain ⟨qw, qx⟩ := q
      have ek2 : V.str (tx qw) = k1 := by
        have z := Option.some.inj ek
        rw [hk] at z
        exact z
      have ev2 : V.ref r = v1 := by
        have z := Option.some.inj ev
        rw [hv] at z
        exact z
      subst ek2 ev2
      dsimp only at hr
      have mq := List.mem_of_getElem? eq
      have z1 := (hG.1 _ mq).mono (show 1900 ≤ 1900 by decide)
      have z2 := hG.2 i (sh qw)
      have lw : qw.length ≤ 1000 := Nat.le_trans (hN _ mq) (by omega)
      have na : tp ≠ a := fun z => by rw [z, fa] at ntp; cases ntp
      have npp : tp ≠ p := fun z => by rw [z, hp] at ntp; cases ntp
      have s3 := Same.upd ntp (o := .tup [V.str (tx qw), V.ref r])
      have t3 : upd H2 tp (.tup [V.str (tx qw), V.ref r]) tp = some (.tup [V.str (tx qw), V.ref r]) := upd_same
      have fa3 := s3 _ _ fa
      have hp3 := s3 _ _ hp
      have hD3 := hD.nld rr_solidD (same_nld s3)
      have ra : r ≠ a := fun z => by
        obtain ⟨dx, e⟩ := hr
        rw [z, ha] at e
        cases e
      have hr3 : RtAt K (upd H2 tp (.tup [V.str (tx qw), V.ref r])) r qx := by
        obtain ⟨dx, e⟩ := hr
        exact ⟨dx, s3 _ _ (hs _ _ e ra)⟩
      have hs3 : ∀ b o, H b = some o → b ≠ a → upd H2 tp (.tup [V.str (tx qw), V.ref r]) b = some o := fun b o e n => s3 _ _ (hs b o e n)
      generalize upd H2 tp (.tup [V.str (tx qw), V.ref r]) = H3 at *
      refine ⟨tp, _, rfl, SqT.of t3, rfl, _, _, rfl, _, _, rfl, rfl, _, rfl, qw, rfl, lw, ?_⟩
      refine ⟨_, rfl, p, rfl, .inl ⟨kt, .inl hp3⟩, _, rfl, ?_⟩
      refine rq_make (r := 0) (by decide) (sz_of 1000000 (by decide) (by decide) (by decide)) rfl fun p0 H4 np0 s4 h0 => ⟨rfl, ?_⟩
      have hp4 := s4 _ _ hp3
      have hr4 := hr3.same s4
      obtain ⟨dr, hr5⟩ := id hr4
      have got : ∃ o, DGet H4 p (.str (tx (sh qw))) o ∧ ∃ b, o.getD (.ref p0) = .ref b ∧ RtAt K H4 b (coef (ps.take i) (sh qw)) := by
        refine ⟨_, .inl ⟨kt, .inr (tx (sh qw)), .inl hp4, rfl, rfl⟩, ?_⟩
        rw [← (gath_all (ps.take i)).2.1 (sh qw)]
        rcases hD3.look (w := sh qw) with ⟨l1, l2⟩ | ⟨x, v, l1, l2, b, rfl, hb⟩
        · rw [l1, l2]
          exact ⟨p0, rfl, h0⟩
        · rw [l1, l2]
          exact ⟨b, rfl, hb.same s4⟩
      obtain ⟨o, g1, b, g2, hb⟩ := got
      refine ⟨o, g1, ?_⟩
      rw [g2]
      obtain ⟨db, hb5⟩ := id hb
      refine ⟨_, rfl, b, db, _, rfl, hb5, .inr ⟨r, dr, _, rfl, hr5⟩, b, .ref r, _, _, rfl, hb, .inl ⟨r, rfl, hr4⟩, trivial, z2, z1, fun p5 H5 np5 s5 h5 => ?_⟩
      have hp5 := s5 _ _ hp4
      refine ⟨_, rfl, _, rfl, p, _, rfl, .inl ⟨kt, .inr (tx (sh qw)), hp5, rfl, ?_, rfl⟩, _, _, _, _, rfl, ?_, upd_same, ?_, fun b o e n => ?_⟩
      · have z := gath_len (ps.take i)
        rw [← hD3.len, List.length_take] at z
        rw [sizeLine_eq]
        omega
      · rw [upd_ne (Ne.symm pa)]
        exact s5 _ _ (s4 _ _ fa3)
      · rw [gath_take eq]
        unfold addAt
        rw [(gath_all (ps.take i)).2.1]
        exact DL.put ((hD3.nld rr_solidD (same_nld (s4.trans s5))).nld rr_solidD (nld_upd hp5 id)) (gath_all (ps.take i)).1 ⟨p5, rfl, rtAt_nld h5 (nld_upd hp5 id)⟩
      · rw [upd_ne (fun z => by rw [z, np] at e; cases e)]
        exact s5 _ _ (s4 _ _ (hs3 b o e n))
    · obtain ⟨kt, o2, o3, o4, rfl, fa, hp, hD, hs⟩ := h
      refine ⟨fa, ?_⟩
      rw [lk, List.take_length] at hD
      have hp6 : upd H2 a (.dK kvs) p = some (.dK kt) := by rw [upd_ne pa]; exact hp
      have s6 : Same H (upd H2 a (.dK kvs)) := fun b o e => by
        by_cases z : b = a
        · rw [z, ha] at e
          cases e
          rw [z]
          exact upd_same
        · rw [upd_ne z]
          exact hs b o e z
      have hD6 : DL (Rr K) (upd H2 a (.dK kvs)) kt (gath ps) := hD.nld rr_solidD (nld_upd fa id)
      generalize upd H2 a (.dK kvs) = H3 at *
      have hk := hD6.keys
      have kl : (FoWd.keys (gath ps)).length ≤ 200 := by
        have z := gath_len ps
        unfold FoWd.keys
        rw [List.length_map]
        omega
      obtain ⟨gn, _, _⟩ := gath_all ps
      have gw := gath_aw hN
      refine ⟨_, rfl, p, (FoWd.keys (gath ps)).map tx, rfl, .inr ⟨kt, .inl hp6, by rw [hk, List.map_map]; rfl⟩, by rw [List.length_map]; omega, fun x hx => ?_, fun ys q1 o1 o2 nq => ?_⟩
      · obtain ⟨b, hb, rfl⟩ := List.mem_map.mp hx
        rw [tx_len]
        have := AW_len (gw b hb)
        omega
      have s7 := Same.upd nq (o := .lst (ys.map V.str))
      have g7 : upd H3 q1 (.lst (ys.map V.str)) q1 = some (.lst (ys.map V.str)) := upd_same
      have yl : ys.length ≤ 200 := by
        rw [o2.len, List.length_map]
        exact kl
      have yx : ∀ x ∈ ys, x.length ≤ 1000 := fun x hx => by
        obtain ⟨b, hb, rfl⟩ := List.mem_map.mp (o2.perm.mem_iff.mp hx)
        rw [tx_len]
        have := AW_len (gw b hb)
        omega
      refine ⟨q1, ys, rfl, .inl (SqL.of g7), by omega, yx, fun zs q2 o3 o4 nq2 => ?_⟩
      have ezs : zs = (ordered N ps).map tx := sorted_aw gn gw (o4.perm.trans o2.perm) (both_le2 o1 o3 o4)
      subst ezs
      have s8 := Same.upd nq2 (o := .lst (((ordered N ps).map tx).map V.str))
      have g8 : upd (upd H3 q1 (.lst (ys.map V.str))) q2 (.lst (((ordered N ps).map tx).map V.str)) q2 = some (.lst (((ordered N ps).map tx).map V.str)) := upd_same
      have s78 := s7.trans s8
      generalize upd (upd H3 q1 (.lst (ys.map V.str))) q2 (.lst (((ordered N ps).map tx).map V.str)) = H4 at *
      have hp8 := s78 _ _ hp6
      have hD8 := hD6.nld rr_solidD (same_nld s78)
      refine ⟨_, rfl, q2, rfl, ⟨_, SqL.of g8⟩, fun D nD => ?_⟩
      have hno := ordered_nodup N ps
      have hol : (ordered N ps).length ≤ 200 := by
        have z := o4.len
        rw [List.length_map] at z
        omega
      refine FoDc.dc_it walk_list (fun i H' => ∃ kvs', H' D = some (.dK kvs') ∧ DL (Rr K) H' kvs' (((ordered N ps).take i).filterMap fun a => if coef ps a = 0 then none else some (a, coef ps a)) ∧ Same H4 H') ⟨[], upd_same, .nil, Same.upd nD⟩
        (fun i H' _ ⟨_, _, _, s9⟩ => SqL.of (s9 _ _ g8)) (fun i x H5 H6 hi h y => ?_) (fun H5 h => ?_)
      · obtain ⟨kv5, hD5, hL5, s5⟩ := h
        obtain ⟨rfl, ex⟩ := y
        rw [List.getElem?_map, List.getElem?_map] at ex
        obtain ⟨wd, ew⟩ : ∃ wd, (ordered N ps)[i]? = some wd := ⟨_, List.getElem?_eq_getElem (by rw [List.length_map, List.length_map] at hi; exact hi)⟩
        rw [ew] at ex
        have ex2 : V.str (tx wd) = x := Option.some.inj ex
        subst ex2
        have mw : wd ∈ FoWd.keys (gath ps) := of_decide_eq_true (List.mem_filter.mp (List.mem_of_getElem? ew)).2
        have hp9 := s5 _ _ hp8
        have hD9 := hD8.nld rr_solidD (same_nld s5)
        obtain ⟨v, l2, b, rfl, hb⟩ : ∃ v, valV kt (.inr (tx wd)) = some v ∧ Rr K (coef ps wd) H6 v := by
          rcases hD9.look (w := wd) with ⟨l1, _⟩ | ⟨x, v, l1, l2, hv⟩
          · rw [gath_at mw] at l1
            cases l1
          · rw [gath_at mw] at l1
            cases l1
            exact ⟨v, l2, hv⟩
        have gd : DGet H6 p (.str (tx wd)) (some (.ref b)) := .inl ⟨kt, .inr (tx wd), .inl hp9, rfl, l2.symm⟩
        obtain ⟨db, hb5⟩ := id hb
        have tk := fm_take (f := fun a => if coef ps a = 0 then none else some (a, coef ps a)) ew
        refine ⟨rfl, _, rfl, _, rfl, p, .ref b, rfl, gd, ?_⟩
        refine ⟨b, db, _, 0, rfl, hb5, rfl, b, .int 0, coef ps wd, rfl, hb, .inl ⟨((0 : Int) : Rat), .inr ⟨0, rfl, rfl⟩, _, rfl, _, rfl, ?_⟩⟩
        by_cases c0 : coef ps wd = 0
        · rw [decide_eq_true (show coef ps wd = ((0 : Int) : Rat) from c0)]
          refine iteF ⟨kv5, hD5, ?_, s5⟩
          rw [tk, if_pos c0]
          simpa using hL5
        · rw [decide_eq_false (show ¬ coef ps wd = ((0 : Int) : Rat) from c0)]
          have hln : kv5.length ≤ 200 := by
            have z1 := hL5.len
            have z2 := List.length_filterMap_le (fun a => if coef ps a = 0 then none else some (a, coef ps a)) ((ordered N ps).take i)
            rw [List.length_take] at z2
            omega
          have fresh : wd ∉ FoWd.keys (((ordered N ps).take i).filterMap fun a => if coef ps a = 0 then none else some (a, coef ps a)) := by
            intro hm
            obtain ⟨pr, hpr, e1⟩ := List.mem_map.mp hm
            obtain ⟨a2, ha2, e2⟩ := List.mem_filterMap.mp hpr
            have e3 : a2 = wd := by
              by_cases z : coef ps a2 = 0
              · rw [if_pos z] at e2; cases e2
              · rw [if_neg z] at e2
                cases e2
                exact e1
            subst e3
            obtain ⟨j, hj, ej⟩ := List.mem_take_iff_getElem.mp ha2
            have i2 := (List.getElem?_eq_some_iff.mp ew)
            obtain ⟨i3, i4⟩ := i2
            exact (List.pairwise_iff_getElem.mp hno) j i (by omega) i3 (by omega) (ej.trans i4.symm)
          refine iteT ⟨_, rfl, _, rfl, _, rfl, p, .ref b, rfl, gd, kv5, .inr (tx wd), rfl, hD5, by rw [sizeLine_eq]; omega, _, upd_same, ?_, fun b2 o2 e2 => ?_⟩
          · rw [tk, if_neg c0]
            have nk : valV kv5 (.inr (tx wd)) = none := by
              rcases hL5.look (w := wd) with ⟨_, z⟩ | ⟨x, v, l1, _⟩
              · exact z
              · rw [look_none fresh] at l1; cases l1
            rw [putK_new _ nk]
            exact DL.snoc (hL5.nld rr_solidD (nld_upd hD5 id)) ⟨b, rfl, rtAt_nld hb (nld_upd hD5 id)⟩
          · rw [upd_ne (ne_of_none e2 nD)]
            exact s5 _ _ e2
      · obtain ⟨kv5, hD5, hL5, s5⟩ := h
        rw [List.length_map, List.length_map, List.take_length, ← form_ordered] at hL5
        exact Qr D H5 kv5 (s6.free (s78.free nD)) (s6.trans (s78.trans s5)) hD5 hL5
end

end Fo

set_option maxHeartbeats 4100000
namespace Fo
open PySem PySem.Spec PyProof.Rows L2
/-! ### formulas -/
open FoWd
def FmC (K : PySem.W.Frag) : Addr := He.ga K "Formula"
/-- at p stands a formula with the form f -/
def FmAt (K : PySem.W.Frag) (H : Hp) (p : Addr) (f : Ps) : Prop := ∃ dx d kvs, H p = some (.ins (FmC K) dx (putF "_terms" (.ref d) [])) ∧ H d = some (.dK kvs) ∧ DL (Rr K) H kvs f
theorem FmAt.same {K : PySem.W.Frag} {H H' : Hp} {p : Addr} {f : Ps} (h : FmAt K H p f) (s : Same H H') : FmAt K H' p f := by
  obtain ⟨dx, d, kvs, e1, e2, e3⟩ := h
  exact ⟨dx, d, kvs, s _ _ e1, s _ _ e2, e3.nld rr_solidD (same_nld s)⟩
/-- the same, and its dict is new since H -/
def FmN (K : PySem.W.Frag) (H H' : Hp) (p : Addr) (f : Ps) : Prop := ∃ dx d kvs, H d = none ∧ H' p = some (.ins (FmC K) dx (putF "_terms" (.ref d) [])) ∧ H' d = some (.dK kvs) ∧ DL (Rr K) H' kvs f
theorem FmN.at {K : PySem.W.Frag} {H H' : Hp} {p : Addr} {f : Ps} (h : FmN K H H' p f) : FmAt K H' p f := by
  obtain ⟨dx, d, kvs, _, e1, e2, e3⟩ := h
  exact ⟨dx, d, kvs, e1, e2, e3⟩
theorem FmN.back {K : PySem.W.Frag} {H0 H H' : Hp} {p : Addr} {f : Ps} (s : Same H0 H) (h : FmN K H H' p f) : FmN K H0 H' p f := by
  obtain ⟨dx, d, kvs, e0, e1, e2, e3⟩ := h
  exact ⟨dx, d, kvs, s.free e0, e1, e2, e3⟩
theorem FmN.same {K : PySem.W.Frag} {H H' H2 : Hp} {p : Addr} {f : Ps} (h : FmN K H H' p f) (s : Same H' H2) : FmN K H H2 p f := by
  obtain ⟨dx, d, kvs, e0, e1, e2, e3⟩ := h
  exact ⟨dx, d, kvs, e0, s _ _ e1, s _ _ e2, e3.nld rr_solidD (same_nld s)⟩
/-- two formulas with two dicts -/
def FmTwo (K : PySem.W.Frag) (H : Hp) (a b : Addr) (f g : Ps) : Prop := ∃ dx d kf dy u kg, d ≠ u ∧ H a = some (.ins (FmC K) dx (putF "_terms" (.ref d) [])) ∧ H d = some (.dK kf) ∧ DL (Rr K) H kf f ∧ H b = some (.ins (FmC K) dy (putF "_terms" (.ref u) [])) ∧ H u = some (.dK kg) ∧ DL (Rr K) H kg g
theorem FmTwo.swap {K : PySem.W.Frag} {H : Hp} {a b : Addr} {f g : Ps} (h : FmTwo K H a b f g) : FmTwo K H b a g f := by
  obtain ⟨dx, d, kf, dy, u, kg, n, e1, e2, e3, f1, f2, f3⟩ := h
  exact ⟨dy, u, kg, dx, d, kf, Ne.symm n, f1, f2, f3, e1, e2, e3⟩
theorem FmTwo.of {K : PySem.W.Frag} {H0 H : Hp} {a b : Addr} {f g : Ps} (h : FmAt K H0 a f) (s : Same H0 H) (n : FmN K H0 H b g) : FmTwo K H a b f g := by
  obtain ⟨dx, d, kf, e1, e2, e3⟩ := h
  obtain ⟨dy, u, kg, f0, f1, f2, f3⟩ := n
  exact ⟨dx, d, kf, dy, u, kg, (fun z => by rw [z, f0] at e2; cases e2), s _ _ e1, s _ _ e2, e3.nld rr_solidD (same_nld s), f1, f2, f3⟩
def spFInit (K : PySem.W.Frag) : Sp := fun vs H Q _ => ∃ (x dx a : Addr) (kvs : List (Key × V)) (ps : Ps) (N : Nat), vs = [.ref x, .ref a] ∧ H x = some (.ins (FmC K) dx []) ∧ H a = some (.dK kvs) ∧ DL (Rn K) H kvs ps ∧ (FoWd.keys ps).Nodup ∧ Le N ps ∧ N ≤ 60 ∧ ps.length ≤ 200 ∧ Grow 1900 ps ∧
  ∀ H', FmN K H H' x (form N ps) → But x H H' → Q .non H'
theorem take_fresh {ps : Ps} {i : Nat} {q : Wd × Rat} (hn : (FoWd.keys ps).Nodup) (e : ps[i]? = some q) : q.1 ∉ FoWd.keys (ps.take i) := by
  intro hm
  unfold FoWd.keys at hm hn
  rw [List.map_take] at hm
  obtain ⟨j, hj, ej⟩ := List.mem_take_iff_getElem.mp hm
  have e2 : (ps.map (·.1))[i]? = some q.1 := by rw [List.getElem?_map, e]; rfl
  obtain ⟨i3, i4⟩ := List.getElem?_eq_some_iff.mp e2
  exact (List.pairwise_iff_getElem.mp hn) j i (by omega) i3 (by omega) (ej.trans i4.symm)
section
variable {P : Program} {w : World} {K : PySem.W.Frag} {mg : Str → Option Value} {base : Heap}
theorem ok_Finit (T : Tx K mg) : FnOk P w K mg base CX0 6 (He.ma K (He.ga K "Formula") "__init__") T.fd_Formula_init ["self", "terms"] (spFInit K) := by
  refine T.F_Formula_init.ok sc_Formula_init (fun vs H Q E h => ?_) (fun cdv A outer s H vs Q E hr h => ?_)
  · obtain ⟨x, dx, a, kvs, ps, N, rfl, _⟩ := h
    rfl
  · obtain ⟨x, dx, a, kvs, ps, N, rfl, hx, ha, hL, hnd, hN, n60, l200, hG, Qr⟩ := h
    refine ⟨_, (pss_cons (ps_lock (ps_for PassesOwn.never rfl (pi_keys (pv 1)) (pg_name (i := 2) sc_Formula_init.nd rfl (.inl rfl)) (pss_one (ps_if (pt_not (pt_val (pe_call (ok_is_row T) (hr.mono (by decide)) (by rfl) T.g_is_row T.F_is_row.kp T.b_is_row .nil pass0 (pa_cons (pv 2) pa_nil)))) (pss_one ps_never) pss_nil))))
      (pss_one (ps_fld (pv 0) (pe_call (ok_form_of T) (hr.mono (by decide)) (by rfl) T.g_form_of T.F_form_of.kp T.b_form_of .nil pass0 (pa_cons (pe_lock (pe_dc (own := [("row", 2), ("number", 3)])  rfl sc_Formula_init.nd (pi_items (pv 1)) (blkOk_by (own := [("row", 2), ("number", 3)]) (N := ["self", "terms", "row", "number"]) (sc := defScope s_Formula_init) (by decide +kernel)) (fun _ _ _ _ _ => (FoK.pg_tupK (K' := K) (n := 2) rfl (by rfl) (pgs_cons (pg_name (i := 2) sc_Formula_init.nd rfl (.inl rfl)) (pgs_cons (pg_name (i := 3) sc_Formula_init.nd rfl (.inl rfl)) pgs_nil)))) (fun _ _ _ _ _ => pts_nil) (fun _ _ _ _ _ => (pv 2)) (fun _ _ _ _ _ => (pe_call (ok_asQ T) (hr.mono (by decide)) (by rfl) T.g_as_ratio T.F_as_ratio.kp T.b_as_ratio .nil pass0 (pa_cons (pv 3) pa_nil))))) pa_nil)) rfl))), ?_⟩
    have lk : kvs.length = ps.length := hL.len
    have xa : x ≠ a := fun z => by rw [z, ha] at hx; cases hx
    refine ⟨a, .dK kvs, ha, trivial, fun od => ?_⟩
    refine ⟨_, rfl, a, od, rfl, .inl ⟨kvs, upd_same, ?_⟩⟩
    refine for_it walk_keys (fun i σ H2 => ∃ o1 o2, σ = [some (.ref x), some (.ref a), o1, o2] ∧ Same (upd H a (.frz od (.dK kvs))) H2) ⟨_, _, rfl, Same.refl _⟩ (fun i σ H2 _ ⟨_, _, _, h⟩ => h _ _ upd_same) (fun i v σ H2 H3 hi h y => ?_) (fun σ H2 h => ?_)
    · obtain ⟨o1, o2, rfl, s2⟩ := h
      obtain ⟨rfl, k, v0, e0, rfl⟩ := y
      obtain ⟨q, eq, rfl, hr⟩ := hL.at_ e0
      have mq := List.mem_of_getElem? eq
      refine ⟨_, rfl, .str (tx q.1), rfl, .inl ⟨q.1, rfl, Nat.le_trans (hN _ mq) (by omega), fun H4 s4 => ?_⟩⟩
      exact ⟨_, rfl, iteF ⟨_, _, rfl, s2.trans s4⟩⟩
    · obtain ⟨o1, o2, rfl, s2⟩ := h
      refine ⟨s2 _ _ upd_same, ?_⟩
      have s3 : Same H (upd H2 a (.dK kvs)) := fun b o e => by
        by_cases z : b = a
        · rw [z, ha] at e
          cases e
          rw [z]
          exact upd_same
        · rw [upd_ne z]
          exact s2 _ _ (by rw [upd_ne z]; exact e)
      generalize upd H2 a (.dK kvs) = H3 at *
      have ha3 := s3 _ _ ha
      refine ⟨a, .dK kvs, ha3, trivial, fun od2 => ?_⟩
      have s4 : NLD H3 (upd H3 a (.frz od2 (.dK kvs))) := nld_upd ha3 id
      have f4 : upd H3 a (.frz od2 (.dK kvs)) a = some (.frz od2 (.dK kvs)) := upd_same
      have k4 : ∀ b o, H b = some o → b ≠ a → upd H3 a (.frz od2 (.dK kvs)) b = some o := fun b o e n => by
        rw [upd_ne n]
        exact s3 _ _ e
      have back : ∀ H5, Same (upd H3 a (.frz od2 (.dK kvs))) H5 → Same H (upd H5 a (.dK kvs)) := fun H5 s5 b o e => by
        by_cases z : b = a
        · rw [z, ha] at e
          cases e
          rw [z]
          exact upd_same
        · rw [upd_ne z]
          exact s5 _ _ (k4 b o e z)
      have hL4 := (hL.nld rn_solidD (same_nld s3)).nld rn_solidD s4
      generalize upd H3 a (.frz od2 (.dK kvs)) = H4 at *
      refine ⟨_, rfl, a, od2, kvs, rfl, f4, fun D nD => ?_⟩
      refine FoDc.dc_it walk_items (fun i H' => ∃ kv', H' D = some (.dK kv') ∧ DL (Rr K) H' kv' (ps.take i) ∧ Same H4 H') ⟨[], upd_same, .nil, Same.upd nD⟩ (fun i H' _ ⟨_, _, _, s9⟩ => s9 _ _ f4) (fun i v H5 H6 hi h y => ?_) (fun H5 h => ?_)
      · obtain ⟨kv', hD5, hL5, s5⟩ := h
        obtain ⟨tp, k1, v1, rfl, ntp, rfl, ek, ev⟩ := y
        obtain ⟨⟨k0, v0⟩, e0⟩ : ∃ q, kvs[i]? = some q := ⟨_, List.getElem?_eq_getElem hi⟩
        dsimp only at ek ev
        rw [e0] at ek ev
        obtain ⟨q, eq, hk, hv⟩ := hL4.at_ e0
        obtain ⟨qw, qx⟩ := q
        have ek2 : V.str (tx qw) = k1 := by
          have z := Option.some.inj ek
          rw [hk] at z
          exact z
        have ev2 : v0 = v1 := Option.some.inj ev
        subst ek2 ev2
        dsimp only at hv
        have s6 := Same.upd ntp (o := .tup [V.str (tx qw), v0])
        have t6 : upd H5 tp (.tup [V.str (tx qw), v0]) tp = some (.tup [V.str (tx qw), v0]) := upd_same
        have hD6 := s6 _ _ hD5
        have hL6 := hL5.nld rr_solidD (same_nld s6)
        have hv6 : Rn K qx (upd H5 tp (.tup [V.str (tx qw), v0])) v0 := rn_solidD _ (same_nld (s5.trans s6)) hv
        have s56 := s5.trans s6
        generalize upd H5 tp (.tup [V.str (tx qw), v0]) = H6 at *
        refine ⟨tp, _, rfl, SqT.of t6, rfl, _, _, rfl, _, _, rfl, rfl, rfl, ?_⟩
        refine ⟨_, rfl, _, rfl, v0, qx, rfl, hv6, fun b H7 s7 hb => ?_⟩
        have hD7 := s7 _ _ hD6
        have hL7 := hL6.nld rr_solidD (same_nld s7)
        have fresh : qw ∉ FoWd.keys (ps.take i) := take_fresh hnd eq
        have nk : valV kv' (.inr (tx qw)) = none := by
          rcases hL7.look (w := qw) with ⟨_, z⟩ | ⟨x, v, l1, _⟩
          · exact z
          · rw [look_none fresh] at l1; cases l1
        refine ⟨kv', .inr (tx qw), rfl, hD7, ?_, _, upd_same, ?_, fun b2 o2 e2 => ?_⟩
        · have z := hL7.len
          rw [List.length_take] at z
          rw [sizeLine_eq]
          omega
        · rw [putK_new _ nk, List.take_add_one, eq]
          exact DL.snoc (hL7.nld rr_solidD (nld_upd hD7 id)) ⟨b, rfl, rtAt_nld hb (nld_upd hD7 id)⟩
        · rw [upd_ne (ne_of_none e2 nD)]
          exact s7 _ _ (s56 _ _ e2)
      · obtain ⟨kv', hD5, hL5, s5⟩ := h
        rw [lk, List.take_length] at hL5
        refine ⟨s5 _ _ f4, ?_⟩
        have Da : D ≠ a := fun z => by rw [z, f4] at nD; cases nD
        have s8 := back H5 s5
        have hD8 : upd H5 a (.dK kvs) D = some (.dK kv') := by rw [upd_ne Da]; exact hD5
        have hL8 : DL (Rr K) (upd H5 a (.dK kvs)) kv' ps := hL5.nld rr_solidD (nld_upd (s5 _ _ f4) id)
        generalize upd H5 a (.dK kvs) = H8 at *
        refine ⟨D, kv', ps, N, rfl, hD8, hL8, hN, n60, l200, hG, fun p H9 kv9 np s9 hp9 hL9 => ?_⟩
        have hx9 := s9 _ _ (s8 _ _ hx)
        have px : p ≠ x := fun z => by
          rw [z, s8 _ _ hx] at np
          cases np
        refine ⟨_, rfl, x, FmC K, dx, [], rfl, hx9, T.cl_F, T.nT_F, by decide, ?_⟩
        refine Qr _ ⟨dx, p, kv9, s8.free np, upd_same, by rw [upd_ne px]; exact hp9, ?_⟩ fun b o e n => ?_
        · refine Paired.mapP hL9 fun kv q ⟨e1, b, e2, e3⟩ => ⟨e1, b, e2, ?_⟩
          obtain ⟨db, e3⟩ := e3
          refine ⟨db, ?_⟩
          rw [upd_ne (fun z => by
            rw [z, hx9] at e3
            have z2 := Option.some.inj e3
            injection z2 with z3 z4 z5
            cases z5)]
          exact e3
        · rw [upd_ne n]
          exact s9 _ _ (s8 _ _ e)
end

end Fo

set_option maxHeartbeats 4100000
namespace Fo
open PySem PySem.Spec PyProof.Rows L2
/-! ### a formula's terms -/
open FoWd
def spFTerms (K : PySem.W.Frag) : Sp := fun vs H Q _ => ∃ (a : Addr) (f : Ps), vs = [.ref a] ∧ FmAt K H a f ∧ ∀ p H' kvs, H p = none → Same H H' → H' p = some (.dK kvs) → DL (Rr K) H' kvs f → Q (.ref p) H'
section
variable {P : Program} {w : World} {K : PySem.W.Frag} {mg : Str → Option Value} {base : Heap}
theorem ok_Fterms (T : Tx K mg) : FnOk P w K mg base CX0 1 (He.ma K (He.ga K "Formula") "terms") T.fd_Formula_terms ["self"] (spFTerms K) := by
  refine T.F_Formula_terms.ok sc_Formula_terms (fun vs H Q E h => ?_) (fun cdv A outer s H vs Q E hr h => ?_)
  · obtain ⟨a, f, rfl, _⟩ := h
    rfl
  · obtain ⟨a, f, rfl, ⟨dx, d, kvs, e1, e2, e3⟩, q⟩ := h
    refine ⟨_, (pss_one (ps_ret (pe_callTy call_dictD (by rfl) T.z_dict (by decide +kernel) (pa_cons (pe_fld (pv 0) rfl) pa_nil)))), ?_⟩
    refine ⟨_, rfl, a, _, dx, _, _, rfl, e1, T.cl_F, T.nT_F, rfl, d, kvs, rfl, .inl e2, fun p np => ?_⟩
    exact q p _ kvs np (Same.upd np) upd_same (e3.nld rr_solidD (same_nld (Same.upd np)))
end

end Fo

set_option maxHeartbeats 1000000
namespace FoWd
/-! ### two forms compared as tables -/
theorem mem_form {N : Nat} {ps : Ps} {p : Wd × Rat} : p ∈ form N ps ↔ p.1 ∈ AW N ∧ coef ps p.1 ≠ 0 ∧ p.2 = coef ps p.1 := by
  unfold form
  rw [List.mem_filterMap]
  constructor
  · rintro ⟨a, ha, e⟩
    by_cases z : coef ps a = 0
    · rw [if_pos z] at e; cases e
    · rw [if_neg z] at e
      cases e
      exact ⟨ha, z, rfl⟩
  · rintro ⟨h1, h2, h3⟩
    refine ⟨p.1, h1, ?_⟩
    rw [if_neg h2, ← h3]
theorem keys_form {N : Nat} {ps : Ps} : keys (form N ps) = (AW N).filter fun a => decide (coef ps a ≠ 0) := by
  unfold form keys
  generalize AW N = l
  induction l with
  | nil => rfl
  | cons a l ih =>
    rw [List.filterMap_cons, List.filter_cons]
    by_cases z : coef ps a = 0
    · rw [if_pos z, if_neg (by simp [z])]
      exact ih
    · rw [if_neg z, if_pos (by simp [z])]
      show a :: _ = a :: _
      rw [ih]
theorem form_nodup (N : Nat) (ps : Ps) : (keys (form N ps)).Nodup := by
  rw [keys_form]
  exact List.Nodup.sublist List.filter_sublist (AW_nodup N)
theorem form_le (N : Nat) (ps : Ps) : Le N (form N ps) := fun p hp => AW_len (mem_form.mp hp).1
theorem look_mem {g : Ps} (hn : (keys g).Nodup) {w : Wd} {x : Rat} : look g w = some x ↔ (w, x) ∈ g := by
  induction g with
  | nil => exact ⟨fun h => (by cases h), fun h => absurd h (by simp)⟩
  | cons p r ih =>
    obtain ⟨n1, n2⟩ := List.nodup_cons.mp hn
    have e0 : look (p :: r) w = if p.1 = w then some p.2 else look r w := rfl
    rw [e0]
    by_cases e : p.1 = w
    · rw [if_pos e]
      constructor
      · intro h
        rw [← e, ← Option.some.inj h]
        exact List.mem_cons_self
      · intro h
        rcases List.mem_cons.mp h with h | h
        · rw [← h]
        · exact absurd (List.mem_map.mpr ⟨_, h, e.symm⟩) n1
    · rw [if_neg e, ih n2]
      constructor
      · exact List.mem_cons_of_mem _
      · intro h
        rcases List.mem_cons.mp h with h | h
        · exact absurd (by rw [← h]) e
        · exact h
theorem form_same {N : Nat} {ps qs : Ps} (h : ∀ a ∈ AW N, coef ps a = coef qs a) : form N ps = form N qs := by
  unfold form
  exact fmap_congr fun a ha => by rw [h a ha]
theorem filter_same {P Q : Wd → Bool} : ∀ l : List Wd, (∀ a ∈ l, P a = true → Q a = true) → (l.filter P).length ≤ (l.filter Q).length ∧ ((l.filter P).length = (l.filter Q).length → ∀ a ∈ l, P a = Q a)
  | [], _ => ⟨Nat.le_refl _, fun _ a ha => absurd ha (by simp)⟩
  | b :: l, h => by
    obtain ⟨i1, i2⟩ := filter_same (P := P) (Q := Q) l fun a ha => h a (List.mem_cons_of_mem _ ha)
    have hb := h b List.mem_cons_self
    rw [List.filter_cons, List.filter_cons]
    cases hp : P b with
    | true =>
      rw [hb hp]
      simp only [if_true, List.length_cons]
      refine ⟨by omega, fun e a ha => ?_⟩
      rcases List.mem_cons.mp ha with rfl | ha
      · rw [hp, hb hp]
      · exact i2 (by omega) a ha
    | false =>
      cases hq : Q b with
      | true =>
        simp only [Bool.false_eq_true, if_false, if_true, List.length_cons]
        exact ⟨by omega, fun e => by omega⟩
      | false =>
        simp only [Bool.false_eq_true, if_false]
        refine ⟨i1, fun e a ha => ?_⟩
        rcases List.mem_cons.mp ha with rfl | ha
        · rw [hp, hq]
        · exact i2 e a ha
/-- what is asked, pair by pair, is whether the forms are the same -/
theorem form_eq_bool (N : Nat) (ps qs : Ps) : ((form N ps).length == (form N qs).length && (form N ps).all fun p => decide (look (form N qs) p.1 = some p.2)) = decide (form N ps = form N qs) := by
  by_cases e : form N ps = form N qs
  · rw [decide_eq_true e, e]
    rw [Bool.and_eq_true]
    refine ⟨by simp, List.all_eq_true.mpr fun p hp => decide_eq_true ((look_mem (form_nodup N qs)).mpr hp)⟩
  · rw [decide_eq_false e]
    cases hb : ((form N ps).length == (form N qs).length && (form N ps).all fun p => decide (look (form N qs) p.1 = some p.2)) with
    | false => rfl
    | true =>
      refine absurd ?_ e
      rw [Bool.and_eq_true] at hb
      obtain ⟨h1, h2⟩ := hb
      have hl : (form N ps).length = (form N qs).length := eq_of_beq h1
      have sub : ∀ p ∈ form N ps, p ∈ form N qs := fun p hp => (look_mem (form_nodup N qs)).mp (of_decide_eq_true (List.all_eq_true.mp h2 p hp))
      have hk : ((AW N).filter fun a => decide (coef ps a ≠ 0)).length = ((AW N).filter fun a => decide (coef qs a ≠ 0)).length := by
        rw [← keys_form, ← keys_form]
        unfold keys
        rw [List.length_map, List.length_map]
        exact hl
      have imp : ∀ a ∈ AW N, decide (coef ps a ≠ 0) = true → decide (coef qs a ≠ 0) = true := fun a ha z => by
        have m : (a, coef ps a) ∈ form N ps := mem_form.mpr ⟨ha, of_decide_eq_true z, rfl⟩
        exact decide_eq_true (mem_form.mp (sub _ m)).2.1
      have same := (filter_same (AW N) imp).2 hk
      refine form_same fun a ha => ?_
      by_cases z : coef ps a = 0
      · have z1 := same a ha
        rw [decide_eq_false (fun w => w z)] at z1
        have z2 := of_decide_eq_false z1.symm
        rw [z]
        exact (Classical.not_not.mp z2).symm
      · have m : (a, coef ps a) ∈ form N ps := mem_form.mpr ⟨ha, z, rfl⟩
        exact (mem_form.mp (sub _ m)).2.2
end FoWd

set_option maxHeartbeats 4100000
/-! == of dicts, whose values are told by their own == . -/
namespace FoDq
open PySem PySem.Spec PyProof.Rows L2 FoG
/-- the pairs of the one, one after the other, looked up in the other -/
inductive Hits (X : Cx) (n : Nat) (H : Hp) (kb : List (Key × V)) : List (Key × V) → Bool → Prop where
  | nil : Hits X n H kb [] true
  | miss {k : Key} {v : V} {r : List (Key × V)} (h : valV kb k = none) : Hits X n H kb ((k, v) :: r) false
  | hit {k : Key} {v y : V} {r : List (Key × V)} {e b : Bool} (h : valV kb k = some y) (q : EqW X n H v y e) (t : Hits X n H kb r b) : Hits X n H kb ((k, v) :: r) (e && b)
theorem Hits.inv {X : Cx} {n : Nat} {H : Hp} {kb : List (Key × V)} {k : Key} {v : V} {r : List (Key × V)} {b : Bool} (h : Hits X n H kb ((k, v) :: r) b) :
    (valV kb k = none ∧ b = false) ∨ ∃ y e b', valV kb k = some y ∧ EqW X n H v y e ∧ Hits X n H kb r b' ∧ b = (e && b') := by
  cases h with
  | miss hn => exact .inl ⟨hn, rfl⟩
  | hit hy he hr => exact .inr ⟨_, _, _, hy, he, hr, rfl⟩
section
variable {X : Cx} {n : Nat} {a b : Addr} {H : Hp} {oa ob : Obj} {ka kb : List (Key × V)}
theorem pairs {nm : String} {pz : List (Addr × Obj)} {τ : L2.St} {s : Shared} {r : Bool} {Q : Bool → Shared → Prop} (I : Inv X pz τ H s) (ha : H a = some (.frz oa (.dK ka))) (hb : H b = some (.frz ob (.dK kb))) (hits : ka.length = kb.length → Hits X n H kb ka r)
    (h : ∀ s', Inv X pz τ H s' → Q (ka.length == kb.length && r) s') : wpAny (model X.prog X.w) (inN n X.A) (Builtin.Dict.samePairs nm a b) Q X.xe s := by
  obtain ⟨sa, ga, xa, es, ep, va, hda, zsa, kva, _⟩ := I.frzK ha
  obtain ⟨sb, gb, xb, es', ep', vb, hdb, zsb, kvb, _⟩ := I.frzK hb
  rw [← zsa, ← zsb] at h hits
  unfold Builtin.Dict.samePairs Builtin.Dict.showsAll
  rw [if_neg (show ¬ (a == sysModules) = true by rw [sa]; exact Bool.false_ne_true), if_neg (show ¬ (b == sysModules) = true by rw [sb]; exact Bool.false_ne_true)]
  refine wpAny_bind (wpAny_pure (wpAny_bind (wpAny_pure ?_)))
  refine wpAny_bind (wpAny_dictEntries ga hda ?_)
  dsimp only
  refine wpAny_bind (wpAny_dictEntries gb hdb ?_)
  by_cases hsz : es.size = es'.size
  case neg =>
    rw [if_pos (by simpa using hsz)]
    have hbf : (es.size == es'.size) = false := by simpa using hsz
    rw [hbf, Bool.false_and] at h
    exact wpAny_bind (wpAny_rule (wpAny_pure (h _ I)))
  case pos =>
    have h' : ∀ s', Inv X pz τ H s' → Q r s' := by simpa [hsz] using h
    have hits' := hits hsz
    rw [if_neg (by rw [hsz]; simp)]
    refine wpAny_bind (wpAny_dictEpoch ga hda ?_)
    refine wpAny_bind ?_
    rw [Std.Legacy.Range.forIn_eq_forIn_range']
    simp only [Std.Legacy.Range.size, Nat.sub_zero, Nat.add_sub_cancel, Nat.div_one]
    refine wpAny_forIn_list _
      (fun rest q s' => Inv X pz τ H s' ∧ q = (none, ()) ∧ ∃ i, rest = List.range' i (es.size - i) ∧ i ≤ es.size ∧ Hits X n H kb (ka.drop i) r)
      _ ?_ ?_ _ _ ⟨I, rfl, 0, by simp, Nat.zero_le _, hits'⟩
    · rintro x rest q t ⟨It, rfl, i, hr, hi, hpre⟩
      have hlt : i < es.size := by
        rcases Nat.lt_or_ge i es.size with h | h
        · exact h
        · rw [Nat.sub_eq_zero_of_le h] at hr; simp at hr
      obtain ⟨rfl, hrest⟩ : x = i ∧ rest = List.range' (i + 1) (es.size - (i + 1)) := by
        have e : es.size - i = (es.size - (i + 1)) + 1 := by omega
        rw [e, List.range'_succ] at hr
        injection hr with h1 h2
        exact ⟨h1, h2⟩
      obtain ⟨_, ga, _, es2, ep2, va, hda2, _, kva, da⟩ := It.frzK ha
      obtain ⟨rfl, rfl⟩ := dict_ep hda hda2
      obtain ⟨_, gb, _, es3, ep3, vb, hdb2, _, kvb, db⟩ := It.frzK hb
      obtain ⟨rfl, rfl⟩ := dict_ep hdb hdb2
      obtain ⟨oa', esa, hoa, _, hdaa, hka, hpa, _⟩ := da
      rw [ga] at hoa
      cases hoa
      obtain ⟨rfl, _⟩ := dict_ep hda hdaa
      obtain ⟨ob', esb, hob, _, hdbb, hkb, hpb, _⟩ := db
      rw [gb] at hob
      cases hob
      obtain ⟨rfl, _⟩ := dict_ep hdb hdbb
      have hfind : ∀ k, findBy (mixKind X.prog X.w).is esb k = valueAt vb k := fun k => by
        rw [← hpb.find k]
        clear hpb hkb hdbb hdb hdb2 gb hrest hits hits' hsz h h' zsb
        obtain ⟨l⟩ := esb
        simp [findBy]
      refine wpAny_bind (wpAny_dictEntries ga hda ?_)
      rw [Array.getElem?_eq_getElem hlt]
      have hlt' : x < ka.length := by omega
      obtain ⟨k, v, hkv⟩ : ∃ k v, ka[x] = (k, v) := ⟨_, _, rfl⟩
      obtain ⟨u, hu, ru⟩ := kv_get kva (show ka[x]? = some (k, v) by rw [List.getElem?_eq_getElem hlt', hkv])
      have hdrop : ka.drop x = (k, v) :: ka.drop (x + 1) := by rw [← hkv]; exact List.drop_eq_getElem_cons hlt'
      obtain ⟨hkey, hval⟩ := hpa.get? (i := x) (e := esa[x]) (k := k) (v := u) (by rw [Array.getElem?_toList]; exact Array.getElem?_eq_getElem hlt) hu
      obtain ⟨k', hk', hh⟩ := hka esa[x] (Array.getElem_mem hlt)
      have ekk : k' = k := (mixKind X.prog X.w).inj _ _ _ hk' hkey
      rw [ekk] at hh
      rw [hdrop] at hpre
      show wpAny _ _ (holding [esa[x].key, esa[x].val] _ >>= _) _ _ _
      rw [hh]
      refine wpAny_bind (wpAny_holding (wpAny_bind (wpAny_dictFind_of hkey gb hdb hkb ?_)))
      have rr : RelO (valV kb k) (valueAt vb k) := kvb.val k
      cases hj : esb.findIdx? fun e => (mixKind X.prog X.w).is k e.key with
      | none =>
        have hn : valueAt vb k = none := by rw [← hfind k, findBy_of_findIdx?, hj]
        rcases hpre.inv with ⟨_, er⟩ | ⟨y, _, _, hy, _⟩
        · rw [er] at h'
          refine wpAny_pure ?_
          show wpAny _ _ (if (!false) = true then _ else _) _ _ _
          rw [if_pos (by decide)]
          exact wpAny_pure (wpAny_pure (h' _ It))
        · rw [hn, hy] at rr; exact False.elim rr
      | some j =>
        obtain ⟨hjlt, _, _⟩ := Array.findIdx?_eq_some_iff_getElem.mp hj
        have hv' : valueAt vb k = some esb[j].val := by
          rw [← hfind k, findBy_of_findIdx?, hj]
          simp [Array.getElem?_eq_getElem hjlt]
        refine wpAny_bind (wpAny_dictEntries gb hdb ?_)
        rw [Array.getElem?_eq_getElem hjlt]
        rcases hpre.inv with ⟨hn, _⟩ | ⟨y, e, b', hy, he, hrr, er⟩
        · rw [hv', hn] at rr; exact False.elim rr
        · rw [hv', hy] at rr
          rw [← hval] at ru
          refine wpAny_holding (he pz τ t _ _ _ It ru rr fun t' It' => ?_)
          cases e with
          | false =>
            rw [er, Bool.false_and] at h'
            show wpAny _ _ (if (!false) = true then _ else _) _ _ _
            rw [if_pos (by decide)]
            exact wpAny_pure (wpAny_pure (h' _ It'))
          | true =>
            rw [Bool.true_and] at er
            rw [← er] at hrr
            obtain ⟨_, ga', _⟩ := It'.frzK ha
            show wpAny _ _ (if (!true) = true then _ else _) _ _ _
            rw [if_neg (by decide)]
            refine wpAny_bind (wpAny_dictEpoch ga' hda ?_)
            rw [if_neg (by simp)]
            exact wpAny_pure ⟨It', rfl, x + 1, hrest, hlt, hrr⟩
    · rintro q t ⟨It, rfl, i, hr, hi, hpre⟩
      have hin : i = es.size := by
        rcases Nat.lt_or_ge i es.size with h | h
        · have e : es.size - i = (es.size - (i + 1)) + 1 := by omega
          rw [e, List.range'_succ] at hr; exact nomatch hr
        · exact Nat.le_antisymm hi h
      refine wpAny_pure ?_
      rw [hin, zsa, List.drop_length] at hpre
      cases hpre
      exact h' _ It
/-- what is elsewhere than at a and b stands -/
def Els (a b : Addr) (H H' : Hp) : Prop := ∀ c o, c ≠ a → c ≠ b → H c = some o → H' c = some o
theorem rc_dicts {pz : List (Addr × Obj)} {τ : L2.St} {s : Shared} {r : Bool} {Q : Value → Shared → Prop} (hu : (inN n X.A).units < cLine) (I : Inv X pz τ H s) (ha : H a = some (.frz oa (.dK ka))) (hb : H b = some (.frz ob (.dK kb))) (hits : ka.length = kb.length → Hits X (n + 1) H kb ka r)
    (h : ∀ s', Inv X pz τ H s' → Q (.bool (ka.length == kb.length && r)) s') : wpAny (model X.prog X.w) (inN n X.A) (richCompare .Eq (.ref a) (.ref b)) Q X.xe s := by
  obtain ⟨sa, ga, xa, es, ep, va, hda, zsa, kva, da⟩ := I.frzK ha
  obtain ⟨sb, gb, xb, es', ep', vb, hdb, zsb, kvb, db⟩ := I.frzK hb
  have da' := da.dictOf
  have db' := db.dictOf
  refine wpAny_richCompare_same_room (op := .Eq) da'.typeIs db'.typeIs PySem.F.slot_dict_eq (wpAny_call_entry PySem.F.slot_dict_eq da'.typeIs PySem.F.entry_dict_eq ?_ (PySem.F.args_dict_eq_2 _ _)) hu
  show wpAny _ _ (Builtin.Dict.dictSlotArgs "__eq__" ⟨[.ref a, .ref b], []⟩ >>= _) _ _ s
  refine wpAny_bind ?_
  unfold Builtin.Dict.dictSlotArgs
  refine wpAny_bind (wpAny_notOrdered_dict da'.typeIs ?_)
  show wpAny _ _ (pure (Value.ref a, Value.ref b)) _ _ s
  refine wpAny_pure ?_
  refine wpAny_bind (wpAny_isInstance (T := "dict") db'.typeIs PySem.F.sub_dict_dict ?_)
  simp only [Bool.not_true, Bool.false_eq_true, if_false]
  refine wpAny_bind (wpAny_pure (wpAny_bind (wpAny_pure ?_)))
  refine wpAny_bind (pairs (n := n + 1) I ha hb hits fun s' I' => ?_)
  refine wpAny_pure ⟨_, rfl, ?_, ?_⟩
  · exact fun x => nomatch x
  · simpa using h s' I'
/-- a == b, dicts -/
def rEqDo (X : Cx) : R2 := fun x y H Q => ∃ a b ka kb r, x = .ref a ∧ y = .ref b ∧ H a = some (.dK ka) ∧ H b = some (.dK kb) ∧ (∀ H', Els a b H H' → ka.length = kb.length → Hits X 1 H' kb ka r) ∧ Q (.bl (ka.length == kb.length && r)) H
theorem op_eqDo (hu : X.A.units < cLine) : OpR X (compareOp .Eq) (rEqDo X) := by
  intro pz s τ H x y v u Q I rv ru h
  obtain ⟨a, b, ka, kb, r, rfl, rfl, ha, hb, hits, q⟩ := h
  cases rv
  cases ru
  show wpAny _ _ (richCompare .Eq (.ref a) (.ref b)) _ _ _
  obtain ⟨oa, I1⟩ := I.lock ha trivial
  by_cases e : b = a
  · subst e
    rw [ha] at hb
    cases hb
    have g1 : upd H b (.frz oa (.dK ka)) b = some (.frz oa (.dK ka)) := upd_same
    refine rc_dicts (n := 0) hu I1 g1 g1 (hits _ fun c o c1 c2 z => by rw [upd_ne c1]; exact z) fun s' I' => ?_
    have I2 := I'.unlock g1 (I.nofrz ha trivial)
    have eH : upd (upd H b (.frz oa (.dK ka))) b (.dK ka) = H := by
      rw [upd_upd]
      funext c
      unfold upd
      split
      · rename_i z; rw [z]; exact ha.symm
      · rfl
    rw [eH] at I2
    exact ⟨.bl _, H, I2, rfl, q⟩
  · have hb1 : upd H a (.frz oa (.dK ka)) b = some (.dK kb) := by rw [upd_ne e]; exact hb
    obtain ⟨ob, I2⟩ := I1.lock hb1 trivial
    have g2 : upd (upd H a (.frz oa (.dK ka))) b (.frz ob (.dK kb)) b = some (.frz ob (.dK kb)) := upd_same
    have g1 : upd (upd H a (.frz oa (.dK ka))) b (.frz ob (.dK kb)) a = some (.frz oa (.dK ka)) := by rw [upd_ne (Ne.symm e)]; exact upd_same
    refine rc_dicts (n := 0) hu I2 g1 g2 (hits _ fun c o c1 c2 z => by rw [upd_ne c2, upd_ne c1]; exact z) fun s' I' => ?_
    have I3 := I'.unlock g2 (I.nofrz hb trivial)
    have g4 : upd (upd (upd H a (.frz oa (.dK ka))) b (.frz ob (.dK kb))) b (.dK kb) a = some (.frz oa (.dK ka)) := by rw [upd_ne (Ne.symm e)]; exact g1
    have I4 := I3.unlock g4 (I.nofrz ha trivial)
    have eH : upd (upd (upd (upd H a (.frz oa (.dK ka))) b (.frz ob (.dK kb))) b (.dK kb)) a (.dK ka) = H := by
      funext c
      unfold upd
      by_cases c1 : c = a
      · rw [if_pos c1, c1]; exact ha.symm
      · rw [if_neg c1]
        by_cases c2 : c = b
        · rw [if_pos c2, c2]; exact hb.symm
        · rw [if_neg c2, if_neg c2, if_neg c1]
    rw [eH] at I4
    exact ⟨.bl _, H, I4, rfl, q⟩
end
end FoDq

set_option maxHeartbeats 4100000
namespace Fo
open PySem PySem.Spec PyProof.Rows L2
/-! ### formulas compared -/
open FoWd
theorem rt_inj {K : PySem.W.Frag} {H : Hp} {a : Addr} {x z : Rat} (ha : RtAt K H a x) (hb : RtAt K H a z) : x = z := by
  obtain ⟨d1, h1⟩ := ha
  obtain ⟨d2, h2⟩ := hb
  rw [h1] at h2
  injection h2 with h2
  injection h2 with _ _ w
  have e1 : x.num = z.num := by
    have := rf_top x.num x.den
    rw [w, rf_top] at this
    exact (V.int.inj (Option.some.inj this)).symm
  have e2 : (x.den : Int) = z.den := by
    have := rf_bot x.num x.den
    rw [w, rf_bot] at this
    exact (V.int.inj (Option.some.inj this)).symm
  exact (FoQ.q_eq_iff x z).mp ⟨e1, e2⟩
theorem eqW_rt {X : Cx} {n : Nat} {K : PySem.W.Frag} {k : Nat} {fd : FuncData} (hK : X.K = K) (F : FnOk X.prog X.w X.K X.mg X.base CX0 k (He.ma K (He.ga K "Ratio") "__eq__") fd ["self", "other"] (spEqQ K)) (hr : Room (k + n) X.A) (hb : Binds X.K fd ["self", "other"] []) (B : FoA.CmpC X.K (RC K) (He.ma K (He.ga K "Ratio") "__eq__") .Eq)
    {H : Hp} {a b : Addr} {x z : Rat} (ha : RtAt K H a x) (hz : RtAt K H b z) : FoG.EqW X n H (.ref a) (.ref b) (decide (x = z)) := by
  obtain ⟨da, ea⟩ := id ha
  obtain ⟨db, eb⟩ := id hz
  refine FoG.eqW_own F hr hb pass0 B ea eb (fun e => ?_) ?_
  · subst e
    exact decide_eq_true (rt_inj ha hz)
  · exact ⟨a, .ref b, x, rfl, ha, .inl ⟨z, .inl ⟨b, rfl, hz⟩, rfl, rfl⟩⟩
theorem hits_of {X : Cx} {K : PySem.W.Frag} {k : Nat} {fd : FuncData} (hK : X.K = K) (F : FnOk X.prog X.w X.K X.mg X.base CX0 k (He.ma K (He.ga K "Ratio") "__eq__") fd ["self", "other"] (spEqQ K)) (hr : Room (k + 1) X.A) (hb : Binds X.K fd ["self", "other"] []) (B : FoA.CmpC X.K (RC K) (He.ma K (He.ga K "Ratio") "__eq__") .Eq)
    {H : Hp} {kb : List (Key × V)} {g : Ps} (hg : DL (Rr K) H kb g) {ka : List (Key × V)} {f : Ps} (h : DL (Rr K) H ka f) : FoDq.Hits X 1 H kb ka (f.all fun p => decide (look g p.1 = some p.2)) := by
  induction h with
  | nil => exact .nil
  | @cons a b l1 l2 r t ih =>
    obtain ⟨ak, av⟩ := a
    obtain ⟨r1, c, rfl, hc⟩ := r
    dsimp only at r1
    subst r1
    rw [List.all_cons]
    rcases hg.look (w := b.1) with ⟨l1, l2⟩ | ⟨x, v, l1, l2, e, rfl, he⟩
    · rw [l1]
      exact .miss l2
    · rw [l1]
      have e1 : decide (some x = some b.2) = decide (b.2 = x) := decide_eq_decide.mpr ⟨fun z => (Option.some.inj z).symm, fun z => by rw [z]⟩
      rw [e1]
      exact .hit l2 (eqW_rt hK F hr hb B hc he) ih
theorem dl_els {K : PySem.W.Frag} {H H' : Hp} {d u : Addr} {kv kw kvs : List (Key × V)} {f : Ps} (hd : H d = some (.dK kv)) (hu : H u = some (.dK kw)) (s : FoDq.Els d u H H') (h : DL (Rr K) H kvs f) : DL (Rr K) H' kvs f :=
  Paired.mapP h fun a b ⟨e, c, e2, dx, e3⟩ => ⟨e, c, e2, dx, s _ _ (fun z => by rw [z, hd] at e3; cases e3) (fun z => by rw [z, hu] at e3; cases e3) e3⟩
def spFEq (K : PySem.W.Frag) : Sp := fun vs H Q _ => ∃ (a b : Addr) (ps qs : Ps) (N : Nat), vs = [.ref a, .ref b] ∧ FmAt K H a (form N ps) ∧ FmAt K H b (form N qs) ∧ Q (.bl (decide (form N ps = form N qs))) H
section
variable {P : Program} {w : World} {K : PySem.W.Frag} {mg : Str → Option Value} {base : Heap}
theorem ok_Feq (T : Tx K mg) : FnOk P w K mg base CX0 4 (He.ma K (He.ga K "Formula") "__eq__") T.fd_Formula_eq ["self", "other"] (spFEq K) := by
  refine T.F_Formula_eq.ok sc_Formula_eq (fun vs H Q E h => ?_) (fun cdv A outer s H vs Q E hr h => ?_)
  · obtain ⟨a, b, ps, qs, N, rfl, _⟩ := h
    rfl
  · obtain ⟨a, b, ps, qs, N, rfl, ⟨dx, d, kv, e1, e2, e3⟩, ⟨dy, u, kw, f1, f2, f3⟩, q⟩ := h
    refine ⟨_, (pss_one (ps_ret (pe_and (pe_callB call_isi (by rfl) T.z_isinstance (by decide +kernel) (pa_cons (pv 1) (pa_cons (pe_glob (v := V.ref (He.ga K "Formula")) (by rfl) T.c_Formula rfl) pa_nil))) (pe_one (pe_cmpR (FoDq.op_eqDo (Nat.lt_of_le_of_lt (Nat.le_add_right _ _) hr.units)) (pe_fld (pv 0) rfl) (pe_fld (pv 1) rfl) (nomark _)))))), ?_⟩
    refine ⟨_, rfl, _, _, _, _, _, rfl, .own _, FoB.TyI T.is_F T.cl_F f1, FoB.kit_self, _, rfl, iteT ?_⟩
    refine ⟨_, rfl, a, _, dx, _, _, rfl, e1, T.cl_F, T.nT_F, rfl, _, rfl, b, _, dy, _, _, rfl, f1, T.cl_F, T.nT_F, rfl, ?_⟩
    refine ⟨d, u, kv, kw, (form N ps).all fun p => decide (look (form N qs) p.1 = some p.2), rfl, rfl, e2, f2, fun H' hel _ => ?_, ?_⟩
    · exact hits_of rfl (ok_eqQ T) (hr.mono (by decide)) T.b_Ratio_eq T.cm_eq (dl_els e2 f2 hel f3) (dl_els e2 f2 hel e3)
    · rw [e3.len, f3.len, form_eq_bool]
      exact q
end

end Fo

set_option maxHeartbeats 4100000
namespace Fo
open PySem PySem.Spec PyProof.Rows L2
/-! ### formulas made of a formula -/
open FoWd
theorem keys_scl (c : Rat) (f : Ps) : FoWd.keys (scl c f) = FoWd.keys f := by
  unfold FoWd.keys scl
  rw [List.map_map]
  rfl
theorem scl_at {c : Rat} {f : Ps} {i : Nat} {q : Wd × Rat} (h : f[i]? = some q) : (scl c f)[i]? = some (q.1, c * q.2) := by
  unfold scl
  rw [List.getElem?_map, h]
  rfl
theorem le_scl {N : Nat} {c : Rat} {f : Ps} (h : Le N f) : Le N (scl c f) := fun p hp => by
  obtain ⟨q, hq, rfl⟩ := List.mem_map.mp hp
  exact h q hq
/-- what a formula made of another one promises -/
def spFNew (K : PySem.W.Frag) (g : Ps → Ps) : Sp := fun vs H Q _ => ∃ (a : Addr) (f : Ps) (N : Nat), vs = [.ref a] ∧ FmAt K H a f ∧ (FoWd.keys f).Nodup ∧ Le N f ∧ N ≤ 60 ∧ f.length ≤ 200 ∧ (∀ p ∈ f, FoQ.SzR 1900 p.2) ∧ Grow 1900 (g f) ∧
  ∀ p H', H p = none → Same H H' → FmN K H H' p (form N (g f)) → Q (.ref p) H'
/-- what a call of Formula asks -/
theorem fm_make {K : PySem.W.Frag} {H : Hp} {D : Addr} {kvs : List (Key × V)} {ps : Ps} {N : Nat} {R : Addr → VK} {E : XK} (hD : H D = some (.dK kvs)) (hL : DL (Rn K) H kvs ps) (hn : (FoWd.keys ps).Nodup) (hN : Le N ps) (n60 : N ≤ 60) (l200 : ps.length ≤ 200) (hG : Grow 1900 ps)
    (q : ∀ p H', H p = none → Same H H' → FmN K H H' p (form N ps) → R p .non H') :
    ∀ x dx, H x = none → H dx = none → dx ≠ x → spFInit K [.ref x, .ref D] (upd (upd H dx (.own x)) x (.ins (FmC K) dx [])) (R x) E := fun x dx nx ndx ne => by
  have s1 : Same H (upd (upd H dx (.own x)) x (.ins (FmC K) dx [])) := (Same.upd ndx).trans (Same.upd (by rw [upd_ne (Ne.symm ne)]; exact nx))
  exact ⟨x, dx, D, kvs, ps, N, rfl, upd_same, s1 _ _ hD, hL.nld rn_solidD (same_nld s1), hn, hN, n60, l200, hG, fun H' hF hB => q x H' nx (Same.made nx ndx hB) (hF.back s1)⟩
section
variable {P : Program} {w : World} {K : PySem.W.Frag} {mg : Str → Option Value} {base : Heap}
theorem ok_Fneg (T : Tx K mg) : FnOk P w K mg base CX0 8 (He.ma K (He.ga K "Formula") "__neg__") T.fd_Formula_neg ["self"] (spFNew K (scl (-1))) := by
  refine T.F_Formula_neg.ok sc_Formula_neg (fun vs H Q E h => ?_) (fun cdv A outer s H vs Q E hr h => ?_)
  · obtain ⟨a, f, N, rfl, _⟩ := h
    rfl
  · obtain ⟨a, f, N, rfl, ⟨dx, d, kvs, e1, ha, hL⟩, hnd, hN, n60, l200, hz, hG, Qr⟩ := h
    refine ⟨_, (pss_one (ps_ret (pe_make T.mk_F (ok_Finit T) (hr.mono (by decide)) (by rfl) T.c_Formula T.b_Formula_init .nil pass0 (pa_cons (pe_lock (pe_dc (own := [("row", 1), ("number", 2)])  rfl sc_Formula_neg.nd (pi_items (pe_fld (pv 0) rfl)) (blkOk_by (own := [("row", 1), ("number", 2)]) (N := ["self", "row", "number"]) (sc := defScope s_Formula_neg) (by decide +kernel)) (fun _ _ _ _ _ => (FoK.pg_tupK (K' := K) (n := 2) rfl (by rfl) (pgs_cons (pg_name (i := 1) sc_Formula_neg.nd rfl (.inl rfl)) (pgs_cons (pg_name (i := 2) sc_Formula_neg.nd rfl (.inl rfl)) pgs_nil)))) (fun _ _ _ _ _ => pts_nil) (fun _ _ _ _ _ => (pv 1)) (fun _ _ _ _ _ => (pe_un (FoA.un_own (ok_negQ T) (hr.mono (by decide)) T.b_Ratio_neg pass0 T.m_neg.at_ T.m_neg.fn) (pv 2))))) pa_nil)))), ?_⟩
    have lk : kvs.length = f.length := hL.len
    have ad : a ≠ d := fun z => by rw [z, ha] at e1; cases e1
    refine ⟨d, .dK kvs, ha, trivial, fun od2 => ?_⟩
    have s4 : NLD H (upd H d (.frz od2 (.dK kvs))) := nld_upd ha id
    have f4 : upd H d (.frz od2 (.dK kvs)) d = some (.frz od2 (.dK kvs)) := upd_same
    have a4 : upd H d (.frz od2 (.dK kvs)) a = some (.ins (FmC K) dx (putF "_terms" (.ref d) [])) := by rw [upd_ne ad]; exact e1
    have back : ∀ H5, Same (upd H d (.frz od2 (.dK kvs))) H5 → Same H (upd H5 d (.dK kvs)) := fun H5 s5 b o e => by
      by_cases z : b = d
      · rw [z, ha] at e
        cases e
        rw [z]
        exact upd_same
      · rw [upd_ne z]
        exact s5 _ _ (by rw [upd_ne z]; exact e)
    have hL4 := hL.nld rr_solidD s4
    generalize upd H d (.frz od2 (.dK kvs)) = H4 at *
    refine ⟨_, rfl, a, _, dx, _, _, rfl, a4, T.cl_F, T.nT_F, rfl, d, od2, kvs, rfl, f4, fun D nD => ?_⟩
    refine FoDc.dc_it walk_items (fun i H' => ∃ kv', H' D = some (.dK kv') ∧ DL (Rr K) H' kv' ((scl (-1) f).take i) ∧ Same H4 H') ⟨[], upd_same, .nil, Same.upd nD⟩ (fun i H' _ ⟨_, _, _, s9⟩ => s9 _ _ f4) (fun i v H5 H6 hi h y => ?_) (fun H5 h => ?_)
    · obtain ⟨kv', hD5, hL5, s5⟩ := h
      obtain ⟨tp, k1, v1, rfl, ntp, rfl, ek, ev⟩ := y
      obtain ⟨⟨k0, v0⟩, e0⟩ : ∃ q, kvs[i]? = some q := ⟨_, List.getElem?_eq_getElem hi⟩
      dsimp only at ek ev
      rw [e0] at ek ev
      obtain ⟨q, eq, hk, hv⟩ := hL4.at_ e0
      obtain ⟨qw, qx⟩ := q
      have ek2 : V.str (tx qw) = k1 := by
        have z := Option.some.inj ek
        rw [hk] at z
        exact z
      have ev2 : v0 = v1 := Option.some.inj ev
      subst ek2 ev2
      dsimp only at hv
      have s6 := Same.upd ntp (o := .tup [V.str (tx qw), v0])
      have t6 : upd H5 tp (.tup [V.str (tx qw), v0]) tp = some (.tup [V.str (tx qw), v0]) := upd_same
      have hD6 := s6 _ _ hD5
      have hL6 := hL5.nld rr_solidD (same_nld s6)
      obtain ⟨b0, rfl, hv6⟩ : Rr K qx (upd H5 tp (.tup [V.str (tx qw), v0])) v0 := rr_solidD _ (same_nld (s5.trans s6)) hv
      have s56 := s5.trans s6
      generalize upd H5 tp (.tup [V.str (tx qw), V.ref b0]) = H6 at *
      obtain ⟨db, eb⟩ := id hv6
      refine ⟨tp, _, rfl, SqT.of t6, rfl, _, _, rfl, _, _, rfl, rfl, rfl, ?_⟩
      refine ⟨_, rfl, _, rfl, b0, db, _, rfl, eb, b0, qx, rfl, hv6, (hz _ (List.mem_of_getElem? eq)).mono (by decide), fun b H7 nb s7 hb => ?_⟩
      have hD7 := s7 _ _ hD6
      have hL7 := hL6.nld rr_solidD (same_nld s7)
      have eqs := scl_at (c := -1) eq
      have fresh : qw ∉ FoWd.keys ((scl (-1) f).take i) := take_fresh (by rw [keys_scl]; exact hnd) eqs
      have nk : valV kv' (.inr (tx qw)) = none := by
        rcases hL7.look (w := qw) with ⟨_, z⟩ | ⟨x, v, l1, _⟩
        · exact z
        · rw [look_none fresh] at l1; cases l1
      refine ⟨kv', .inr (tx qw), rfl, hD7, ?_, _, upd_same, ?_, fun b2 o2 e2 => ?_⟩
      · have z := hL7.len
        have z2 : (scl (-1) f).length = f.length := List.length_map _
        rw [List.length_take, z2] at z
        rw [sizeLine_eq]
        omega
      · rw [putK_new _ nk, List.take_add_one, eqs]
        have e3 : -1 * qx = -qx := by grind
        dsimp only
        rw [e3]
        exact DL.snoc (hL7.nld rr_solidD (nld_upd hD7 id)) ⟨b, rfl, rtAt_nld hb (nld_upd hD7 id)⟩
      · rw [upd_ne (ne_of_none e2 nD)]
        exact s7 _ _ (s56 _ _ e2)
    · obtain ⟨kv', hD5, hL5, s5⟩ := h
      have z2 : (scl (-1) f).length = f.length := List.length_map _
      rw [lk, ← z2, List.take_length] at hL5
      refine ⟨s5 _ _ f4, ?_⟩
      have Da : D ≠ d := fun z => by rw [z, f4] at nD; cases nD
      have s8 := back H5 s5
      have hD8 : upd H5 d (.dK kvs) D = some (.dK kv') := by rw [upd_ne Da]; exact hD5
      have hL8 : DL (Rr K) (upd H5 d (.dK kvs)) kv' (scl (-1) f) := hL5.nld rr_solidD (nld_upd (s5 _ _ f4) id)
      generalize upd H5 d (.dK kvs) = H8 at *
      refine fm_make hD8 (Paired.mapP hL8 fun kv q ⟨e1, b, e2, e3⟩ => ⟨e1, .inl ⟨b, e2, e3⟩⟩) (by rw [keys_scl]; exact hnd) (le_scl hN) n60 (by rw [z2]; exact l200) hG fun p H9 np s9 hF => ⟨rfl, ?_⟩
      exact Qr p H9 (s8.free np) (s8.trans s9) (hF.back s8)
end

end Fo

set_option maxHeartbeats 4100000
/-! {'p': .., 'q': .., k: ..} where k is None, True or a tuple of texts; walking its keys. -/
namespace FoOd
open PySem PyProof.Rows PySem.SeqAt
section
variable {prog : Program} {w : World} {A : Around} {E : Value → Shared → Prop} {s : Shared} {d a : Addr} {o : Obj} {es : Array DictEntry} {ep : Nat}
/-- keys that are texts -/
def StrKeys (es : Array DictEntry) : Prop := ∀ e ∈ es, ∃ x t, e.key = Value.str x t
theorem tell_strs {v : Value} {stored : List Value} {Q : Bool → Shared → Prop} (hq : QuietAt prog w 8 s v) (hst : ∀ u ∈ stored, ∃ x t, u = Value.str x t) (h : Q false s) : wpAny (model prog w) A (tableMayTell v stored) Q E s := by
  unfold tableMayTell
  split
  · exact wpAny_pure h
  · refine wpAny_bind (hq _ _ _ ?_)
    simp only [Bool.not_true, Bool.false_eq_true, if_false]
    refine wpAny_bind ?_
    refine wpAny_forIn_list _ (fun rest r s' => s' = s ∧ r = (none, ()) ∧ ∀ v ∈ rest, ∃ x t, v = Value.str x t) _ ?_ ?_ _ _ ⟨rfl, rfl, hst⟩
    · rintro x rest r s' ⟨rfl, rfl, hr⟩
      obtain ⟨y, t, rfl⟩ := hr x List.mem_cons_self
      refine wpAny_bind (QuietAt.byValue rfl _ _ _ ?_)
      simp only [Bool.not_true, Bool.false_eq_true, if_false]
      exact wpAny_pure ⟨rfl, rfl, fun v hv => hr v (List.mem_cons_of_mem _ hv)⟩
    · rintro r s' ⟨rfl, rfl, _⟩
      exact wpAny_pure h
theorem stored_strs {g : Int} (hs : StrKeys es) : ∀ v ∈ (placesWithHash es.size (fun i => es[i]?.map (·.hash)) g).filterMap (fun i => es[i]?.map (·.key)), ∃ x t, v = Value.str x t := by
  intro v hv
  obtain ⟨i, _, hi⟩ := List.mem_filterMap.mp hv
  cases hei : es[i]? with
  | none => rw [hei] at hi; cases hi
  | some e =>
    rw [hei] at hi
    obtain rfl : e.key = v := by simpa using hi
    exact hs e (Array.mem_of_getElem? hei)
/-- a tuple isn't among the texts -/
theorem find_tuple {ks : List NestedKey} {g : Int} {Q : Option Nat → Shared → Prop} (hu : A.units + 20 < cLine) (hk : NestedIs s.heap (.tup ks) (.ref a)) (h8 : (NestedKey.tup ks).depth ≤ 8) (ho : s.heap.get? d = some o) (hd : o.data = .dict es ep) (hs : StrKeys es)
    (h : Q none s) : wpAny (model prog w) A (dictFind d (.ref a) g) Q E s := by
  have hany : ¬ (es.any fun e => e.key == Value.ref a && e.hash != g) = true := by
    rw [← Array.any_toList, List.any_eq_true]
    rintro ⟨e, hin, hc⟩
    obtain ⟨x, t, ek⟩ := hs e (Array.mem_toList_iff.mp hin)
    rw [ek] at hc
    simp at hc
  have hst := stored_strs (g := g) hs
  unfold dictFind
  try with_reducible refine wpAny_holding ?_
  refine wpAny_bind (wpAny_dictEntries ho hd ?_)
  dsimp only
  rw [if_neg (show ¬ ((Value.ref a :: (placesWithHash es.size (fun i => es[i]?.map (·.hash)) g).filterMap (fun i => es[i]?.map (·.key))).all carriedByValue) = true by simp [carriedByValue])]
  rw [if_neg hany]
  have hone : ¬ (((placesWithHash es.size (fun i => es[i]?.map (·.hash)) g).filterMap (fun i => es[i]?.map (·.key))) == [Value.ref a]) = true := by
    intro z
    obtain ⟨x, t, e⟩ := hst (Value.ref a) (by rw [eq_of_beq z]; simp)
    cases e
  rw [if_neg hone]
  refine wpAny_bind (tell_strs (quiet_key _ _ 8 s hk h8) hst ?_)
  rw [if_neg (by simp)]
  refine wpAny_bind ?_
  refine wpAny_forIn_list _ (fun rest b s' => s' = s ∧ b = (none, none)) _ ?_ ?_ _ _ ⟨rfl, rfl⟩
  · rintro x rest b s' ⟨rfl, rfl⟩
    cases hex : es[x]? with
    | none => exact wpAny_pure ⟨rfl, rfl⟩
    | some e =>
      dsimp only
      obtain ⟨y, t, ek⟩ := hs e (Array.mem_of_getElem? hex)
      by_cases hh : (e.hash == g) = true
      · rw [if_pos hh]
        have q : EqAt A s' e.key (.ref a) false := by
          rw [ek]
          exact eqAt_key (.text y) (.tup ks) A s' _ _ (.text y t) hk (by simp only [NestedKey.depth]; omega)
        refine wpAny_bind (wpAny_dictEpoch ho hd (wpAny_bind (q _ _ _ _ (wpAny_bind (wpAny_dictEpoch ho hd ?_)))))
        show wpAny _ _ (if (ep != ep) = true then _ else _) _ E _
        rw [if_neg (by simp)]
        simp only [Bool.false_eq_true, if_false]
        refine wpAny_bind (wpAny_rule ?_)
        first | rw [if_neg (by simp)] | skip
        first
          | exact wpAny_pure ⟨rfl, rfl⟩
          | exact wpAny_bind (wpAny_pure (wpAny_pure ⟨rfl, rfl⟩))
      · rw [if_neg hh]
        exact wpAny_pure ⟨rfl, rfl⟩
  · rintro b s' ⟨rfl, rfl⟩
    exact wpAny_pure h
/-- a key that is carried by value, and no text, isn't among the texts -/
theorem find_plain {k : NestedKey} {v : Value} {g : Int} {Q : Option Nat → Shared → Prop} (hu : A.units + 20 < cLine) (hk : NestedIs s.heap k v) (hv : carriedByValue v = true) (ht : ∀ x, k ≠ .text x) (ho : s.heap.get? d = some o) (hd : o.data = .dict es ep) (hs : StrKeys es)
    (h : Q none s) : wpAny (model prog w) A (dictFind d v g) Q E s := by
  have hst := stored_strs (g := g) hs
  have hns : ∀ x t, v ≠ Value.str x t := by
    rintro x t rfl
    cases hk
    exact ht _ rfl
  have hd0 : k.depth = 0 := by
    cases k with
    | tup ks => cases hk; exact absurd hv (by simp [carriedByValue])
    | _ => rfl
  have hall : ((v :: (placesWithHash es.size (fun i => es[i]?.map (·.hash)) g).filterMap (fun i => es[i]?.map (·.key))).all carriedByValue) = true := by
    rw [List.all_cons, hv, List.all_eq_true.mpr, Bool.and_true]
    intro u hu
    obtain ⟨x, t, rfl⟩ := hst u hu
    rfl
  have old : wpAny (model prog w) A (dictWalkPlain d v g es (placesWithHash es.size (fun i => es[i]?.map (·.hash)) g)) Q E s := by
    refine wpAny_bind ?_
    refine wpAny_forIn_list _ (fun rest b s' => s' = s ∧ b = (none, ())) _ ?_ ?_ _ _ ⟨rfl, rfl⟩
    · rintro x rest b s' ⟨rfl, rfl⟩
      cases hex : es[x]? with
      | none => exact wpAny_pure ⟨rfl, rfl⟩
      | some e =>
        dsimp only
        obtain ⟨y, t, ek⟩ := hs e (Array.mem_of_getElem? hex)
        by_cases hh : (e.hash == g) = true
        · rw [if_pos hh]
          have q : EqAt A s' e.key v false := by
            rw [ek]
            have z := eqAt_key (.text y) k A s' _ _ (.text y t) hk (by simp only [NestedKey.depth]; omega)
            have e1 : NestedKey.beq (.text y) k = false := by
              cases k with
              | text x => exact absurd rfl (ht x)
              | _ => rfl
            rw [e1] at z
            exact z
          refine wpAny_bind (wpAny_dictEpoch ho hd (wpAny_bind (q _ _ _ _ (wpAny_bind (wpAny_dictEpoch ho hd ?_)))))
          show wpAny _ _ (if (ep != ep) = true then _ else _) _ E _
          rw [if_neg (by simp)]
          simp only [Bool.false_eq_true, if_false]
          exact wpAny_bind (wpAny_rule (wpAny_pure ⟨rfl, rfl⟩))
        · rw [if_neg hh]
          exact wpAny_pure ⟨rfl, rfl⟩
    · rintro b s' ⟨rfl, rfl⟩
      exact wpAny_pure h
  unfold dictFind
  try with_reducible refine wpAny_holding ?_
  refine wpAny_bind (wpAny_dictEntries ho hd ?_)
  cases v with
  | str x t => exact absurd rfl (hns x t)
  | ref b => exact absurd hv (by simp [carriedByValue])
  | _ =>
    dsimp only
    rw [if_pos hall]
    exact old
theorem set_odd {k : NestedKey} {v u : Value} {Q : Unit → Shared → Prop} (hu : A.units + 20 < cLine) (hk : NestedIs s.heap k v) (h8 : k.depth ≤ 8) (ht : ∀ x, k ≠ .text x) (hm : s.heap.DictRaw d es ep) (hs : StrKeys es) (hz : es.size ≤ 100)
    (hQ : ∀ h' tk, h'.DictRaw d (es.push ⟨k.hash w, v, u⟩) (ep + 1) → Heap.SameBut d s.heap h' → Q () { s with heap := h', toks := tk }) : wpAny (model prog w) A (dictSet d v u) Q E s := by
  obtain ⟨o, ho, hc, hd⟩ := hm
  unfold dictSet
  try with_reducible refine wpAny_holding ?_
  refine wpAny_bind (pyHash_key k v A s _ hk (by omega) ?_)
  unfold dictSetHashed
  try with_reducible refine wpAny_holding ?_
  have fin : ∀ tk, wpAny (model prog w) A (do rule "dict.set.new-key-at-the-end"; updateDictKeys d (·.push ⟨k.hash w, v, u⟩) (keyPart v)) Q E { s with toks := tk } := fun tk =>
    wpAny_bind (wpAny_rule (wpAny_updateDictKeys (hz := by rw [sizeLine_eq]; omega) (s := { s with toks := tk }) ho hd (hQ _ _ ⟨_, Heap.get?_update_self _ ho (Obj.isFreed_of_dict (Obj.data_mapDictKeys hd _)), hc.mapDictKeys _, Obj.data_mapDictKeys hd _⟩ (Heap.SameBut.update ..))))
  cases hv : carriedByValue v with
  | true => exact wpAny_bind (find_plain (s := { s with toks := _ }) hu hk hv ht ho hd hs (fin _))
  | false =>
    cases hk with
    | tup h1 h2 h3 h4 => exact wpAny_bind (find_tuple (s := { s with toks := _ }) hu (.tup h1 h2 h3 h4) h8 ho hd hs (fin _))
    | _ => exact absurd hv (by simp [carriedByValue])
end
end FoOd

set_option maxHeartbeats 4100000
namespace FoOd
open PySem PySem.Spec PyProof.Rows L2
/-- a dict whose keys are xs, read only -/
def odd (p : Addr) (xs : List V) : HO := .ext fun h => ∃ (es : Array DictEntry) (ep : Nat), h.DictRaw p es ep ∧ (p == sysModules) = false ∧ es.size = xs.length ∧ ∀ (i : Nat) (x : V), xs[i]? = some x → ∃ en, es[i]? = some en ∧ RelV x en.key
/-- the keys of the locked dict -/
def Ito (d : Addr) (o : Obj) (xs : List V) : It :=
  ⟨fun i H => H d = some (.frz o (odd d xs)) ∧ i < xs.length, fun i H x H' => H' = H ∧ xs[i]? = some x, fun i H => H d = some (.frz o (odd d xs)) ∧ xs.length ≤ i⟩
section
variable {X : Cx} {pins : List (Addr × Obj)} {σ : L2.St} {H : Hp} {s : Shared} {d : Addr} {o : Obj} {xs : List V}
theorem frz_odd (I : Inv X pins σ H s) (h : H d = some (.frz o (odd d xs))) : (d == sysModules) = false ∧ s.heap.get? d = some o ∧ o.ExactDict ∧ ∃ (es : Array DictEntry) (ep : Nat), o.data = .dict es ep ∧ es.size = xs.length ∧ ∀ (i : Nat) (x : V), xs[i]? = some x → ∃ en, es[i]? = some en ∧ RelV x en.key := by
  obtain ⟨hd, ⟨es, ep, ⟨o', ho, hx, hdt⟩, hs, hz, he⟩, _⟩ := (show ObjOk X.prog X.w H s.heap d (.frz o (odd d xs)) from I.hok d _ h)
  rw [hd] at ho
  cases ho
  exact ⟨hs, hd, hx, es, ep, hdt, hz, he⟩
end
section
variable {P : Program} {w : World} {K : PySem.W.Frag} {tg : Expr} {d : Addr} {o : Obj} {es : Array DictEntry} {ep : Nat}
theorem turn_odd {xs : List V} (it : Addr) (hod : o.data = .dict es ep) : Turn P w K tg (Ito d o xs) [it] it (fun i h => h.IsKeyIter it d i xs.length ep) where
  mem := by simp
  obj := fun i h st b hb => by
    have e : b = it := by simpa using hb
    subst e
    obtain ⟨oi, e, c, dd⟩ := st
    exact ⟨oi, e, fun v z => by rw [dd] at z; cases z⟩
  keep := fun i h h' st k => st.at fun oi e => k it (by simp) oi e
  item := by
    intro X hP hw hK hc i pins s σ H E I hf st hg
    subst hP hw hK
    obtain ⟨hd, hi⟩ := hg
    obtain ⟨f0, f1, f2, f3, f4, f5⟩ := hf it (by simp)
    obtain ⟨hs, hgd, hx, es', ep', hdt, hsz, ent⟩ := frz_odd I hd
    obtain ⟨rfl, rfl⟩ := dict_ep hod hdt
    obtain ⟨en, hen, hkey⟩ := ent i xs[i] (List.getElem?_eq_getElem hi)
    refine next_key_item st hgd hdt hsz hen fun h' st' sb => ?_
    have I1 : Inv X pins σ H { s with heap := h' } := I.turned (t' := s.toks) (fun b ob hb e => (sb.2 b hb).trans e) f0 f1 f3 f4 f5
    obtain ⟨oi, e, c, dd⟩ := id st'
    exact ⟨en.key, rfl, go_of (s := { s with heap := h' }) e c dd (by decide) ⟨xs[i], H, I1, hkey, ⟨rfl, List.getElem?_eq_getElem hi⟩, st', fun b hb => (hf b hb).1⟩⟩
  done := by
    intro X hP hw hK hc i pins s σ H E I hf st hg
    subst hP hw hK
    obtain ⟨hd, hi⟩ := hg
    obtain ⟨f0, f1, f2, f3, f4, f5⟩ := hf it (by simp)
    obtain ⟨hs, hgd, hx, es', ep', hdt, hsz, ent⟩ := frz_odd I hd
    obtain ⟨rfl, rfl⟩ := dict_ep hod hdt
    exact next_key_end (I.ok.hd hc) st hgd hdt hsz hi fun h' eb => ⟨rfl, I.turned (t' := s.toks) (fun b ob hb e => eb b ob hb e) f0 f1 f3 f4 f5⟩
  self := fun A i s Q E st h => by
    refine wpAny_pyIter_slot st.typeIs F.slot_dict_keyiterator_iter (wpAny_call_entry F.slot_dict_keyiterator_iter st.typeIs F.entry_dict_keyiterator_iter ?_ (F.args_dict_keyiterator_iter_1 _))
    show wpAny _ _ (ret (.ref it)) _ _ s
    exact wpAny_pure ⟨_, rfl, "dict_keyiterator", _, st.typeIs, F.slot_dict_keyiterator_next.lookup, h⟩
end
/-- for k in e: the keys of a dict of whatever kind -/
def iOdd (td : TE) : TI := fun σ H R => td σ H fun x H1 => ∃ d o xs, x = .ref d ∧ H1 d = some (.frz o (odd d xs)) ∧ R (Ito d o xs) H1
section
variable {X : Cx} {tg e : Expr} {td : TE}
theorem pi_odd (he : PE X e td) : PI X tg e (iOdd td) := by
  refine ⟨fun pins s σ H R I h => ?_⟩
  refine thn (he.run pins s σ H _ I h) fun u s1 ⟨x, H1, I1, rx, d, o, xs, ex, hd, q⟩ => ?_
  subst ex
  obtain rfl : u = Value.ref d := rx
  obtain ⟨hs, hgd, hx, es, ep, hdt, hsz, ent⟩ := frz_odd I1 hd
  refine iter_keys hs hgd hx hdt (pi_one (tk := s1.toks) I1 _ (turn_odd _ hdt) ⟨_, Heap.get?_push_size _ rfl, rfl, ?_⟩ q)
  rw [hsz] <;> rfl
end
/-- None, True, a tuple of texts -/
def OddK (H : Hp) (z : V) : Prop := z = .non ∨ z = .bl true ∨ ∃ (q : Addr) (xs : List Str), z = .ref q ∧ H q = some (.tup (xs.map V.str))
theorem nested_strs {h : Heap} : ∀ {xs : List Str} {us : List Value}, Vals (xs.map V.str) us → NestedAll h (xs.map NestedKey.text) us
  | [], _, r => by cases r; exact .nil
  | x :: xs, _, r => by
    rw [List.map_cons] at r
    cases r with
    | cons r t =>
      obtain ⟨tk, rfl⟩ := r
      exact .cons (.text x tk) (nested_strs t)
theorem depth_strs (w : Nat) : ∀ xs : List Str, NestedKey.depthAll (xs.map NestedKey.text) = 0
  | [] => rfl
  | x :: xs => by
    show max (NestedKey.depth (.text x)) (NestedKey.depthAll (xs.map NestedKey.text)) = 0
    rw [depth_strs w xs]
    rfl
theorem oddK_is {X : Cx} {pins : List (Addr × Obj)} {σ : L2.St} {H : Hp} {s : Shared} {z : V} {v : Value} (I : Inv X pins σ H s) (h : OddK H z) (r : RelV z v) : ∃ k : NestedKey, NestedIs s.heap k v ∧ k.depth ≤ 8 ∧ ∀ x, k ≠ .text x := by
  rcases h with rfl | rfl | ⟨q, xs, rfl, hq⟩
  · obtain rfl : v = Value.none := r
    exact ⟨.none, .none, by decide, fun x e => nomatch e⟩
  · obtain rfl : v = Value.bool true := r
    exact ⟨.num 1, .bool rfl, by decide, fun x e => nomatch e⟩
  · obtain rfl : v = Value.ref q := r
    obtain ⟨_, its, rv, o, ho, hc, n, hd⟩ := I.hok q _ hq
    refine ⟨.tup (xs.map NestedKey.text), .tup ho hc hd (nested_strs rv), ?_, fun x e => nomatch e⟩
    show NestedKey.depthAll _ + 1 ≤ 8
    rw [depth_strs 0]
    decide
theorem vv3 {a b c d e f : V} {ws : List (Value × Value)} (h : VV [(a, b), (c, d), (e, f)] ws) : ∃ k1 u1 k2 u2 k3 u3, ws = [(k1, u1), (k2, u2), (k3, u3)] ∧ L2.RelV a k1 ∧ L2.RelV b u1 ∧ L2.RelV c k2 ∧ L2.RelV d u2 ∧ L2.RelV e k3 ∧ L2.RelV f u3 := by
  cases h with
  | @cons _ w1 _ _ r1 h =>
  cases h with
  | @cons _ w2 _ _ r2 h =>
  cases h with
  | @cons _ w3 _ _ r3 h =>
  cases h
  exact ⟨w1.1, w1.2, w2.1, w2.2, w3.1, w3.2, rfl, r1.1, r1.2, r2.1, r2.2, r3.1, r3.2⟩
/-- {x: .., y: .., z: ..}, x and y texts, z odd -/
def tOdd (trs : List (TE × TE)) : TE := fun σ H Q => ∀ p, H p = none → tPairs trs σ (upd H p (.dK [])) fun ps H2 => H2 p = some (.dK []) ∧ ∃ (x y : Str) (z v1 v2 v3 : V), ps = [(.str x, v1), (.str y, v2), (z, v3)] ∧ x ≠ y ∧ OddK H2 z ∧ Q (.ref p) (upd H2 p (odd p [.str x, .str y, z]))
theorem pe_odd {X : Cx} {pos : Pos} {keys : List (Option Expr)} {values : List Expr} {trs : List (TE × TE)} (hu : X.A.units + 20 < cLine) (h : PPs X pos keys values trs) (hall : keys.all (·.isSome) = true) (hl : keys.length = values.length) (h0 : keys ≠ [])
    (h15 : keys.length ≤ 15) : PE X (.Dict keys values pos) (tOdd trs) := by
  refine ⟨fun pins s σ H Q I q => ?_⟩
  have hn := I.hok.fresh (Nat.le_refl s.heap.objs.size)
  have I1 := I.laid (a := s.heap.objs.size) (o := .dK []) (h' := s.heap.push { cls := .type "dict", data := .dict #[] }) (t' := s.toks) (fun _ _ q => Heap.get?_push_of_some _ q) (Nat.le_refl _) (dk_empty s.heap I.big)
  refine wpAny_Dict_any hall hl h0 h15 (thn (h.run pins _ σ _ _ I1 (q _ hn)) fun ws s2 ⟨ps, H2, I2, rel, e, x, y, z, v1, v2, v3, ep, xy, ok, q2⟩ => ?_)
  subst ep
  obtain ⟨k1, u1, k2, u2, k3, u3, rfl, r1, w1, r2, w2, r3, w3⟩ := vv3 rel
  obtain ⟨t1, rfl⟩ := r1
  obtain ⟨t2, rfl⟩ := r2
  obtain ⟨z0, hd, vs0, r0, dd⟩ := dk_of I2.hok e
  cases r0
  obtain ⟨k, nk, h8, ht⟩ := oddK_is I2 ok r3
  generalize hp : s.heap.objs.size = p at *
  unfold storeAll
  rw [List.forIn_cons]
  refine wpAny_bind (wpAny_bind (wpAny_dictSet_pairs (knd := mixKind X.prog X.w) (k := .inr x) (keyIs_str x t1) dd (fun h1 d1 b1 => wpAny_pure ?_) (Nat.zero_le _)))
  dsimp only
  rw [List.forIn_cons]
  refine wpAny_bind (wpAny_bind (wpAny_dictSet_pairs (knd := mixKind X.prog X.w) (k := .inr y) (keyIs_str y t2) d1 (fun h2 d2 b2 => wpAny_pure ?_) (by rw [sizeLine_eq]; simp [stored])))
  have e2 : stored (stored ([] : List (Key × Value)) (.inr x) u1) (.inr y) u2 = [(.inr x, u1), (.inr y, u2)] := by
    have z : ¬ (Sum.inr x : Key) = .inr y := fun z => xy (by injection z)
    simp [stored, z]
  rw [e2] at d2
  obtain ⟨es, ep, raw, hz, hent⟩ := d2.raw
  have hes : es.size = 2 := hz
  have c0 := hent 0 (by omega) (.inr x) u1 rfl
  have c1 := hent 1 (by omega) (.inr y) u2 rfl
  have sk : StrKeys es := by
    intro en hen
    obtain ⟨i, hi, ei⟩ := Array.mem_iff_getElem.mp hen
    have : i = 0 ∨ i = 1 := by omega
    rcases this with rfl | rfl
    · obtain ⟨t, ev⟩ := Value.isStrOf_shape (x := x) (v := es[0].key) c0.1
      exact ⟨x, t, by rw [← ei]; exact ev⟩
    · obtain ⟨t, ev⟩ := Value.isStrOf_shape (x := y) (v := es[1].key) c1.1
      exact ⟨y, t, by rw [← ei]; exact ev⟩
  have b12 := b1.trans b2
  obtain ⟨op, _, _, hop, _, hdp, _⟩ := dd
  have nk2 : NestedIs h2 k k3 := NestedIs.at (fun c oc vc nc g1 g2 => (b12.2 c (fun zz => by
    rw [zz, hop] at g1
    cases g1
    rw [hdp] at g2
    cases g2)).trans g1) k k3 nk
  dsimp only
  rw [List.forIn_cons]
  refine wpAny_bind (wpAny_bind (set_odd (s := { s2 with heap := h2, toks := _ }) hu nk2 h8 ht raw sk (by omega) fun h3 tk raw3 b3 => wpAny_pure ?_))
  dsimp only
  rw [List.forIn_nil]
  refine wpAny_pure ?_
  have b123 := b12.trans b3
  have ph : ∀ h : Heap, h.DictRaw p (es.push ⟨k.hash X.w, k3, u3⟩) (ep + 1) → ∃ (es : Array DictEntry) (ep : Nat), h.DictRaw p es ep ∧ (p == sysModules) = false ∧ es.size = [V.str x, V.str y, z].length ∧ ∀ (i : Nat) (v : V), [V.str x, V.str y, z][i]? = some v → ∃ en, es[i]? = some en ∧ L2.RelV v en.key := by
    intro h hr
    refine ⟨_, _, hr, hd, by rw [Array.size_push, hes]; rfl, fun i v hv => ?_⟩
    have hi : i < 3 := by
      have := (List.getElem?_eq_some_iff.mp hv).1
      simpa using this
    have : i = 0 ∨ i = 1 ∨ i = 2 := by omega
    rcases this with rfl | rfl | rfl
    · cases hv
      obtain ⟨t, ev⟩ := Value.isStrOf_shape (x := x) (v := es[0].key) c0.1
      exact ⟨es[0], by rw [Array.getElem?_push_lt (by omega)], t, ev⟩
    · cases hv
      obtain ⟨t, ev⟩ := Value.isStrOf_shape (x := y) (v := es[1].key) c1.1
      exact ⟨es[1], by rw [Array.getElem?_push_lt (by omega)], t, ev⟩
    · cases hv
      exact ⟨_, by rw [← hes]; exact Array.getElem?_push_size, r3⟩
  obtain ⟨o3, g3, x3, dt3⟩ := id raw3
  refine ⟨.ref p, upd H2 p (odd p [V.str x, V.str y, z]), d_write I2 (by rw [e]; exact True.intro) b123 ⟨o3, g3⟩ (show ObjOk X.prog X.w _ h3 p (odd p [V.str x, V.str y, z]) from ⟨ph _ raw3, ⟨o3, g3⟩, fun g1 g2 hp1 hk => ?_⟩), rfl, q2⟩
  obtain ⟨es4, ep4, r4, a4, a5, a6⟩ := hp1
  exact ⟨es4, ep4, r4.at fun o ho => hk o ho, a4, a5, a6⟩
end FoOd

set_option maxHeartbeats 4100000
/-! A dict comprehension whose value's step may raise (a call in it). -/
namespace FoE
open PySem PySem.Spec PyProof.Rows L2
/-- {k: v for target in iter if ..}, the value's step may raise: tv is told what is wished of an exception of it -/
def tDcX (wi : TI) (g : TG) (tt : TT) (tk : TE) (tv : WX → TE) (vs : List Nat) (W : WX) : TE := fun τ H Q => wi τ H fun J H1 => ∀ D, H1 D = none → ∃ V : Nat → Nat → Hp → Prop, (∃ m, V 0 m (upd H1 D (.dK []))) ∧ ∀ i m H, V i m H →
  (J.stop i H ∧ Q (.ref D) H) ∨ (J.go i H ∧ ∃ Nx : Hp → Prop, (∀ H', Nx H' → ∃ m', m' < m ∧ V (i + 1) m' H') ∧ ∀ x H', J.yld i H x H' → g x (wipe τ vs) H' fun σ2 H2 => wipe σ2 vs = wipe τ vs ∧ tt σ2 H2 fun b H3 =>
    if b = true then tk σ2 H3 fun y H4 => tv (fun cls d _ H => W cls d τ H) σ2 H4 fun z H5 => ∃ kvs k, y = kV k ∧ H5 D = some (.dK kvs) ∧ kvs.length < sizeLine ∧ Nx (upd H5 D (.dK (putK kvs k z))) else Nx H3)
section
variable {X : Cx} {kx vx tg iter : Expr} {ifs : List Expr} {scope : Scope} {own : List (Str × Nat)} {pos pos' : Pos} {wi : TI} {g : TG} {tt : TT} {tk0 : TE} {te : WX → TE} {W : WX}
theorem coreD {pz : List (Addr × Obj)} {s : Shared} {τ : L2.St} {H : Hp} {Q : VK} {u? : Option (Value → Sem Unit)} {Qf : Value → Shared → Prop}
    (hs : X.stack = X.env :: X.outer) (hf : X.env.frame = some X.env.locals) (tk : Takes X W) (hc : X.calm = true) (hN : X.N.Nodup) (I : Inv X pz τ H s) (hi : PI X tg iter wi) (ok : BlkOk X.N X.env.scope scope own)
    (hg : ∀ s H C cl fp xe, PG (blkX X s H scope (compEnvC scope cl C X.env) fp xe) tg g) (ht : ∀ s H C cl fp xe, PTs (blkX X s H scope (compEnvC scope cl C X.env) fp xe) ifs tt)
    (hk : ∀ s H C cl fp xe, PE (blkX X s H scope (compEnvC scope cl C X.env) fp xe) kx tk0)
    (he : ∀ s H C cl fp xe V, (∀ σ, PassesAt (L2.CX X.prog X.w) (blkX X s H scope (compEnvC scope cl C X.env) fp xe) σ (WE V σ)) → PE (blkX X s H scope (compEnvC scope cl C X.env) fp xe) vx (te V)) (hset : ∀ x, foldedSetIterable iter X.env x = pure x)
    (h : tDcX wi g tt tk0 te (own.map (·.2)) W τ H Q)
    (hR : ∀ D ce s' m H', Inv X pz τ H' s' → Q (.ref D) H' → s'.heap.Ns ce.locals m → FpOk X pz H' ce.locals → After (model X.prog X.w) X.A X.xe u? Qf (.ref D) ce (.ok .next) s') :
    wpAny (model X.prog X.w) X.A (comprehension (.DictComp kx vx [⟨tg, iter, ifs, 0⟩] scope pos) scope X.env pos' newDict false (eval iter X.env) u?) Qf X.xe s := by
  have hfree : ∀ y ∈ scope.names, y.2 = .free → ∃ c, X.env.cells.lookup y.1 = some c := fun y hy e =>
    (ok.free y hy e).elim (fun k => I.ok.has _ (.inl k)) (fun k => I.ok.has _ (.inr k))
  refine comp_all (u? := u?) rfl hset (closure_ok hfree) ok.kind (fun y hy e => by rw [ok.uniq y hy, e]) (thn (hi.run pz s τ H _ I h) fun xv s1 hx => thn hx fun itv s2 h2 => ?_)
  obtain ⟨it, fp, tn, J, H2, e, I2, T, st2, f2, q⟩ := h2
  subst e
  refine wpAny_newObj_type (newEnv_comp ?_)
  generalize hD : s2.heap.objs.size = D
  have hDn : H2 D = none := I2.hok.fresh (Nat.le_of_eq hD)
  obtain ⟨V, ⟨m0, w0⟩, turn⟩ := q D hDn
  generalize hs3 : ({ s2 with heap := s2.heap.push { cls := .type "dict", data := .dict #[] } } : Shared) = s3
  have I3 : Inv X pz τ (upd H2 D (.dK [])) s3 := by
    rw [← hs3]
    exact I2.laid (t' := s2.toks) (fun b o e => Heap.get?_push_of_some _ e) (Nat.le_of_eq hD) (by rw [← hD]; exact dk_empty s2.heap I2.big)
  have h3 : s3.heap = s2.heap.push { cls := .type "dict", data := .dict #[] } := by rw [← hs3]
  have f3 : ∀ b ∈ fp, FpOk X pz (upd H2 D (.dK [])) b ∧ b < s3.heap.objs.size := fun b hb => by
    obtain ⟨o, e, _⟩ := T.obj _ _ st2 b hb
    have hlt := Heap.lt_size e
    exact ⟨⟨by rw [upd_ne (by rw [← hD]; exact Nat.ne_of_lt hlt)]; exact (f2 b hb).1, (f2 b hb).2⟩, by rw [h3, Heap.size_push]; exact Nat.lt_succ_of_lt hlt⟩
  have st3 : tn 0 s3.heap := T.keep _ _ _ st2 fun b _ o e => by rw [h3]; exact Heap.get?_push_of_some _ e
  have I4 := block_start I3 ok hN f3
  show codeAny _ _ (.compStart (.DictComp kx vx [⟨tg, iter, ifs, 0⟩] scope pos) 0 (.ref it) (.ref D) (compEnvC scope (cellsFrom (s3.heap.objs.size + 1) scope.names (cloFrom X.env.cells scope.names [])) s3.heap.objs.size X.env)) (After (model X.prog X.w) X.A X.xe u? Qf (.ref D) (compEnvC scope (cellsFrom (s3.heap.objs.size + 1) scope.names (cloFrom X.env.cells scope.names [])) s3.heap.objs.size X.env)) { s3 with heap := pushCells (s3.heap.push { cls := .type "dict", data := .dict #[] }) scope.names }
  have nfp : ∀ b ∈ fp, (upd H2 D (.dK [])) b = none := fun b hb => (f3 b hb).1.1
  generalize hcl : cellsFrom (s3.heap.objs.size + 1) scope.names (cloFrom X.env.cells scope.names []) = cl at I4 ⊢
  generalize hce : compEnvC scope cl s3.heap.objs.size X.env = ce at I4 ⊢
  have cL : ce.locals = s3.heap.objs.size := by subst hce; rfl
  have cF : ce.frame = X.env.frame := by subst hce; rfl
  generalize hH3 : upd H2 D (.dK []) = H3 at I3 I4 w0 nfp f3
  generalize hs4 : ({ s3 with heap := pushCells (s3.heap.push { cls := .type "dict", data := .dict #[] }) scope.names } : Shared) = s4 at I4 ⊢
  have st4 : tn 0 s4.heap := T.keep _ _ _ st3 fun b _ o e => by rw [← hs4]; exact pushCells_keeps _ _ _ _ (Heap.get?_push_of_some _ e)
  -- what is wished of an exception in the block
  generalize hxe : notedBy (model X.prog X.w) X.A ce (fun e s' => After (model X.prog X.w) X.A X.xe u? Qf (.ref D) ce (.error e) s') = xe
  have pg := hg s3 H3 s3.heap.objs.size cl fp xe
  have pt := ht s3 H3 s3.heap.objs.size cl fp xe
  have pk := hk s3 H3 s3.heap.objs.size cl fp xe
  have pe := he s3 H3 s3.heap.objs.size cl fp xe (fun cls d _ H => W cls d τ H)
  rw [hce] at pg pt pk pe
  have hC0 : s3.heap.objs.size ∉ frs X.stack := fun z => by
    obtain ⟨_, o, e, _⟩ := I3.stack.mem z
    exact absurd (Heap.lt_size e) (Nat.lt_irrefl _)
  have pe := pe fun σ2 pz2 H5 s5 e s6 I5 c => by
    have x : XC X W s3.heap.objs.size false e s6 := XC.of_call I3 (ofX I5) f3 cL (fun cls d H' h => h) c
    have n6 : ∃ m, s6.heap.Ns ce.locals m := by
      obtain ⟨a, B, H', cls, d, _, fl, _, ub, _⟩ := c
      obtain ⟨m, ⟨oC, es, ep, eC, r⟩, _⟩ := I5.loc
      have eC : s5.heap.get? ce.locals = some oC := eC
      have z : H5 ce.locals = none := I5.free
      exact ⟨m, oC, es, ep, fl.1 _ _ (ub.keep _ _ eC z (by rw [cL]; exact hC0)), r⟩
    show xe e s6
    rw [← hxe]
    refine x.noted I3.ok.frames hs hf cF fun g6 ug x6 => ?_
    obtain ⟨m, oC, es, ep, eC, dC, r⟩ := n6
    obtain ⟨sl, eg⟩ := ug _ _ eC (fun vs z => by rw [dC] at z; cases z)
    have ng : Heap.Ns g6 ce.locals m := ⟨_, es, ep, eg, dC, r⟩
    show ∃ m, Heap.Ns g6 ce.locals m ∧ _
    refine ⟨m, ng, fun g7 sb => ?_⟩
    rw [cL] at ng sb
    exact (XC.but x6 ng sb hC0).pass hf cF tk
  have stat : ∀ {σ' : L2.St} {H' : Hp} {s' : Shared}, Inv (blkX X s3 H3 scope ce fp xe) [] σ' H' s' → (∀ b ∈ fp, H' b = none) → ∀ b ∈ fp, FpOk (blkX X s3 H3 scope ce fp xe) [] H' b := fun {σ' H' s'} I' hn b hb =>
    ⟨hn b hb, (I'.ok.exf b hb).1, I'.ok.exfs b hb, .inl hb, fun x c e => (I'.ok.exf b hb).2 x c e, fun p hp => absurd (show p ∈ ([] : List (Addr × Obj)) ++ [] from hp) (by simp)⟩
  have loop : codeAny (model X.prog X.w) X.A (.compLoop (.DictComp kx vx [⟨tg, iter, ifs, 0⟩] scope pos) 0 (.ref it) (.ref D) ce) (After (model X.prog X.w) X.A X.xe u? Qf (.ref D) ce) s4 := by
    refine compLoop_anyD (fun n s' => ∃ i H', Inv (blkX X s3 H3 scope ce fp xe) [] (wipe τ (own.map (·.2))) H' s' ∧ tn i s'.heap ∧ (∀ b ∈ fp, H' b = none) ∧ V i n H') ?_ m0 ⟨0, H3, toX I4, st4, nfp, w0⟩
    rintro n s5 ⟨i, H5, I5, st5, n5, w5⟩
    rw [hxe]
    rcases turn i n H5 w5 with ⟨stop, qq⟩ | ⟨go, Nx, hNx, step⟩
    · refine thnF (T.done (blkX X s3 H3 scope ce fp xe) rfl rfl rfl hc i [] s5 _ H5 (fun _ _ => False) I5 (stat I5 n5) st5 stop) fun r s6 ⟨hr, I6⟩ => ?_
      subst hr
      have I7 : Inv X pz τ H5 s6 := I3.call' (ch := fp) I6.os I6.base I6.hok I6.bare fun b hb => ⟨(f3 b hb).1.2.2.2.1, (f3 b hb).1.2.1, (f3 b hb).1.2.2.2.2.1, (f3 b hb).1.2.2.2.2.2⟩
      obtain ⟨m, hn, _⟩ := I6.loc
      have z : H5 ce.locals = none := I6.free
      exact hR D ce s6 m H5 I7 qq hn (I3.fpOk (by rw [cL]; exact Nat.le_refl _) z)
    · refine thnF (T.item (blkX X s3 H3 scope ce fp xe) rfl rfl rfl hc i [] s5 _ H5 (fun _ _ => False) I5 (stat I5 n5) st5 go) fun r s6 ⟨u, hr, h6⟩ => ?_
      subst hr
      refine thnF h6 fun _ s7 ⟨x, H7, I7, r7, y7, st7, n7⟩ => ?_
      have I7' := I7.pinned (stat I7 n7) (T.obj _ _ st7)
      refine thn (pg.run _ s7 _ H7 x u _ I7' r7 (step x H7 y7)) fun _ s8 ⟨σ8, H8, I8, hw8, q8⟩ => ?_
      refine thn (pt.run _ s8 σ8 H8 _ I8 q8) fun b s9 ⟨H9, I9, q9⟩ => ?_
      have fin : ∀ {s' : Shared} {H' : Hp}, Inv (blkX X s3 H3 scope ce fp xe) ([] ++ pinsAt fp s7.heap) σ8 H' s' → Nx H' → ∃ m, m < n ∧ ∃ i H', Inv (blkX X s3 H3 scope ce fp xe) [] (wipe τ (own.map (·.2))) H' s' ∧ tn i s'.heap ∧ (∀ b ∈ fp, H' b = none) ∧ V i m H' := fun {s' H'} I' nx => by
        obtain ⟨m', hm, w'⟩ := hNx H' nx
        have pin' : ∀ b ∈ fp, ∀ o, s7.heap.get? b = some o → s'.heap.get? b = some o ∧ H' b = none := fun b hb o e =>
          let z := I'.pin (b, o) (List.mem_append_right _ (List.mem_append_right _ (mem_pinsAt hb e)))
          ⟨z.1, z.2.1⟩
        have hl : (wipe τ (own.map (·.2))).length = σ8.length := by rw [← hw8, wipe_length]
        refine ⟨m', hm, i + 1, H', (I'.unpinned (pins := [])).weak hl (fun j v e => ?_), T.keep _ _ _ st7 fun b hb o e => (pin' b hb o e).1, fun b hb => ?_, w'⟩
        · rw [← hw8] at e
          exact (wipe_some e).1
        · obtain ⟨o, e, _⟩ := T.obj _ _ st7 b hb
          exact (pin' b hb o e).2
      cases b with
      | false =>
        simp only [Bool.false_eq_true, if_false] at q9 ⊢
        exact fin I9 q9
      | true =>
        simp only [if_true] at q9 ⊢
        refine thn (pk.run _ s9 σ8 H9 _ I9 q9) fun z s10 ⟨yk, H10, I10, r10, q10⟩ => ?_
        refine thn (pe.run _ s10 σ8 H10 _ I10 q10) fun z2 s11 ⟨yv, H11, I11, r11, kvs, k, ek, hD11, hz11, nx⟩ => ?_
        subst ek
        exact d_dictSet (X := blkX X s3 H3 scope ce fp xe) I11 hD11 hz11 r10 r11 fun s12 I12 => fin I12 nx
  exact codeAny_compStart_dict loop (T.self X.A 0 _ _ _ st4 loop)
/-- as a value -/
theorem pe_dcX (hs : X.stack = X.env :: X.outer) (hf : X.env.frame = some X.env.locals) (tk : Takes X W) (hc : X.calm = true) (hN : X.N.Nodup) (hi : PI X tg iter wi) (ok : BlkOk X.N X.env.scope scope own)
    (hg : ∀ s H C cl fp xe, PG (blkX X s H scope (compEnvC scope cl C X.env) fp xe) tg g) (ht : ∀ s H C cl fp xe, PTs (blkX X s H scope (compEnvC scope cl C X.env) fp xe) ifs tt)
    (hk : ∀ s H C cl fp xe, PE (blkX X s H scope (compEnvC scope cl C X.env) fp xe) kx tk0)
    (he : ∀ s H C cl fp xe V, (∀ σ, PassesAt (L2.CX X.prog X.w) (blkX X s H scope (compEnvC scope cl C X.env) fp xe) σ (WE V σ)) → PE (blkX X s H scope (compEnvC scope cl C X.env) fp xe) vx (te V))
    (hset : ∀ x, foldedSetIterable iter X.env x = pure x := by intro _; rfl) :
    PE X (.DictComp kx vx [⟨tg, iter, ifs, 0⟩] scope pos) (tDcX wi g tt tk0 te (own.map (·.2)) W) := by
  refine ⟨fun pz s τ H Q I h => ?_⟩
  rw [arm_eval_DictComp]
  refine coreD hs hf tk hc hN I hi ok hg ht hk he hset h fun D ce s' m H' I' q hn f => ⟨m, hn, fun h'' sb => ?_⟩
  obtain ⟨f0, f1, f2, f3, f4, f5⟩ := f
  exact ⟨.ref D, H', I'.turned (t' := s'.toks) (fun b o hb e => (sb.2 b hb).trans e) f0 f1 f3 f4 f5, rfl, q⟩
end
end FoE

set_option maxHeartbeats 4100000
namespace Fo
open PySem PySem.Spec PyProof.Rows L2
/-! ### a Formula and a Ratio -/
open FoWd
theorem NoNum.same {H H' : Hp} {y : V} (h : NoNum H y) (e : Same H H') : NoNum H' y := by
  cases h with
  | non => exact .non
  | bl b => exact .bl b
  | str x => exact .str x
  | lst a => exact .lst (e _ _ a)
  | tup a => exact .tup (e _ _ a)
  | dK a => exact .dK (e _ _ a)
def spBN (K : PySem.W.Frag) : Sp := fun vs H Q _ => ∃ (a : Addr) (y : V), vs = [.ref a, y] ∧ H a = some (exo a (He.ga K "BadNumber") none) ∧ ∀ dx, H dx = none → dx ≠ a → Q .non (upd (upd H dx (exd dx [("given", y)])) a (exo a (He.ga K "BadNumber") (some dx)))
def spAsB (K : PySem.W.Frag) : Sp := fun vs H Q E => ∃ y : V, vs = [y] ∧ ((∃ r, NmV K H y r ∧ ∀ b H', Same H H' → RtAt K H' b r → Q (.ref b) H') ∨ (NoNum H y ∧ ∀ dx H', Same H H' → H' dx = some (.xd [("given", y)]) → E (.ref (He.ga K "BadNumber")) (some dx) H'))
def spBR (K : PySem.W.Frag) : Sp := fun vs H Q _ => ∃ (a : Addr) (y : V), vs = [.ref a, y] ∧ H a = some (exo a (He.ga K "BadRow") none) ∧ ∀ dx, H dx = none → dx ≠ a → Q .non (upd (upd H dx (exd dx [("row", y)])) a (exo a (He.ga K "BadRow") (some dx)))
def spFEqR (K : PySem.W.Frag) : Sp := fun vs H Q _ => ∃ (a b : Addr) (f : Ps) (r : Rat), vs = [.ref a, .ref b] ∧ FmAt K H a f ∧ RtAt K H b r ∧ Q (.bl false) H
def spWholeF (K : PySem.W.Frag) : Sp := fun vs H Q _ => ∃ (a : Addr) (f : Ps), vs = [.ref a] ∧ FmAt K H a f ∧ Q (.bl false) H
def spREqF (K : PySem.W.Frag) : Sp := fun vs H Q _ => ∃ (a b : Addr) (f : Ps) (r : Rat), vs = [.ref b, .ref a] ∧ FmAt K H a f ∧ RtAt K H b r ∧ Q (.bl false) H
/-- a dict with the keys p, q and y -/
def Keys3 (H : Hp) (a : Addr) (y : V) : Prop := (∃ v1 v2 k v3, H a = some (.dK [(.inr (tx [true]), v1), (.inr (tx [false]), v2), (k, v3)]) ∧ kV k = y) ∨ H a = some (FoOd.odd a [.str (tx [true]), .str (tx [false]), y])
def spFInX (K : PySem.W.Frag) : Sp := fun vs H _ E => ∃ (x dx a : Addr) (y : V), vs = [.ref x, .ref a] ∧ H x = some (.ins (FmC K) dx []) ∧
  ((Keys3 H a y ∧ NoRow H y ∧ ∀ d H', But a H H' → H' d = some (.xd [("row", y)]) → E (.ref (He.ga K "BadRow")) (some d) H') ∨
   (H a = some (.dK [(.inr (tx [true]), y), (.inr (tx [false]), .non)]) ∧ NoNum H y ∧ (∀ b, y = .ref b → b ≠ a) ∧ ∀ d H', But a H H' → H' d = some (.xd [("given", y)]) → E (.ref (He.ga K "BadNumber")) (some d) H'))
theorem NoRow.but {H H' : Hp} {a : Addr} {v : V} (h : NoRow H v) (b : But a H H') (n : ∀ t xs, v = .ref t → H t = some (.tup xs) → t ≠ a) : NoRow H' v := by
  rcases h with h | h
  · cases h with
    | non => exact .inl .non
    | bl b => exact .inl (.bl b)
    | int i => exact .inl (.int i)
    | tup e => exact .inl (.tup (b _ _ e (n _ _ rfl e)))
  · exact .inr h
theorem sz1q : FoM.Sz 4000 1 := sz_of 1000000 (by decide) (by decide) (by decide)
theorem walk_odd {d : Addr} {o : Obj} {xs : List V} : Walk (FoOd.Ito d o xs) xs.length (fun H => H d = some (.frz o (FoOd.odd d xs))) (fun i H v H' => H' = H ∧ xs[i]? = some v) :=
  ⟨fun _ _ hi q => ⟨q, hi⟩, fun _ q => ⟨q, Nat.le_refl _⟩, fun _ _ _ _ _ _ y => y⟩
/-- over any walk, a step's value may raise -/
theorem dcx_it {J : It} {n : Nat} {G : Hp → Prop} {Y : Nat → Hp → V → Hp → Prop} (w : Walk J n G Y) {g : TG} {tt : TT} {tk tv : TE} {vs : List Nat} {σ : L2.St} {H1 : Hp} {D : Addr} {Qd : Hp → Prop} (Pv : Nat → Hp → Prop) (h0 : Pv 0 (upd H1 D (.dK []))) (hG : ∀ i H, i ≤ n → Pv i H → G H)
    (hs : ∀ i x H H', i < n → Pv i H → Y i H x H' → g x (wipe σ vs) H' fun σ2 H2 => wipe σ2 vs = wipe σ vs ∧ tt σ2 H2 fun b H3 =>
      if b = true then tk σ2 H3 fun y H4 => tv σ2 H4 fun z H5 => ∃ kvs k, y = kV k ∧ H5 D = some (.dK kvs) ∧ kvs.length < sizeLine ∧ Pv (i + 1) (upd H5 D (.dK (putK kvs k z))) else Pv (i + 1) H3) (hd : ∀ H, Pv n H → Qd H) :
    ∃ W : Nat → Nat → Hp → Prop, (∃ m, W 0 m (upd H1 D (.dK []))) ∧ ∀ i m H, W i m H →
      (J.stop i H ∧ Qd H) ∨ (J.go i H ∧ ∃ Nx : Hp → Prop, (∀ H', Nx H' → ∃ m', m' < m ∧ W (i + 1) m' H') ∧ ∀ x H', J.yld i H x H' → g x (wipe σ vs) H' fun σ2 H2 => wipe σ2 vs = wipe σ vs ∧ tt σ2 H2 fun b H3 =>
        if b = true then tk σ2 H3 fun y H4 => tv σ2 H4 fun z H5 => ∃ kvs k, y = kV k ∧ H5 D = some (.dK kvs) ∧ kvs.length < sizeLine ∧ Nx (upd H5 D (.dK (putK kvs k z))) else Nx H3) := FoDc.dc_it w Pv h0 hG hs hd
section
variable {P : Program} {w : World} {K : PySem.W.Frag} {mg : Str → Option Value} {base : Heap}
theorem ok_FeqR (T : Tx K mg) : FnOk P w K mg base CX0 4 (He.ma K (He.ga K "Formula") "__eq__") T.fd_Formula_eq ["self", "other"] (spFEqR K) := by
  refine T.F_Formula_eq.ok sc_Formula_eq (fun vs H Q E h => ?_) (fun cdv A outer s H vs Q E hr h => ?_)
  · obtain ⟨a, b, f, r, rfl, _⟩ := h
    rfl
  · obtain ⟨a, b, f, r, rfl, _, ⟨dy, hb⟩, q⟩ := h
    refine ⟨_, (pss_one (ps_ret (pe_and (pe_callB call_isi (by rfl) T.z_isinstance (by decide +kernel) (pa_cons (pv 1) (pa_cons (pe_glob (v := V.ref (He.ga K "Formula")) (by rfl) T.c_Formula rfl) pa_nil))) (pe_one (pe_cmpR (FoDq.op_eqDo (Nat.lt_of_le_of_lt (Nat.le_add_right _ _) hr.units)) (pe_fld (pv 0) rfl) (pe_fld (pv 1) rfl) (nomark _)))))), ?_⟩
    exact ⟨_, rfl, _, _, _, _, _, rfl, .own _, FoB.TyI T.is_R T.cl_R hb, T.kRF, _, rfl, iteF q⟩
theorem ok_wholeF (T : Tx K mg) : FnOk P w K mg base CX0 1 (He.ga K "is_whole") T.fd_is_whole ["given"] (spWholeF K) := by
  refine T.F_is_whole.ok sc_is_whole (fun vs H Q E h => ?_) (fun cdv A outer s H vs Q E hr h => ?_)
  · obtain ⟨a, f, rfl, _⟩ := h
    rfl
  · obtain ⟨a, f, rfl, ⟨dx, d, kv, e1, _⟩, q⟩ := h
    refine ⟨_, (pss_one (ps_ret (pe_and (pe_callB call_isi (by rfl) T.z_isinstance (by decide +kernel) (pa_cons (pv 0) (pa_cons (pe_bltn (v := V.ty "int") (u := Value.type "int") (by rfl) T.z_int (by decide +kernel) rfl) pa_nil))) (pe_one (pe_not (pe_callB call_isi (by rfl) T.z_isinstance (by decide +kernel) (pa_cons (pv 0) (pa_cons (pe_bltn (v := V.ty "bool") (u := Value.type "bool") (by rfl) T.z_bool (by decide +kernel) rfl) pa_nil)))))))), ?_⟩
    exact ⟨_, rfl, _, _, _, _, _, rfl, .ty _, FoB.TyI T.is_F T.cl_F e1, T.is_F.ki, _, rfl, iteF q⟩
theorem ok_ReqF (T : Tx K mg) : FnOk P w K mg base CX0 2 (He.ma K (He.ga K "Ratio") "__eq__") T.fd_Ratio_eq ["self", "other"] (spREqF K) := by
  refine T.F_Ratio_eq.ok sc_Ratio_eq (fun vs H Q E h => ?_) (fun cdv A outer s H vs Q E hr h => ?_)
  · obtain ⟨a, b, f, r, rfl, _⟩ := h
    rfl
  · obtain ⟨a, b, f, r, rfl, ha, hb, q⟩ := h
    refine ⟨_, (pss_cons (ps_if (pt_val (pe_callB call_isi (by rfl) T.z_isinstance (by decide +kernel) (pa_cons (pv 1) (pa_cons (pe_glob (v := V.ref (He.ga K "Ratio")) (by rfl) T.c_Ratio rfl) pa_nil)))) (pss_one (ps_ret (pe_and (pe_cmpR op_eq (pe_fld (pv 0) rfl) (pe_fld (pv 1) rfl) (nomark _)) (pe_one (pe_cmpR op_eq (pe_fld (pv 0) rfl) (pe_fld (pv 1) rfl) (nomark _)))))) pss_nil)
      (pss_one (ps_ret (pe_and (pe_call (ok_wholeF T) (hr.mono (by decide)) (by rfl) T.g_is_whole T.F_is_whole.kp T.b_is_whole .nil pass0 (pa_cons (pv 1) pa_nil)) (pe_and (pe_cmpR op_eq (pe_fld (pv 0) rfl) pe_int (nomark _)) (pe_one (pe_cmpR op_eq (pe_fld (pv 0) rfl) (pv 1) (nomark _)))))))), ?_⟩
    obtain ⟨dx, d, kv, e1, _⟩ := id ha
    refine ⟨_, rfl, _, _, _, _, _, rfl, .own _, FoB.TyI T.is_F T.cl_F e1, T.kFR, _, rfl, iteF ?_⟩
    exact ⟨_, rfl, a, f, rfl, ha, _, rfl, iteF q⟩
theorem ok_BN (T : Tx K mg) : FnOk P w K mg base CX0 1 (He.ma K (He.ga K "BadNumber") "__init__") T.fd_BadNumber_init ["self", "given"] (spBN K) := by
  refine T.F_BadNumber_init.ok sc_BadNumber_init (fun vs H Q E h => ?_) (fun cdv A outer s H vs Q E hr h => ?_)
  · obtain ⟨a, y, rfl, _⟩ := h
    rfl
  · obtain ⟨a, y, rfl, ha, q⟩ := h
    refine ⟨_, (pss_one (ps_ost (pv 0) (pv 1))), ?_⟩
    exact ⟨_, rfl, _, rfl, a, _, rfl, T.e_BadNumber.ox, T.e_BadNumber.no, .inl ⟨ha, q⟩⟩
theorem ok_asB (T : Tx K mg) : FnOk P w K mg base (L2.CX P w) 3 (He.ga K "as_ratio") T.fd_as_ratio ["given"] (spAsB K) := by
  refine T.F_as_ratio.okX sc_as_ratio (fun vs H Q E h => ?_) (fun cdv A outer s H vs Q E hr h => ?_)
  · obtain ⟨y, rfl, _⟩ := h
    rfl
  · obtain ⟨y, rfl, h⟩ := h
    obtain ⟨ds, vd, bd⟩ := bind_init1 T
    refine ⟨_, (pss_cons (ps_if (pt_not (pt_val (pe_call (ok_is_number T) (hr.mono (by decide)) (by rfl) T.g_is_number T.F_is_number.kp T.b_is_number .nil pass0 (pa_cons (pv 0) pa_nil)))) (pss_one (ps_raise rfl (takes_of rfl rfl rfl rfl) (pmk_oex T.e_BadNumber.ox T.e_BadNumber.iC T.e_BadNumber.tI (ok_BN T) (hr.mono (by decide)) T.b_BadNumber_init .nil pass0 (by rfl) T.c_BadNumber (pa_cons (pv 0) pa_nil)))) pss_nil)
      (pss_one (ps_ret (pe_ifExp (pt_val (pe_callB call_isi (by rfl) T.z_isinstance (by decide +kernel) (pa_cons (pv 0) (pa_cons (pe_glob (v := V.ref (He.ga K "Ratio")) (by rfl) T.c_Ratio rfl) pa_nil)))) (pv 0) (pe_make T.mk_R (ok_initQ T) (hr.mono (by decide)) (by rfl) T.c_Ratio bd vd pass0 (pa_cons (pv 0) pa_nil)))))), ?_⟩
    rcases h with ⟨r, hy, q⟩ | ⟨hy, q⟩
    · refine ⟨_, rfl, y, rfl, .inl ⟨r.num, r.den, hy.num, _, rfl, iteF ?_⟩⟩
      rcases hy with ⟨b, rfl, hb⟩ | ⟨i, rfl, rfl⟩
      · obtain ⟨dx, hb'⟩ := id hb
        exact ⟨_, rfl, _, _, _, _, _, rfl, .own _, FoB.TyI T.is_R T.cl_R hb', FoB.kit_self, _, rfl, iteT ⟨_, rfl, q b H (Same.refl H) hb⟩⟩
      · refine ⟨_, rfl, _, _, _, _, _, rfl, .own _, .base (.int i), T.is_R.kt "int" (by decide), _, rfl, iteF ?_⟩
        exact ⟨_, rfl, rq_make (by decide) sz1q (FoQ.q_int i) fun p H' np sm hR => ⟨rfl, q p H' sm hR⟩⟩
    · refine ⟨_, rfl, _, rfl, .inr ⟨hy, _, rfl, iteT ?_⟩⟩
      refine ⟨_, rfl, (by show 1 ≤ 1000; decide), fun a na => ⟨a, y, rfl, upd_same, fun dx ndx ne => ⟨rfl, dx, [("given", y)], upd_same, ?_, ?_, ?_⟩⟩⟩
      · rw [upd_ne ne, upd_same]
      · rw [upd_ne ne] at ndx
        exact ndx
      · have hd : H dx = none := by
          rw [upd_ne ne] at ndx
          exact ndx
        refine q dx _ (fun b o z => ?_) upd_same
        rw [upd_ne (ne_of_none z hd), del_ne (ne_of_none z na), upd_ne (ne_of_none z na), upd_ne (ne_of_none z hd), upd_ne (ne_of_none z na)]
        exact z
theorem ok_BR (T : Tx K mg) : FnOk P w K mg base CX0 1 (He.ma K (He.ga K "BadRow") "__init__") T.fd_BadRow_init ["self", "row"] (spBR K) := by
  refine T.F_BadRow_init.ok sc_BadRow_init (fun vs H Q E h => ?_) (fun cdv A outer s H vs Q E hr h => ?_)
  · obtain ⟨a, y, rfl, _⟩ := h
    rfl
  · obtain ⟨a, y, rfl, ha, q⟩ := h
    refine ⟨_, (pss_one (ps_ost (pv 0) (pv 1))), ?_⟩
    exact ⟨_, rfl, _, rfl, a, _, rfl, T.e_BadRow.ox, T.e_BadRow.no, .inl ⟨ha, q⟩⟩
theorem ok_FinitX (T : Tx K mg) : FnOk P w K mg base (L2.CX P w) 6 (He.ma K (He.ga K "Formula") "__init__") T.fd_Formula_init ["self", "terms"] (spFInX K) := by
  refine T.F_Formula_init.okX sc_Formula_init (fun vs H Q E h => ?_) (fun cdv A outer s H vs Q E hr h => ?_)
  · obtain ⟨x, dx, a, y, rfl, _⟩ := h
    rfl
  · obtain ⟨x, dx, a, y, rfl, hx, h⟩ := h
    refine ⟨_, (pss_cons (ps_lock (ps_for (passes_of rfl) rfl (FoY.pi_or (pi_keys (pv 1)) (FoOd.pi_odd (pv 1))) (pg_name (i := 2) sc_Formula_init.nd rfl (.inl rfl)) (pss_one (ps_if (pt_not (pt_val (pe_call (ok_is_row T) (hr.mono (by decide)) (by rfl) T.g_is_row T.F_is_row.kp T.b_is_row .nil pass0 (pa_cons (pv 2) pa_nil)))) (pss_one (ps_raise rfl (takes_of rfl rfl rfl rfl) (pmk_oex T.e_BadRow.ox T.e_BadRow.iC T.e_BadRow.tI (ok_BR T) (hr.mono (by decide)) T.b_BadRow_init .nil pass0 (by rfl) T.c_BadRow (pa_cons (pv 2) pa_nil)))) pss_nil))))
      (pss_one (ps_fld (pv 0) (pe_call (ok_form_of T) (hr.mono (by decide)) (by rfl) T.g_form_of T.F_form_of.kp T.b_form_of .nil pass0 (pa_cons (pe_lock (FoE.pe_dcX (own := [("row", 2), ("number", 3)])  rfl rfl (takes_of rfl rfl rfl rfl) rfl sc_Formula_init.nd (pi_items (pv 1)) (blkOk_by (own := [("row", 2), ("number", 3)]) (N := ["self", "terms", "row", "number"]) (sc := defScope s_Formula_init) (by decide +kernel)) (fun _ _ _ _ _ _ => (FoK.pg_tupK (K' := K) (n := 2) rfl (by rfl) (pgs_cons (pg_name (i := 2) sc_Formula_init.nd rfl (.inl rfl)) (pgs_cons (pg_name (i := 3) sc_Formula_init.nd rfl (.inl rfl)) pgs_nil)))) (fun _ _ _ _ _ _ => pts_nil) (fun _ _ _ _ _ _ => (pv 2)) (fun _ _ _ _ _ _ V hx => (pe_callS (ok_asB T) (hr.mono (by decide)) (by rfl) T.g_as_ratio T.F_as_ratio.kp T.b_as_ratio hx (pa_cons (pv 3) pa_nil))))) pa_nil)) rfl))), ?_⟩
    have e0 : ∀ {o : HO}, H a = some o → ∀ od, But a H (upd H a (.frz od o)) := fun {o} ha od b v e n => by rw [upd_ne n]; exact e
    rcases h with ⟨hK, hN, q⟩ | ⟨ha, hN, hya, q⟩
    · -- a key that is no row
      rcases hK with ⟨v1, v2, k, v3, ha, ek⟩ | ha
      · refine ⟨a, _, ha, trivial, fun od => ?_⟩
        have s0 := e0 ha od
        have f0 : upd H a (.frz od (.dK [(.inr (tx [true]), v1), (.inr (tx [false]), v2), (k, v3)])) a = some (.frz od (.dK [(.inr (tx [true]), v1), (.inr (tx [false]), v2), (k, v3)])) := upd_same
        generalize upd H a (.frz od (.dK [(.inr (tx [true]), v1), (.inr (tx [false]), v2), (k, v3)])) = H1 at *
        refine .inl ⟨_, rfl, a, od, rfl, .inl ⟨_, f0, ?_⟩⟩
        refine for_it walk_keys (fun i σ H2 => i ≤ 2 ∧ (∃ o1 o2, σ = [some (.ref x), some (.ref a), o1, o2]) ∧ Same H1 H2) ⟨Nat.zero_le _, ⟨_, _, rfl⟩, Same.refl _⟩ (fun i σ H2 _ h => h.2.2 _ _ f0) (fun i v σ H2 H3 hi h yy => ?_) (fun σ H2 h => absurd h.1 (by show ¬ 3 ≤ 2; decide))
        obtain ⟨hi2, ⟨o1, o2, rfl⟩, s2⟩ := h
        obtain ⟨rfl, kk, vv, ev, rfl⟩ := yy
        have k2 : But a H H3 := fun b o e n => s2 _ _ (s0 _ _ e n)
        have : i = 0 ∨ i = 1 ∨ i = 2 := by omega
        rcases this with rfl | rfl | rfl
        · cases ev
          exact ⟨_, rfl, _, rfl, .inl ⟨[true], rfl, by decide, fun H4 s4 => ⟨_, rfl, iteF ⟨by omega, ⟨_, _, rfl⟩, s2.trans s4⟩⟩⟩⟩
        · cases ev
          exact ⟨_, rfl, _, rfl, .inl ⟨[false], rfl, by decide, fun H4 s4 => ⟨_, rfl, iteF ⟨by omega, ⟨_, _, rfl⟩, s2.trans s4⟩⟩⟩⟩
        · cases ev
          rw [ek]
          refine ⟨_, rfl, _, rfl, .inr ⟨hN.but k2 (fun t xs e1 e2 z => by rw [z, ha] at e2; cases e2), fun H4 s4 => ⟨_, rfl, iteT ?_⟩⟩⟩
          have k4 : But a H H4 := fun b o e n => s4 _ _ (k2 b o e n)
          exact ⟨_, rfl, (by show 1 ≤ 1000; decide), fun e ne => ⟨e, y, rfl, upd_same, fun d nd ned => ⟨rfl, d, [("row", y)], upd_same, (by rw [upd_ne ned, upd_same]), (by rw [upd_ne ned] at nd; exact nd), (by
            have hd : H4 d = none := by
              rw [upd_ne ned] at nd
              exact nd
            refine q d _ (fun b o z nb => ?_) upd_same
            have z := k4 b o z nb
            rw [upd_ne (ne_of_none z hd), del_ne (ne_of_none z ne), upd_ne (ne_of_none z ne), upd_ne (ne_of_none z hd), upd_ne (ne_of_none z ne)]
            exact z)⟩⟩⟩
      · refine ⟨a, _, ha, trivial, fun od => ?_⟩
        have s0 := e0 ha od
        have f0 : upd H a (.frz od (FoOd.odd a [.str (tx [true]), .str (tx [false]), y])) a = some (.frz od (FoOd.odd a [.str (tx [true]), .str (tx [false]), y])) := upd_same
        generalize upd H a (.frz od (FoOd.odd a [.str (tx [true]), .str (tx [false]), y])) = H1 at *
        refine .inr ⟨_, rfl, a, od, _, rfl, f0, ?_⟩
        refine for_it walk_odd (fun i σ H2 => i ≤ 2 ∧ (∃ o1 o2, σ = [some (.ref x), some (.ref a), o1, o2]) ∧ Same H1 H2) ⟨Nat.zero_le _, ⟨_, _, rfl⟩, Same.refl _⟩ (fun i σ H2 _ h => h.2.2 _ _ f0) (fun i v σ H2 H3 hi h yy => ?_) (fun σ H2 h => absurd h.1 (by show ¬ 3 ≤ 2; decide))
        obtain ⟨hi2, ⟨o1, o2, rfl⟩, s2⟩ := h
        obtain ⟨rfl, ev⟩ := yy
        have k2 : But a H H3 := fun b o e n => s2 _ _ (s0 _ _ e n)
        have : i = 0 ∨ i = 1 ∨ i = 2 := by omega
        rcases this with rfl | rfl | rfl
        · cases ev
          exact ⟨_, rfl, _, rfl, .inl ⟨[true], rfl, by decide, fun H4 s4 => ⟨_, rfl, iteF ⟨by omega, ⟨_, _, rfl⟩, s2.trans s4⟩⟩⟩⟩
        · cases ev
          exact ⟨_, rfl, _, rfl, .inl ⟨[false], rfl, by decide, fun H4 s4 => ⟨_, rfl, iteF ⟨by omega, ⟨_, _, rfl⟩, s2.trans s4⟩⟩⟩⟩
        · cases ev
          refine ⟨_, rfl, _, rfl, .inr ⟨hN.but k2 (fun t xs e1 e2 z => by rw [z, ha] at e2; cases e2), fun H4 s4 => ⟨_, rfl, iteT ?_⟩⟩⟩
          have k4 : But a H H4 := fun b o e n => s4 _ _ (k2 b o e n)
          exact ⟨_, rfl, (by show 1 ≤ 1000; decide), fun e ne => ⟨e, y, rfl, upd_same, fun d nd ned => ⟨rfl, d, [("row", y)], upd_same, (by rw [upd_ne ned, upd_same]), (by rw [upd_ne ned] at nd; exact nd), (by
            have hd : H4 d = none := by
              rw [upd_ne ned] at nd
              exact nd
            refine q d _ (fun b o z nb => ?_) upd_same
            have z := k4 b o z nb
            rw [upd_ne (ne_of_none z hd), del_ne (ne_of_none z ne), upd_ne (ne_of_none z ne), upd_ne (ne_of_none z hd), upd_ne (ne_of_none z ne)]
            exact z)⟩⟩⟩
    · -- a number that is none
      refine ⟨a, _, ha, trivial, fun od => ?_⟩
      have s0 := e0 ha od
      have f0 : upd H a (.frz od (.dK [(.inr (tx [true]), y), (.inr (tx [false]), .non)])) a = some (.frz od (.dK [(.inr (tx [true]), y), (.inr (tx [false]), .non)])) := upd_same
      have hx1 : upd H a (.frz od (.dK [(.inr (tx [true]), y), (.inr (tx [false]), .non)])) a = some (.frz od (.dK [(.inr (tx [true]), y), (.inr (tx [false]), .non)])) := upd_same
      generalize upd H a (.frz od (.dK [(.inr (tx [true]), y), (.inr (tx [false]), .non)])) = H1 at *
      refine .inl ⟨_, rfl, a, od, rfl, .inl ⟨_, f0, ?_⟩⟩
      refine for_it walk_keys (fun i σ H2 => (∃ o1 o2, σ = [some (.ref x), some (.ref a), o1, o2]) ∧ Same H1 H2) ⟨⟨_, _, rfl⟩, Same.refl _⟩ (fun i σ H2 _ h => h.2 _ _ f0) (fun i v σ H2 H3 hi h yy => ?_) (fun σ H2 h => ?_)
      · obtain ⟨⟨o1, o2, rfl⟩, s2⟩ := h
        obtain ⟨rfl, kk, vv, ev, rfl⟩ := yy
        have hi' : i < 2 := hi
        have : i = 0 ∨ i = 1 := by omega
        rcases this with rfl | rfl
        · cases ev
          exact ⟨_, rfl, _, rfl, .inl ⟨[true], rfl, by decide, fun H4 s4 => ⟨_, rfl, iteF ⟨⟨_, _, rfl⟩, s2.trans s4⟩⟩⟩⟩
        · cases ev
          exact ⟨_, rfl, _, rfl, .inl ⟨[false], rfl, by decide, fun H4 s4 => ⟨_, rfl, iteF ⟨⟨_, _, rfl⟩, s2.trans s4⟩⟩⟩⟩
      · obtain ⟨⟨o1, o2, rfl⟩, s2⟩ := h
        refine ⟨s2 _ _ f0, ?_⟩
        have k3 : But a H (upd H2 a (.dK [(.inr (tx [true]), y), (.inr (tx [false]), .non)])) := fun b o e n => by
          rw [upd_ne n]
          exact s2 _ _ (s0 _ _ e n)
        have a3 : upd H2 a (.dK [(.inr (tx [true]), y), (.inr (tx [false]), .non)]) a = some (.dK [(.inr (tx [true]), y), (.inr (tx [false]), .non)]) := upd_same
        generalize upd H2 a (.dK [(.inr (tx [true]), y), (.inr (tx [false]), .non)]) = H3 at *
        refine ⟨a, _, a3, trivial, fun od2 => ?_⟩
        have k4 : But a H (upd H3 a (.frz od2 (.dK [(.inr (tx [true]), y), (.inr (tx [false]), .non)]))) := fun b o e n => by
          rw [upd_ne n]
          exact k3 _ _ e n
        have a4 : upd H3 a (.frz od2 (.dK [(.inr (tx [true]), y), (.inr (tx [false]), .non)])) a = some (.frz od2 (.dK [(.inr (tx [true]), y), (.inr (tx [false]), .non)])) := upd_same
        generalize upd H3 a (.frz od2 (.dK [(.inr (tx [true]), y), (.inr (tx [false]), .non)])) = H4 at *
        refine ⟨_, rfl, a, od2, _, rfl, a4, fun D nD => ?_⟩
        refine dcx_it walk_items (fun i H' => i = 0 ∧ Same H4 H') ⟨rfl, Same.upd nD⟩ (fun i H' _ h => h.2 _ _ a4) (fun i v H5 H6 hi h yy => ?_) (fun H5 h => absurd h.1 (by show ¬ 2 = 0; decide))
        obtain ⟨rfl, s5⟩ := h
        obtain ⟨tp, k1, v1, rfl, ntp, rfl, ek, ev⟩ := yy
        cases ek
        cases ev
        have s6 := Same.upd ntp (o := .tup [V.str (tx [true]), y])
        refine ⟨tp, _, rfl, SqT.of upd_same, rfl, _, _, rfl, _, _, rfl, rfl, rfl, ?_⟩
        refine ⟨_, rfl, _, rfl, y, rfl, .inr ⟨?_, fun d H' s e => q d H' (fun b o z nb => s _ _ (s6 _ _ (s5 _ _ (k4 b o z nb)))) e⟩⟩
        have kk : But a H (upd H5 tp (.tup [V.str (tx [true]), y])) := fun b o z nb => s6 _ _ (s5 _ _ (k4 b o z nb))
        cases hN with
        | non => exact .non
        | bl b => exact .bl b
        | str z => exact .str z
        | lst e => exact .lst (kk _ _ e (hya _ rfl))
        | tup e => exact .tup (kk _ _ e (hya _ rfl))
        | dK e => exact .dK (kk _ _ e (hya _ rfl))
end

end Fo

set_option maxHeartbeats 1000000
namespace FoWd
/-! ### pairs added to a table, their words as they are -/
def addTo (t : Ps) (w : Wd) (y : Rat) : Ps := put t w ((look t w).getD 0 + y)
def accum (t : Ps) (ps : Ps) : Ps := ps.foldl (fun t p => addTo t p.1 p.2) t
theorem coef_cons {p : Wd × Rat} {r : Ps} {a : Wd} : coef (p :: r) a = p.2 * ind a p.1 + coef r a := rfl
theorem coef_addTo {t : Ps} {w a : Wd} {y : Rat} (hn : (keys t).Nodup) : coef (addTo t w y) a = coef t a + y * ind a w := by
  unfold addTo
  induction t with
  | nil =>
    show (0 + y) * ind a w + 0 = 0 + y * ind a w
    grind
  | cons p r ih =>
    obtain ⟨n1, n2⟩ := List.nodup_cons.mp hn
    by_cases e : p.1 = w
    · have e1 : look (p :: r) w = some p.2 := by
        show (if p.1 = w then some p.2 else look r w) = _
        rw [if_pos e]
      have e2 : ∀ x, put (p :: r) w x = (w, x) :: r := fun x => by
        show (if p.1 = w then (w, x) :: r else p :: put r w x) = _
        rw [if_pos e]
      rw [e1, e2, coef_cons, coef_cons, e]
      show (p.2 + y) * ind a w + _ = _
      grind
    · have e1 : look (p :: r) w = look r w := by
        show (if p.1 = w then some p.2 else look r w) = _
        rw [if_neg e]
      have e2 : ∀ x, put (p :: r) w x = p :: put r w x := fun x => by
        show (if p.1 = w then (w, x) :: r else p :: put r w x) = _
        rw [if_neg e]
      rw [e1, e2, coef_cons, coef_cons, ih n2]
      grind
theorem accum_snoc (t ps : Ps) (p : Wd × Rat) : accum t (ps ++ [p]) = addTo (accum t ps) p.1 p.2 := by
  unfold accum
  rw [List.foldl_append]
  rfl
theorem accum_take {t ps : Ps} {i : Nat} {p : Wd × Rat} (h : ps[i]? = some p) : accum t (ps.take (i + 1)) = addTo (accum t (ps.take i)) p.1 p.2 := by
  rw [List.take_add_one, h]
  exact accum_snoc _ _ _
theorem accum_all {t : Ps} (hn : (keys t).Nodup) : ∀ ps : Ps, (keys (accum t ps)).Nodup ∧ (∀ a, coef (accum t ps) a = coef t a + coef ps a) ∧ (accum t ps).length ≤ t.length + ps.length ∧ ∀ w ∈ keys (accum t ps), w ∈ keys t ∨ w ∈ keys ps := by
  intro ps
  induction ps generalizing t with
  | nil => exact ⟨hn, fun a => by show coef t a = coef t a + 0; grind, Nat.le_refl _, fun w h => .inl h⟩
  | cons p ps ih =>
    have n1 : (keys (addTo t p.1 p.2)).Nodup := put_nodup hn
    obtain ⟨h1, h2, h3, h4⟩ := ih n1
    refine ⟨h1, fun a => ?_, ?_, fun w hw => ?_⟩
    · show coef (accum (addTo t p.1 p.2) ps) a = _
      rw [h2, coef_addTo hn, coef_cons]
      grind
    · show (accum (addTo t p.1 p.2) ps).length ≤ _
      have z : (addTo t p.1 p.2).length ≤ t.length + 1 := put_len
      rw [List.length_cons]
      omega
    · rcases h4 w hw with h | h
      · unfold addTo at h
        rw [keys_put] at h
        split at h
        · exact .inl h
        · rcases List.mem_append.mp h with h | h
          · exact .inl h
          · rw [List.mem_singleton.mp h]
            exact .inr List.mem_cons_self
      · exact .inr (List.mem_cons_of_mem _ h)
theorem le_keys {N : Nat} {f : Ps} : Le N f ↔ ∀ w ∈ keys f, w.length ≤ N := by
  constructor
  · intro h w hw
    obtain ⟨p, hp, rfl⟩ := List.mem_map.mp hw
    exact h p hp
  · intro h p hp
    exact h p.1 (List.mem_map.mpr ⟨p, hp, rfl⟩)
theorem le_accum {N : Nat} {t ps : Ps} (hn : (keys t).Nodup) (ht : Le N t) (hp : Le N ps) : Le N (accum t ps) := le_keys.mpr fun w hw => ((accum_all hn ps).2.2.2 w hw).elim (le_keys.mp ht w) (le_keys.mp hp w)
theorem form_accum {N : Nat} {t ps : Ps} (hn : (keys t).Nodup) : form N (accum t ps) = form N (t ++ ps) := form_ext fun a => by rw [(accum_all hn ps).2.1, coef_app]
end FoWd

set_option maxHeartbeats 1000000
namespace FoWd
/-! ### numbers over one bottom -/
def Ov (N B : Nat) (x : Rat) : Prop := ∃ z : Int, z.natAbs ≤ B ∧ x * (N : Rat) = (z : Rat)
theorem Ov.mono {N B C : Nat} {x : Rat} (h : Ov N B x) (l : B ≤ C) : Ov N C x := by
  obtain ⟨z, e1, e2⟩ := h
  exact ⟨z, by omega, e2⟩
theorem Ov.add {N B C : Nat} {x y : Rat} (h : Ov N B x) (g : Ov N C y) : Ov N (B + C) (x + y) := by
  obtain ⟨z, e1, e2⟩ := h
  obtain ⟨u, f1, f2⟩ := g
  refine ⟨z + u, by omega, ?_⟩
  rw [Rat.add_mul, e2, f2, Rat.intCast_add]
theorem Ov.neg {N B : Nat} {x : Rat} (h : Ov N B x) : Ov N B (-x) := by
  obtain ⟨z, e1, e2⟩ := h
  exact ⟨-z, by omega, by rw [Rat.neg_mul, e2, Rat.intCast_neg]⟩
theorem Ov.mul {N M B C : Nat} {x y : Rat} (h : Ov N B x) (g : Ov M C y) : Ov (N * M) (B * C) (x * y) := by
  obtain ⟨z, e1, e2⟩ := h
  obtain ⟨u, f1, f2⟩ := g
  refine ⟨z * u, by rw [Int.natAbs_mul]; exact Nat.mul_le_mul e1 f1, ?_⟩
  rw [Rat.intCast_mul, ← e2, ← f2, Rat.natCast_mul]
  grind
theorem Ov.zero {N B : Nat} : Ov N B 0 := ⟨0, Nat.zero_le _, by rw [Rat.zero_mul]; rfl⟩
theorem Ov.one {N : Nat} : Ov N N 1 := ⟨N, by simp, by rw [Rat.one_mul]; rfl⟩
theorem Ov.scale {N B M : Nat} {x : Rat} (h : Ov N B x) : Ov (N * M) (B * M) x := by
  have := h.mul (Ov.one (N := M))
  rwa [Rat.mul_one] at this
theorem natq_ne {N : Nat} (h : 0 < N) : (N : Rat) ≠ 0 := fun c => by
  have : N = 0 := by exact_mod_cast c
  omega
theorem Ov.sz {N B k : Nat} {x : Rat} (h : Ov N B x) (n0 : 0 < N) (n1 : N < 2 ^ k) (b1 : B < 2 ^ k) : FoQ.SzR k x := by
  obtain ⟨z, e1, e2⟩ := h
  have e : x = Rat.divInt z (N : Int) := by
    have e3 : Rat.divInt z (N : Int) = (z : Rat) / (N : Rat) := by
      rw [Rat.divInt_eq_div]
      rfl
    rw [e3, ← e2, Rat.mul_div_cancel (natq_ne n0)]
  rw [e]
  exact FoQ.SzR.divInt (by omega) (by show z.natAbs < _; omega) (by show (N : Int).natAbs < _; rw [Int.natAbs_natCast]; exact n1)
/-- all numbers of a list of pairs -/
def AllOv (N B : Nat) (ps : Ps) : Prop := ∀ p ∈ ps, Ov N B p.2
theorem AllOv.mono {N B C : Nat} {ps : Ps} (h : AllOv N B ps) (l : B ≤ C) : AllOv N C ps := fun p hp => (h p hp).mono l
theorem coef_ov {N B : Nat} {ps : Ps} (h : AllOv N B ps) (a : Wd) : Ov N (ps.length * B) (coef ps a) := by
  induction ps with
  | nil => exact Ov.zero
  | cons p r ih =>
    have i1 := ih fun q hq => h q (List.mem_cons_of_mem _ hq)
    have i2 := h p List.mem_cons_self
    rw [coef_cons, List.length_cons, Nat.succ_mul, Nat.add_comm (r.length * B) B]
    refine Ov.add ?_ i1
    unfold ind
    split
    · rw [Rat.mul_one]; exact i2
    · rw [Rat.mul_zero]; exact Ov.zero
theorem AllOv.form {N B M : Nat} {ps : Ps} (h : AllOv N B ps) : AllOv N (ps.length * B) (form M ps) := fun p hp => by
  rw [(mem_form.mp hp).2.2]
  exact coef_ov h _
theorem AllOv.app {N B : Nat} {ps qs : Ps} (h : AllOv N B ps) (g : AllOv N B qs) : AllOv N B (ps ++ qs) := fun p hp => (List.mem_append.mp hp).elim (h p) (g p)
theorem AllOv.turn {N B : Nat} {ps : Ps} (h : AllOv N B ps) : AllOv N B (turn ps) := fun p hp => by
  obtain ⟨q, hq, rfl⟩ := List.mem_map.mp hp
  exact h q hq
theorem AllOv.times {N B M C : Nat} {c : Rat} {ps : Ps} (hc : Ov M C c) (h : AllOv N B ps) : AllOv (M * N) (C * B) (scl c ps) := fun p hp => by
  obtain ⟨q, hq, rfl⟩ := List.mem_map.mp hp
  exact hc.mul (h q hq)
theorem AllOv.opp {N B : Nat} {ps : Ps} (h : AllOv N B ps) : AllOv N B (scl (-1) ps) := fun p hp => by
  obtain ⟨q, hq, rfl⟩ := List.mem_map.mp hp
  have e : (-1 : Rat) * q.2 = -q.2 := by grind
  show Ov N B (-1 * q.2)
  rw [e]
  exact (h q hq).neg
theorem AllOv.mul {N B M C : Nat} {ps qs : Ps} (h : AllOv N B ps) (g : AllOv M C qs) : AllOv (N * M) (B * C) (mul ps qs) := fun p hp => by
  obtain ⟨x, hx, hp⟩ := List.mem_flatMap.mp hp
  obtain ⟨y, hy, rfl⟩ := List.mem_map.mp hp
  exact (h x hx).mul (g y hy)
theorem AllOv.take {N B i : Nat} {ps : Ps} (h : AllOv N B ps) : AllOv N B (ps.take i) := fun p hp => h p (List.mem_of_mem_take hp)
theorem look_ov {N B : Nat} {t : Ps} (h : AllOv N B t) (w : Wd) : Ov N B ((look t w).getD 0) := by
  induction t with
  | nil => exact Ov.zero
  | cons p r ih =>
    show Ov N B ((if p.1 = w then some p.2 else look r w).getD 0)
    split
    · exact h p List.mem_cons_self
    · exact ih fun q hq => h q (List.mem_cons_of_mem _ hq)
theorem accum_look {N B : Nat} {ps : Ps} (hp : AllOv N B ps) : ∀ {C : Nat} {t : Ps}, (∀ w, Ov N C ((look t w).getD 0)) → ∀ w, Ov N (C + ps.length * B) ((look (accum t ps) w).getD 0) := by
  induction ps with
  | nil =>
    intro C t h w
    exact (h w).mono (Nat.le_add_right _ _)
  | cons p r ih =>
    intro C t h w
    have hx := hp p List.mem_cons_self
    have z := ih (fun q hq => hp q (List.mem_cons_of_mem _ hq)) (C := C + B) (t := addTo t p.1 p.2) (fun v => by
      unfold addTo
      rw [look_put]
      split
      · exact (h p.1).add hx
      · exact (h v).mono (Nat.le_add_right _ _)) w
    show Ov N _ ((look (accum (addTo t p.1 p.2) r) w).getD 0)
    rw [List.length_cons, Nat.succ_mul]
    exact z.mono (by omega)
theorem accum_ov {N B C : Nat} {t ps : Ps} (hn : (keys t).Nodup) (ht : AllOv N C t) (hp : AllOv N B ps) : AllOv N (C + ps.length * B) (accum t ps) := fun p h => by
  have e := (look_mem (accum_all hn ps).1).mpr h
  have z := accum_look hp (look_ov ht) p.1
  rw [e] at z
  exact z
theorem aw_len : ∀ n, (AW n).length = 2 * n + 1
  | 0 => rfl
  | n + 1 => by
    show (AW n ++ [_, _]).length = _
    rw [List.length_append, aw_len n]
    rfl
theorem form_len (N : Nat) (ps : Ps) : (form N ps).length ≤ 2 * N + 1 := by
  rw [← aw_len N]
  exact List.length_filterMap_le _ _
theorem mul_len (f g : Ps) : (mul f g).length = f.length * g.length := by
  induction f with
  | nil => exact (Nat.zero_mul _).symm
  | cons a r ih =>
    show (g.map _ ++ mul r g).length = _
    rw [List.length_append, List.length_map, ih, List.length_cons, Nat.succ_mul, Nat.add_comm]
end FoWd

set_option maxHeartbeats 1000000
namespace FoWd
open PySem PySem.Spec PyProof.Rows
/-! ### words of one length among sorted ones -/
theorem rising_pw : ∀ (l : List Str) (p : Str), risingS p l = true → (p :: l).Pairwise fun x y => ¬ TL.tl y < TL.tl x
  | [], p, _ => List.pairwise_singleton _ _
  | x :: r, p, h => by
    have h' : (!ltCps x.cps.toList p.cps.toList && risingS x r) = true := h
    rw [Bool.and_eq_true] at h'
    obtain ⟨h1, h2⟩ := h'
    have ih := rising_pw r x h2
    have h1 : ¬ TL.tl x < TL.tl p := by
      rw [ltCps_eq] at h1
      simpa using h1
    refine List.pairwise_cons.mpr ⟨fun y hy => ?_, ih⟩
    rcases List.mem_cons.mp hy with rfl | hy
    · exact h1
    · have h3 := (List.pairwise_cons.mp ih).1 y hy
      exact List.not_lt.mpr (List.le_trans (List.not_lt.mp h1) (List.not_lt.mp h3))
theorem sortedS_pw {l : List Str} (h : sortedS l = true) : l.Pairwise fun x y => ¬ TL.tl y < TL.tl x := by
  cases l with
  | nil => exact List.Pairwise.nil
  | cons x r => exact rising_pw r x h
def untx (s : Str) : Wd := s.cps.toList.map fun c => decide (c = 112)
theorem untx_tx (w : Wd) : untx (tx w) = w := by
  show (w.map lcode).map _ = w
  rw [List.map_map]
  refine (List.map_congr_left fun b _ => ?_).trans (List.map_id _)
  cases b <;> rfl
theorem perm_tx {l : List Str} {k : List Wd} (h : l.Perm (k.map tx)) : ∃ k' : List Wd, k'.Perm k ∧ l = k'.map tx := by
  refine ⟨l.map untx, ?_, ?_⟩
  · have := h.map untx
    rw [List.map_map] at this
    have e : k.map (untx ∘ tx) = k := (List.map_congr_left fun b _ => untx_tx b).trans (List.map_id _)
    rwa [e] at this
  · rw [List.map_map]
    refine ((List.map_congr_left fun s hs => ?_).trans (List.map_id _)).symm
    obtain ⟨w, _, rfl⟩ := List.mem_map.mp (h.mem_iff.mp hs)
    show tx (untx (tx w)) = _
    rw [untx_tx]
    rfl
theorem keys_len {N : Nat} {ps : Ps} (h : Le N ps) : (keys (gath ps)).length ≤ 2 * N + 1 := by
  have p : (keys (gath ps)).Perm (ordered N ps) := (List.perm_ext_iff_of_nodup (gath_all ps).1 (List.Nodup.sublist List.filter_sublist (AW_nodup N))).mpr fun a => by
    rw [List.mem_filter]
    exact ⟨fun h2 => ⟨gath_aw h a h2, decide_eq_true h2⟩, fun h2 => of_decide_eq_true h2.2⟩
  rw [p.length_eq, ← aw_len N]
  exact List.length_filter_le _ _
/-- the words of the length s, sorted -/
theorem slice {N s : Nat} {ps : Ps} {k' : List Wd} (h : Le N ps) (hp : k'.Perm (keys (gath ps))) (hs : sortedS (k'.map tx) = true) : k'.filter (fun a => decide (a.length = s)) = (ordered N ps).filter fun a => decide (a.length = s) := by
  have pw := sortedS_pw hs
  have nd : k'.Nodup := hp.nodup_iff.mpr (gath_all ps).1
  have a1 := sorted_aw (N := N) (ks := k'.filter fun a => decide (a.length = s)) (l := (k'.filter fun a => decide (a.length = s)).map tx) (List.Nodup.sublist List.filter_sublist nd)
    (fun a ha => gath_aw h a (hp.mem_iff.mp (List.mem_filter.mp ha).1)) (List.Perm.refl _) (by
      have q : ((k'.filter fun a => decide (a.length = s)).map tx).Pairwise fun x y => ¬ TL.tl y < TL.tl x := List.Pairwise.sublist (List.Sublist.map tx List.filter_sublist) pw
      refine List.Pairwise.imp_of_mem (fun {x y} hx hy e => ?_) q
      obtain ⟨u, hu, rfl⟩ := List.mem_map.mp hx
      obtain ⟨v, hv, rfl⟩ := List.mem_map.mp hy
      refine .inr ⟨?_, e⟩
      rw [tx_len, tx_len, of_decide_eq_true (List.mem_filter.mp hu).2, of_decide_eq_true (List.mem_filter.mp hv).2])
  have inj : ∀ {x y : List Wd}, x.map tx = y.map tx → x = y := fun {x y} e => by
    have := congrArg (List.map untx) e
    rw [List.map_map, List.map_map] at this
    have i1 : ∀ z : List Wd, z.map (untx ∘ tx) = z := fun z => (List.map_congr_left fun b _ => untx_tx b).trans (List.map_id _)
    rwa [i1, i1] at this
  rw [inj a1]
  unfold ordered
  rw [List.filter_filter]
  refine List.filter_congr fun a ha => ?_
  rw [Bool.eq_iff_iff]
  simp only [Bool.and_eq_true, decide_eq_true_eq, List.mem_filter]
  constructor
  · intro ⟨h1, h2⟩
    exact ⟨h2, hp.mem_iff.mp h1⟩
  · intro ⟨h1, h2⟩
    exact ⟨hp.mem_iff.mpr h2, h1⟩
/-- the entries of one length -/
def sel (ps : Ps) (s : Nat) (a : Wd) : Option (Wd × Rat) := if a.length = s then (if coef ps a = 0 then none else some (a, coef ps a)) else none
theorem sel_slice {N s : Nat} {ps : Ps} {k' : List Wd} (h : Le N ps) (hp : k'.Perm (keys (gath ps))) (hs : sortedS (k'.map tx) = true) : k'.filterMap (sel ps s) = (form N ps).filter fun p => decide (p.1.length = s) := by
  have e1 : ∀ l : List Wd, l.filterMap (sel ps s) = (l.filter fun a => decide (a.length = s)).filterMap fun a => if coef ps a = 0 then none else some (a, coef ps a) := fun l => by
    rw [List.filterMap_filter]
    refine fmap_congr fun a _ => ?_
    unfold sel
    by_cases c : a.length = s
    · rw [if_pos c, if_pos (decide_eq_true c)]
    · rw [if_neg c, if_neg (by simpa using c)]
  rw [e1, slice h hp hs, form_ordered, ← e1]
  generalize ordered N ps = l
  induction l with
  | nil => rfl
  | cons a l ih =>
    rw [List.filterMap_cons, List.filterMap_cons]
    by_cases c : a.length = s
    · by_cases z : coef ps a = 0
      · have : sel ps s a = none := by unfold sel; rw [if_pos c, if_pos z]
        rw [this, if_pos z]
        exact ih
      · have : sel ps s a = some (a, coef ps a) := by unfold sel; rw [if_pos c, if_neg z]
        rw [this, if_neg z, List.filter_cons, if_pos (decide_eq_true c)]
        show _ :: _ = _ :: _
        rw [ih]
    · have : sel ps s a = none := by unfold sel; rw [if_neg c]
      rw [this]
      by_cases z : coef ps a = 0
      · rw [if_pos z]; exact ih
      · rw [if_neg z, List.filter_cons, if_neg (by simpa using c)]
        exact ih
/-- shorter than s -/
def below (s : Nat) (f : Ps) : Ps := f.filter fun p => decide (p.1.length < s)
theorem below_zero (f : Ps) : below 0 f = [] := by
  unfold below
  rw [List.filter_eq_nil_iff]
  intro p _
  simp
theorem below_all {s : Nat} {f : Ps} (h : ∀ p ∈ f, p.1.length < s) : below s f = f := by
  unfold below
  rw [List.filter_eq_self]
  intro p hp
  exact decide_eq_true (h p hp)
theorem below_next {s : Nat} {f : Ps} (h : f.Pairwise fun p q => p.1.length ≤ q.1.length) : below (s + 1) f = below s f ++ f.filter fun p => decide (p.1.length = s) := by
  unfold below
  induction f with
  | nil => rfl
  | cons p r ih =>
    obtain ⟨h1, h2⟩ := List.pairwise_cons.mp h
    rw [List.filter_cons, List.filter_cons, List.filter_cons, ih h2]
    by_cases c1 : p.1.length < s
    · rw [if_pos (decide_eq_true (by omega : p.1.length < s + 1)), if_pos (decide_eq_true c1), if_neg (by simp; omega)]
      rfl
    · have e : r.filter (fun p => decide (p.1.length < s)) = [] := by
        rw [List.filter_eq_nil_iff]
        intro q hq
        have := h1 q hq
        simp
        omega
      rw [e, if_neg (show ¬ decide (p.1.length < s) = true by simpa using c1)]
      by_cases c2 : p.1.length = s
      · rw [if_pos (decide_eq_true (by omega : p.1.length < s + 1)), if_pos (decide_eq_true c2)]
        rfl
      · rw [if_neg (show ¬ decide (p.1.length < s + 1) = true by simp; omega), if_neg (show ¬ decide (p.1.length = s) = true by simpa using c2)]
theorem form_rising (N : Nat) (ps : Ps) : (form N ps).Pairwise fun p q => p.1.length ≤ q.1.length := by
  have h := le2_aw N
  rw [List.pairwise_map] at h
  have k : (keys (form N ps)).Pairwise fun a b => a.length ≤ b.length := by
    rw [keys_form]
    refine List.Pairwise.sublist List.filter_sublist (h.imp fun {a b} e => ?_)
    rcases e with e | ⟨e, _⟩ <;> rw [tx_len, tx_len] at e <;> omega
  unfold keys at k
  rw [List.pairwise_map] at k
  exact k
end FoWd

set_option maxHeartbeats 4100000
namespace Fo
open PySem PySem.Spec PyProof.Rows L2
/-! ### the law's form -/
open FoWd
/-- a pair of a row and a fraction -/
def PrAt (H : Hp) (v : V) (p : Wd × Rat) : Prop := ∃ q t, v = .ref q ∧ H q = some (.tup [.str (tx p.1), .ref t]) ∧ FrQ H t p.2
/-- a list of them -/
def LP (H : Hp) (a : Addr) (ps : Ps) : Prop := ∃ vs, H a = some (.lst vs) ∧ Paired (PrAt H) vs ps
theorem PrAt.nld {H H' : Hp} {v : V} {p : Wd × Rat} (h : PrAt H v p) (s : NLD H H') : PrAt H' v p := by
  obtain ⟨q, t, e1, e2, e3⟩ := h
  exact ⟨q, t, e1, s _ _ e2 trivial, s _ _ e3 trivial⟩
theorem LP.same {H H' : Hp} {a : Addr} {ps : Ps} (h : LP H a ps) (s : Same H H') : LP H' a ps := by
  obtain ⟨vs, e, hp⟩ := h
  exact ⟨vs, s _ _ e, Paired.mapP hp fun v p q => q.nld (same_nld s)⟩
def spFormL : Sp := fun vs H Q _ => ∃ (a : Addr) (ps : Ps) (N : Nat), vs = [.ref a] ∧ LP H a ps ∧ Le N ps ∧ N ≤ 30 ∧ ps.length ≤ 200 ∧ Grow 1900 ps ∧
  ∀ p H' kvs, H p = none → Same H H' → H' p = some (.dK kvs) → DL Rq H' kvs (form N ps) → Q (.ref p) H'
theorem tx_at0 {w : Wd} : (tx w).length = w.length := tx_len w
section
variable {P : Program} {w : World} {K : PySem.W.Frag} {mg : Str → Option Value} {base : Heap}
theorem ok_formL (T : Tx K mg) : FnOk P w K mg base CX0 3 (He.ga K "_law_form") T.fd_form ["_law_pairs_here"] spFormL := by
  refine T.F_form.ok sc_form (fun vs H Q E h => ?_) (fun cdv A outer s H vs Q E hr h => ?_)
  · obtain ⟨a, ps, N, rfl, _⟩ := h
    rfl
  · obtain ⟨a, ps, N, rfl, ⟨vs, ha, hL⟩, hN, n30, l200, hG, Qr⟩ := h
    refine ⟨_, (pss_cons (ps_set (i := 1) sc_form.nd rfl (.inl rfl) pe_dnewK)
      (pss_cons (ps_for PassesOwn.never rfl (pi_list (pv 0)) (pg_tup (by rfl) (pgs_cons (pg_name (i := 2) sc_form.nd rfl (.inl rfl)) (pgs_cons (pg_name (i := 3) sc_form.nd rfl (.inl rfl)) pgs_nil))) (pss_cons (ps_set (i := 4) sc_form.nd rfl (.inl rfl) (pe_call (ok_shortL T) (hr.mono (by decide)) (by rfl) T.g_short T.F_short.kp T.b_short .nil pass0 (pa_cons (pv 2) pa_nil)))
      (pss_one (ps_dput (Nat.lt_of_le_of_lt (Nat.add_le_add_left (by decide) _) hr.units) (pv 1) (pv 4) (pe_call (ok_plusQ T) (hr.mono (by decide)) (by rfl) T.g_plus T.F_plus.kp T.b_plus .nil pass0 (pa_cons (pe_dget2 (Nat.lt_of_le_of_lt (Nat.add_le_add_left (by decide) _) hr.units) (pv 1) (pv 4) (pe_tup (pa_cons pe_int (pa_cons pe_int pa_nil))) ⟨by rfl, by rfl, by rfl, by rfl⟩) (pa_cons (pv 3) pa_nil))) rfl))))
      (pss_cons (ps_set (i := 5) sc_form.nd rfl (.inl rfl) pe_dnewK)
      (pss_cons (ps_for PassesOwn.never rfl (pi_range1 (by rfl) T.z_range (pa_cons pe_int pa_nil)) (pg_name (i := 6) sc_form.nd rfl (.inl rfl)) (pss_one (ps_for PassesOwn.never rfl (pi_list (pe_callB cr_sortedS (by rfl) T.z_sorted (by decide +kernel) (pa_cons (pe_lc (own := [("_law_key", 4)]) (g := gName 4) rfl sc_form.nd (pi_list (pe_callTy (call_list_dK (by rfl)) (by rfl) T.z_list (by decide +kernel) (pa_cons (pv 1) pa_nil))) (blkOk_by (own := [("_law_key", 4)]) (N := ["_law_pairs_here", "_law_found", "_law_row_here", "_law_x", "_law_key", "_law_made", "_law_size"]) (sc := defScope s_form) (by decide +kernel)) (fun _ _ _ _ _ => (pg_name (i := 4) sc_form.nd rfl (.inl rfl))) (fun _ _ _ _ _ => pts_nil) (fun _ _ _ _ _ => (pe_callTy SkE.call_str_str (by rfl) T.z_str (by decide +kernel) (pa_cons (pv 4) pa_nil)))) pa_nil))) (pg_name (i := 2) sc_form.nd rfl (.inl rfl)) (pss_one (ps_if (PW.pt (pw_and (pt_cmpR op_eq (pe_callB call_len_str (by rfl) T.z_len PySem.boot_len (pa_cons (pv 2) pa_nil)) (pv 6) (nomark _)) (pw_and1 (pt_cmpR op_ne (pe_ix ix_tup (pe_dget (Nat.lt_of_le_of_lt (Nat.add_le_add_left (by decide) _) hr.units) (pv 1) (pv 2) (fun _ _ => rfl)) pe_int (fun _ _ => rfl)) pe_int (nomark _))))) (pss_one (ps_dput (Nat.lt_of_le_of_lt (Nat.add_le_add_left (by decide) _) hr.units) (pv 5) (pv 2) (pe_dget (Nat.lt_of_le_of_lt (Nat.add_le_add_left (by decide) _) hr.units) (pv 1) (pv 2) (fun _ _ => rfl)) rfl)) pss_nil)))))
      (pss_one (ps_ret (pv 5))))))), ?_⟩
    have lv : vs.length = ps.length := Paired.length hL
    refine fun p np => ?_
    have s0 := Same.upd np (o := .dK [])
    have p0 : upd H p (.dK []) p = some (.dK []) := upd_same
    generalize upd H p (.dK []) = H1 at *
    refine ⟨_, rfl, a, rfl, ⟨_, SqL.of (s0 _ _ ha)⟩, ?_⟩
    refine for_list (xs := vs) (fun i σ H2 => ∃ kt o2 o3 o4, σ = [some (.ref a), some (.ref p), o2, o3, o4, none, none] ∧ H2 p = some (.dK kt) ∧ DL Rq H2 kt (gath (ps.take i)) ∧ Same H H2)
      ⟨[], none, none, none, rfl, p0, .nil, s0⟩ (fun i σ H2 _ ⟨_, _, _, _, _, _, _, h⟩ => SqL.of (h _ _ ha)) ?_ ?_
    · rintro i v σ H3 ev ⟨kt, o2, o3, o4, rfl, hp, hD, hs⟩
      obtain ⟨q, eq, tq, r, rfl, hq, hr⟩ := paired_get hL ev
      obtain ⟨qw, qx⟩ := q
      dsimp only at hq hr
      have mq := List.mem_of_getElem? eq
      have z1 := hG.1 _ mq
      have z2 := hG.2 i (sh qw)
      have lw : qw.length ≤ 1000 := Nat.le_trans (hN _ mq) (by omega)
      refine ⟨tq, _, rfl, SqT.of (hs _ _ hq), rfl, _, _, rfl, _, _, rfl, rfl, _, rfl, qw, rfl, lw, ?_⟩
      refine ⟨_, rfl, p, rfl, .inl ⟨kt, .inl hp⟩, _, rfl, (by show 2 ≤ sizeLine; rw [sizeLine_eq]; decide), fun p0 np0 => ?_⟩
      have s4 := Same.upd np0 (o := .tup [.int 0, .int 1])
      have h0 : FrQ (upd H3 p0 (.tup [.int 0, .int 1])) p0 0 := upd_same
      generalize upd H3 p0 (.tup [.int 0, .int 1]) = H4 at *
      have hp4 := s4 _ _ hp
      have hr4 : FrQ H4 r qx := s4 _ _ (hs _ _ hr)
      have got : ∃ o, DGet H4 p (.str (tx (sh qw))) o ∧ ∃ b, o.getD (.ref p0) = .ref b ∧ FrQ H4 b (coef (ps.take i) (sh qw)) := by
        refine ⟨_, .inl ⟨kt, .inr (tx (sh qw)), .inl hp4, rfl, rfl⟩, ?_⟩
        rw [← (gath_all (ps.take i)).2.1 (sh qw)]
        rcases hD.look (w := sh qw) with ⟨l1, l2⟩ | ⟨x, v, l1, l2, b, rfl, hb⟩
        · rw [l1, l2]
          exact ⟨p0, rfl, h0⟩
        · rw [l1, l2]
          exact ⟨b, rfl, s4 _ _ hb⟩
      obtain ⟨o, g1, b, g2, hb⟩ := got
      refine ⟨o, g1, ?_⟩
      rw [g2]
      refine ⟨_, rfl, b, r, _, _, rfl, hb, hr4, z2, z1, fun p5 np5 => ?_⟩
      have s5 := Same.upd np5 (o := qt (coef (ps.take i) (sh qw) + qx))
      have h5 : FrQ (upd H4 p5 (qt (coef (ps.take i) (sh qw) + qx))) p5 (coef (ps.take i) (sh qw) + qx) := upd_same
      generalize upd H4 p5 (qt (coef (ps.take i) (sh qw) + qx)) = H5 at *
      have hp5 := s5 _ _ hp4
      refine ⟨_, rfl, _, rfl, p, _, rfl, .inl ⟨kt, .inr (tx (sh qw)), hp5, rfl, ?_, rfl⟩, _, _, _, _, rfl, upd_same, ?_, fun b o e => ?_⟩
      · have z := gath_len (ps.take i)
        rw [← hD.len, List.length_take] at z
        rw [sizeLine_eq]
        omega
      · rw [gath_take eq]
        unfold addAt
        rw [(gath_all (ps.take i)).2.1]
        exact DL.put ((hD.nld rq_solidD (same_nld (s4.trans s5))).nld rq_solidD (nld_upd hp5 id)) (gath_all (ps.take i)).1 ⟨p5, rfl, nld_upd hp5 id _ _ h5 trivial⟩
      · rw [upd_ne (fun z => by rw [z, np] at e; cases e)]
        exact s5 _ _ (s4 _ _ (hs b o e))
    · rintro σ H2 ⟨kt, o2, o3, o4, rfl, hp, hD, hs⟩
      rw [lv, List.take_length] at hD
      refine fun p2 np2 => ?_
      have p2p : p2 ≠ p := fun z => by rw [z, hp] at np2; cases np2
      have s1 := Same.upd np2 (o := .dK [])
      have m0 : upd H2 p2 (.dK []) p2 = some (.dK []) := upd_same
      have hp1 := s1 _ _ hp
      have hD1 := hD.nld rq_solidD (same_nld s1)
      have hs1 : Same H (upd H2 p2 (.dK [])) := hs.trans s1
      have np2H : H p2 = none := hs.free np2
      clear hD
      generalize upd H2 p2 (.dK []) = H3 at *
      have frise := form_rising N ps
      have kn := (gath_all ps).1
      refine ⟨40, rfl, by decide, by decide, ?_⟩
      refine for_range (n := 40) (fun s σ H4 => ∃ km o2 o3 o4 o6, σ = [some (.ref a), some (.ref p), o2, o3, o4, some (.ref p2), o6] ∧ H4 p2 = some (.dK km) ∧ DL Rq H4 km (below s (form N ps)) ∧ But p2 H3 H4)
        ⟨[], _, _, _, _, rfl, m0, by rw [below_zero]; exact .nil, fun b o e n => e⟩ ?_ ?_
      · rintro s σ H4 hs40 ⟨km, o2, o3, o4, o6, rfl, hm, hM, b4⟩
        have hp4 := b4 _ _ hp1 (Ne.symm p2p)
        have n4 : NLD H3 H4 := fun b o e fi => b4 _ _ e (fun z => by rw [z, m0] at e; cases e; exact fi)
        have hD4 := hD1.nld rq_solidD n4
        refine ⟨_, rfl, p, kt, rfl, hp4, fun q1 nq1 => ?_⟩
        have q1p2 : q1 ≠ p2 := fun z => by rw [z, hm] at nq1; cases nq1
        have s5 := Same.upd nq1 (o := .lst (kt.map fun kv => kV kv.1))
        have g5 : upd H4 q1 (.lst (kt.map fun kv => kV kv.1)) q1 = some (.lst (kt.map fun kv => kV kv.1)) := upd_same
        generalize upd H4 q1 (.lst (kt.map fun kv => kV kv.1)) = H5 at *
        have ek : (kt.map fun kv => kV kv.1) = ((FoWd.keys (gath ps)).map tx).map V.str := by
          have z := hD4.keys
          have z2 : (kt.map fun kv => kV kv.1) = (kt.map (·.1)).map kV := by rw [List.map_map]; rfl
          rw [z2, z, List.map_map, List.map_map]
          rfl
        rw [ek] at g5
        have hm5 := s5 _ _ hm
        have hp5 := s5 _ _ hp4
        have b5 : But p2 H3 H5 := fun b o e n => s5 _ _ (b4 b o e n)
        have hM5 := hM.nld rq_solidD (same_nld s5)
        have hD5 := hD4.nld rq_solidD (same_nld s5)
        clear hm hp4 b4 hM hD4 n4
        refine ⟨q1, rfl, ⟨_, SqL.of g5⟩, fun D nD => ?_⟩
        refine lc_list (fun i H' => H' D = some (.lst ((((FoWd.keys (gath ps)).map tx).take i).map V.str)) ∧ Same H5 H') ⟨upd_same, Same.upd nD⟩ (fun i H' _ h => SqL.of (h.2 _ _ g5)) (fun i x H6 ex h => ?_) (fun H6 h => ?_)
        · obtain ⟨hD6, s6⟩ := h
          rw [List.getElem?_map] at ex
          obtain ⟨z, ez⟩ : ∃ z, ((FoWd.keys (gath ps)).map tx)[i]? = some z := by
            cases e : ((FoWd.keys (gath ps)).map tx)[i]? with
            | none => rw [e] at ex; cases ex
            | some z => exact ⟨z, rfl⟩
          rw [ez] at ex
          cases ex
          refine ⟨rfl, _, rfl, z, rfl, _, hD6, ?_, ?_, fun b o e => ?_⟩
          · have := keys_len hN
            rw [List.length_map, List.length_take, List.length_map, sizeLine_eq]
            omega
          · rw [upd_same, List.take_add_one, ez, List.map_append]
            rfl
          · rw [upd_ne (ne_of_none e nD)]
            exact s6 _ _ e
        · obtain ⟨hD6, s6⟩ := h
          rw [List.length_map, ← List.length_map (f := V.str), List.take_of_length_le (by simp)] at hD6
          have kl := keys_len hN
          refine ⟨D, _, rfl, SqL.of hD6, by rw [List.length_map]; omega, fun ys q2 perm hsort nq2 => ?_⟩
          obtain ⟨k', pk, rfl⟩ := perm_tx perm
          have s7 := Same.upd nq2 (o := .lst ((k'.map tx).map V.str))
          have g7 : upd H6 q2 (.lst ((k'.map tx).map V.str)) q2 = some (.lst ((k'.map tx).map V.str)) := upd_same
          have s67 := s6.trans s7
          generalize upd H6 q2 (.lst ((k'.map tx).map V.str)) = H7 at *
          have hm7 := s67 _ _ hm5
          have q2p2 : q2 ≠ p2 := fun z => by
            rw [z, s6 _ _ hm5] at nq2
            cases nq2
          have b7 : But p2 H3 H7 := fun b o e n => s67 _ _ (b5 b o e n)
          have nk' : k'.Nodup := pk.nodup_iff.mpr kn
          refine ⟨q2, rfl, ⟨_, SqL.of g7⟩, ?_⟩
          refine for_list (xs := (k'.map tx).map V.str) (fun j σ H8 => ∃ km o2, σ = [some (.ref a), some (.ref p), o2, o3, o4, some (.ref p2), some (.int (0 + s))] ∧ H8 p2 = some (.dK km) ∧ DL Rq H8 km (below s (form N ps) ++ (k'.take j).filterMap (sel ps s)) ∧ But p2 H7 H8)
            ⟨km, o2, rfl, hm7, by rw [List.take_zero, List.filterMap_nil, List.append_nil]; exact hM5.nld rq_solidD (same_nld s67), fun b o e n => e⟩ (fun j σ H8 _ ⟨_, _, _, _, _, h⟩ => SqL.of (h _ _ g7 q2p2)) ?_ ?_
          · rintro j v σ H8 ev ⟨km, o2, rfl, hm8, hM8, b8⟩
            rw [List.getElem?_map, List.getElem?_map] at ev
            obtain ⟨wd, ew⟩ : ∃ wd, k'[j]? = some wd := by
              cases e : k'[j]? with
              | none => rw [e] at ev; cases ev
              | some z => exact ⟨z, rfl⟩
            rw [ew] at ev
            cases ev
            have mw : wd ∈ FoWd.keys (gath ps) := pk.mem_iff.mp (List.mem_of_getElem? ew)
            have lw := AW_len (gath_aw hN wd mw)
            have n8 : NLD H5 H8 := fun b o e fi => b8 _ _ (s67 _ _ e) (fun z => by rw [z, hm5] at e; cases e; exact fi)
            have hp8 : H8 p = some (.dK kt) := b8 _ _ (s67 _ _ hp5) (Ne.symm p2p)
            have hD8 := hD5.nld rq_solidD n8
            obtain ⟨v, l2, b, rfl, hb⟩ : ∃ v, valV kt (.inr (tx wd)) = some v ∧ Rq (coef ps wd) H8 v := by
              rcases hD8.look (w := wd) with ⟨l1, _⟩ | ⟨x, v, l1, l2, hv⟩
              · rw [gath_at mw] at l1
                cases l1
              · rw [gath_at mw] at l1
                cases l1
                exact ⟨v, l2, hv⟩
            have gd : DGet H8 p (.str (tx wd)) (some (.ref b)) := .inl ⟨kt, .inr (tx wd), .inl hp8, rfl, l2.symm⟩
            have tk2 := fm_take (f := sel ps s) ew
            refine ⟨_, rfl, tx wd, rfl, by rw [tx_len, sizeLine_eq]; omega, _, rfl, rfl, _, rfl, ?_⟩
            rw [tx_len]
            by_cases c1 : wd.length = s
            · have e1 : decide (V.int (wd.length : Int) = .int (0 + (s : Int))) = true := decide_eq_true (by rw [c1, Int.zero_add])
              rw [e1]
              refine iteT ?_
              refine ⟨_, rfl, _, rfl, p, .ref b, rfl, gd, b, _, 0, _, rfl, rfl, SqT.of hb, rfl, rfl, _, rfl, ?_⟩
              by_cases c0 : coef ps wd = 0
              · have e2 : decide (V.int (coef ps wd).num = .int 0) = true := decide_eq_true (by rw [c0]; rfl)
                rw [e2]
                refine iteF ⟨km, _, rfl, hm8, ?_, b8⟩
                rw [tk2, show sel ps s wd = none by unfold sel; rw [if_pos c1, if_pos c0]]
                simpa using hM8
              · have e2 : decide (V.int (coef ps wd).num = .int 0) = false := decide_eq_false fun z => c0 (Rat.num_eq_zero.mp (V.int.inj z))
                rw [e2]
                refine iteT ⟨_, rfl, _, rfl, p, .ref b, rfl, gd, _, rfl, _, rfl, p2, _, rfl, .inl ⟨km, .inr (tx wd), hm8, rfl, ?_, rfl⟩, _, _, rfl, upd_same, ?_, fun b2 o2 e2 n2 => ?_⟩
                · have z1 := hM8.len
                  have z2 := List.length_filterMap_le (sel ps s) (k'.take j)
                  have z3 : (below s (form N ps)).length ≤ 61 := Nat.le_trans (List.length_filter_le _ _) (Nat.le_trans (form_len N ps) (by omega))
                  have z4 := pk.length_eq
                  rw [List.length_take] at z2
                  rw [List.length_append] at z1
                  rw [sizeLine_eq]
                  omega
                · rw [tk2, show sel ps s wd = some (wd, coef ps wd) by unfold sel; rw [if_pos c1, if_neg c0]]
                  have fresh : wd ∉ FoWd.keys (below s (form N ps) ++ (k'.take j).filterMap (sel ps s)) := by
                    intro hm
                    unfold FoWd.keys at hm
                    rw [List.map_append] at hm
                    rcases List.mem_append.mp hm with hm | hm
                    · obtain ⟨pr, hpr, e1⟩ := List.mem_map.mp hm
                      have := of_decide_eq_true (List.mem_filter.mp hpr).2
                      rw [e1] at this
                      omega
                    · obtain ⟨pr, hpr, e1⟩ := List.mem_map.mp hm
                      obtain ⟨a2, ha2, e2⟩ := List.mem_filterMap.mp hpr
                      have e3 : a2 = wd := by
                        unfold sel at e2
                        split at e2
                        · split at e2
                          · cases e2
                          · cases e2
                            exact e1
                        · cases e2
                      subst e3
                      obtain ⟨j2, hj2, ej⟩ := List.mem_take_iff_getElem.mp ha2
                      obtain ⟨i3, i4⟩ := List.getElem?_eq_some_iff.mp ew
                      exact (List.pairwise_iff_getElem.mp nk') j2 j (by omega) i3 (by omega) (ej.trans i4.symm)
                  have nk : valV km (.inr (tx wd)) = none := by
                    rcases hM8.look (w := wd) with ⟨_, z⟩ | ⟨x, v, l1, _⟩
                    · exact z
                    · rw [look_none fresh] at l1; cases l1
                  rw [putK_new _ nk, Option.toList_some, ← List.append_assoc]
                  exact DL.snoc (hM8.nld rq_solidD (nld_upd hm8 id)) ⟨b, rfl, nld_upd hm8 id _ _ hb trivial⟩
                · rw [upd_ne n2]
                  exact b8 _ _ e2 n2
            · have e1 : decide (V.int (wd.length : Int) = .int (0 + (s : Int))) = false := decide_eq_false fun z => c1 (by have := V.int.inj z; omega)
              rw [e1]
              refine iteF ⟨km, _, rfl, hm8, ?_, b8⟩
              rw [tk2, show sel ps s wd = none by unfold sel; rw [if_neg c1]]
              simpa using hM8
          · rintro σ H8 ⟨km, o2, rfl, hm8, hM8, b8⟩
            rw [List.length_map, List.length_map, List.take_length, sel_slice hN pk hsort, ← below_next frise] at hM8
            exact ⟨km, _, _, _, _, rfl, hm8, hM8, fun b o e n => b8 _ _ (b7 _ _ e n) n⟩
      · rintro σ H4 ⟨km, o2, o3, o4, o6, rfl, hm, hM, b4⟩
        rw [below_all (fun p hp => by have := form_le N ps p hp; omega)] at hM
        refine ⟨_, rfl, Qr p2 H4 km np2H (fun b o e => b4 _ _ (hs1 _ _ e) (fun z => by rw [z, np2H] at e; cases e)) hm hM⟩
end

end Fo

/-! join, told of a frame that does not name the block; lengths of joined texts. -/
namespace FoJ2
open PySem PySem.Spec PyProof.Rows L2
theorem pe_joinK {X : Cx} {K' : PySem.W.Frag} {o e : Expr} {to te : TE} {apos pos : Pos} (hK : X.K = K') (ho : PE X o to) (he : PE X e te) (hs : starEach [e] X.env = [(false, eval e X.env)] := by rfl) (hbase : attributeBase o "join" X.env (eval o X.env) = eval o X.env := by rfl) (hline : (apos.endLine == pos.line) = true := by rfl) :
    PE X (.Call (.Attribute o "join" apos) [e] [] pos) (tM1 (fun x xs H Q => ∃ a p, ∃ ys : List Str, x = .str a ∧ xs = [.ref p] ∧ (SqL K' H p (ys.map V.str) ∨ SqT K' H p (ys.map V.str)) ∧
      (ys.map (·.length)).sum + ys.length * a.length ≤ 16777216 ∧ Q (.str (Txt.join a ys)) H) to te) := hK ▸ pe_join ho he hs hbase hline
theorem sum_le {B : Nat} : ∀ ys : List Str, (∀ y ∈ ys, y.length ≤ B) → (ys.map (·.length)).sum ≤ ys.length * B
  | [], _ => by simp
  | y :: ys, h => by
    have h1 := h y (List.mem_cons_self ..)
    have h2 := sum_le ys fun z hz => h z (List.mem_cons_of_mem _ hz)
    rw [List.map_cons, List.sum_cons, List.length_cons, Nat.succ_mul]
    omega
theorem joinL_len (S : List Nat) : ∀ ps : List (List Nat), (TL.joinL S ps).length ≤ (ps.map (·.length)).sum + ps.length * S.length
  | [] => by simp [TL.joinL]
  | [p] => by
    show p.length ≤ _
    simp
  | p :: q :: r => by
    have := joinL_len S (q :: r)
    show (p ++ (S ++ TL.joinL S (q :: r))).length ≤ _
    rw [List.length_append, List.length_append, List.map_cons, List.sum_cons, List.length_cons, Nat.succ_mul]
    omega
theorem join_len (y : Str) (ps : List Str) : (Txt.join y ps).length ≤ (ps.map (·.length)).sum + ps.length * y.length := by
  rw [TL.join_eq, TL.len_tl, TL.tl_join]
  have h := joinL_len (TL.tl y) (ps.map TL.tl)
  rw [List.map_map, List.length_map, ← TL.len_tl] at h
  have e : (ps.map ((fun x => x.length) ∘ TL.tl)) = ps.map (·.length) := List.map_congr_left fun x _ => (TL.len_tl x).symm
  rw [e] at h
  exact h
/-- a list that holds these texts -/
theorem strs_of {us : List V} {xs : List Str} {f : Nat → Str} (hl : us.length = xs.length) (hu : ∀ (j : Nat) (v : V), us[j]? = some v → v = .str (f j)) (hx : ∀ j, j < xs.length → xs[j]? = some (f j)) : us = xs.map V.str := by
  refine List.ext_getElem? fun i => ?_
  by_cases c : i < xs.length
  · have ev : us[i]? = some us[i] := List.getElem?_eq_getElem (by omega)
    rw [ev, hu i _ ev, List.getElem?_map, hx i c]
    rfl
  · rw [List.getElem?_eq_none (by omega), List.getElem?_eq_none (by rw [List.length_map]; omega)]
end FoJ2

set_option maxHeartbeats 4100000
namespace Fo
open PySem PySem.Spec PyProof.Rows L2
/-! ### the law's helpers -/
open FoWd
theorem BoxAt.same {H H' : Hp} {p : Addr} {n : Nat} (h : BoxAt H p n) (e : Same H H') : BoxAt H' p n :=
  let ⟨x, c, sd, a, r⟩ := h
  ⟨x, c, sd, e _ _ a, r⟩
theorem BoxAt.mono {H : Hp} {p : Addr} {n m : Nat} (h : BoxAt H p n) (e : n ≤ m) : BoxAt H p m :=
  let ⟨x, c, sd, a, h1, h2, h3, h4, h5⟩ := h
  ⟨x, c, sd, a, h1, h2, by omega, h4, h5⟩
theorem BoxAt.ne {H : Hp} {p t : Addr} {n : Nat} (h : BoxAt H p n) (e : H t = none) : t ≠ p := fun z => by
  obtain ⟨x, c, sd, a, _⟩ := h
  rw [z, a] at e
  cases e
theorem But.free {H H' : Hp} {b t : Addr} (h : But b H H') (nb : t ≠ b) (e : H' t = none) : H t = none := by
  cases q : H t with
  | none => rfl
  | some o =>
    rw [h t o q nb] at e
    cases e
theorem sz1000 {m : Int} (h0 : 0 ≤ m := by decide) (h : m < 1000000 := by decide) : FoM.Sz 4000 m := sz_of 1000000 (by omega) h (Nat.le_trans (by decide) (Nat.pow_le_pow_right (by decide) (show 20 ≤ 4000 by decide)))
/-- an if or an assignment whose ways go on alike -/
theorem gen_t {st u : TS} {D : Ends} {σ : L2.St} {H : Hp} (C : Hp → Prop) (h1 : ∀ D' : Ends, (∀ H', C H' → D'.nx σ H') → st D' σ H) (h2 : ∀ H', C H' → u D σ H') : tSeq st u D σ H := h1 { D with nx := u D } h2
theorem gen_s {te : TE} {g : TG} {u : TS} {D : Ends} {σ : L2.St} {H : Hp} (C : V → Hp → Prop) (h1 : ∀ Q' : VK, (∀ x H', C x H' → Q' x H') → te σ H Q') (h2 : ∀ x H', C x H' → g x σ H' (u D)) : tSeq (tAsg te g) u D σ H := h1 _ h2
def spHanded (K : PySem.W.Frag) : Sp := fun vs H Q _ => ∃ (a b : Addr) (r : Rat) (n : Nat), vs = [.ref a, .ref b] ∧ FrQ H a r ∧ FoQ.SzR 40 r ∧ BoxAt H b n ∧ n ≤ 90000 ∧ ∀ v H', NmV K H' v r → BoxAt H' b (n + 1) → But b H H' → Q v H'
/-- a list of fractions as a value that is compared -/
def tq (r : Rat) : PyData := .tuple [.int r.num, .int r.den]
theorem dp_q {K : PySem.W.Frag} {H : Hp} {a : Addr} {r : Rat} (h : FrQ H a r) : Dp K H (.ref a) (tq r) := .tup (SqT.of h) (.cons (.int _) (.cons (.int _) .nil))
theorem eqv2 (u d v e : Int) : PyData.eqv (.tuple [.int u, .int d]) (.tuple [.int v, .int e]) = (decide (u = v) && decide (d = e)) := by
  show ((u == v) && ((d == e) && true)) = _
  rw [Bool.and_true]
  by_cases h1 : u = v <;> by_cases h2 : d = e <;> simp [h1, h2]
theorem tq_eqv (x z : Rat) : PyData.eqv (tq x) (tq z) = decide (x = z) := by
  rw [← eq_bool]
  exact eqv2 _ _ _ _
def spNumber9 : Sp := fun vs H Q _ => ∃ (b : Addr) (n : Nat), vs = [.ref b, .int 9] ∧ BoxAt H b n ∧ n ≤ 90000 ∧ ∀ p H' r, H p = none → FrQ H' p r → Ov 2520 22680 r → BoxAt H' b (n + 3) → But b H H' → Q (.ref p) H'
theorem pick10 (g : Int) (k : Nat) (h : k < 6) (g0 : 0 ≤ g) (g1 : g < 10) : ∃ m q : Int, [V.int 1, V.int 1, V.int 2, V.int 3, V.int 5, V.int (1 + g)][k]? = some (.int m) ∧ 0 < m ∧ m ≤ 10 ∧ m * q = 2520 ∧ q.natAbs ≤ 2520 :=
  match k, h with
  | 0, _ => ⟨_, 2520, rfl, by decide, by decide, by decide, by decide⟩
  | 1, _ => ⟨_, 2520, rfl, by decide, by decide, by decide, by decide⟩
  | 2, _ => ⟨_, 1260, rfl, by decide, by decide, by decide, by decide⟩
  | 3, _ => ⟨_, 840, rfl, by decide, by decide, by decide, by decide⟩
  | 4, _ => ⟨_, 504, rfl, by decide, by decide, by decide, by decide⟩
  | 5, _ => by
    have : g = 0 ∨ g = 1 ∨ g = 2 ∨ g = 3 ∨ g = 4 ∨ g = 5 ∨ g = 6 ∨ g = 7 ∨ g = 8 ∨ g = 9 := by omega
    rcases this with rfl | rfl | rfl | rfl | rfl | rfl | rfl | rfl | rfl | rfl
    · exact ⟨_, 2520, rfl, by decide, by decide, by decide, by decide⟩
    · exact ⟨_, 1260, rfl, by decide, by decide, by decide, by decide⟩
    · exact ⟨_, 840, rfl, by decide, by decide, by decide, by decide⟩
    · exact ⟨_, 630, rfl, by decide, by decide, by decide, by decide⟩
    · exact ⟨_, 504, rfl, by decide, by decide, by decide, by decide⟩
    · exact ⟨_, 420, rfl, by decide, by decide, by decide, by decide⟩
    · exact ⟨_, 360, rfl, by decide, by decide, by decide, by decide⟩
    · exact ⟨_, 315, rfl, by decide, by decide, by decide, by decide⟩
    · exact ⟨_, 280, rfl, by decide, by decide, by decide, by decide⟩
    · exact ⟨_, 252, rfl, by decide, by decide, by decide, by decide⟩
theorem ov_div {u m q : Int} (hm : 0 < m) (hq : m * q = 2520) (lq : q.natAbs ≤ 2520) (hu : u.natAbs ≤ 9) : Ov 2520 22680 (Rat.divInt u m) := by
  refine ⟨u * q, ?_, ?_⟩
  · rw [Int.natAbs_mul]
    exact Nat.mul_le_mul hu lq
  · have m0 : (m : Rat) ≠ 0 := fun z => by
      have : m = 0 := by exact_mod_cast z
      omega
    have e : ((2520 : Nat) : Rat) = (m : Rat) * (q : Rat) := by
      rw [← Rat.intCast_mul, hq]
      rfl
    rw [e, Rat.divInt_eq_div, Rat.intCast_mul, ← Rat.mul_assoc, Rat.div_mul_cancel m0]
theorem Ov.sz40 {r : Rat} (h : Ov 2520 22680 r) : FoQ.SzR 40 r := h.sz (by decide) (by decide) (by decide)
def spRowL : Sp := fun vs H Q _ => ∃ (b : Addr) (n : Nat), vs = [.ref b, .int 6] ∧ BoxAt H b n ∧ n ≤ 90000 ∧ ∀ (w : Wd) H', w.length ≤ 6 → BoxAt H' b (n + 7) → But b H H' → Q (.str (tx w)) H'
theorem str_p : ("p" : Str) = tx [true] := rfl
theorem str_q : ("q" : Str) = tx [false] := rfl
theorem pq_at (k : Nat) (h : k < 2) : [V.str "p", V.str "q"][k]? = some (.str (tx [decide (k = 0)])) :=
  match k, h with
  | 0, _ => rfl
  | 1, _ => rfl
theorem joinL_nil : ∀ ps : List (List Nat), TL.joinL [] ps = ps.flatten
  | [] => rfl
  | [p] => by
    show p = _
    simp
  | p :: q :: r => by
    show p ++ ([] ++ TL.joinL [] (q :: r)) = _
    rw [joinL_nil (q :: r)]
    rfl
theorem join_tx (w : Wd) : Txt.join "" (w.map fun c => tx [c]) = tx w := by
  refine TL.ext_tl ?_
  rw [TL.join_eq, TL.tl_join, show TL.tl ("" : Str) = [] from rfl, joinL_nil, List.map_map, tl_tx]
  induction w with
  | nil => rfl
  | cons c w ih =>
    rw [List.map_cons, List.flatten_cons, ih]
    rfl
/-- a list of pairs as a value that is compared -/
def pd (p : Wd × Rat) : PyData := .tuple [.str (tx p.1), tq p.2]
theorem PrAt.dp {K : PySem.W.Frag} {H : Hp} {v : V} {p : Wd × Rat} (h : PrAt H v p) : Dp K H v (pd p) := by
  obtain ⟨q, t, rfl, e2, e3⟩ := h
  exact .tup (SqT.of e2) (.cons (.str _) (.cons (dp_q e3) .nil))
theorem dp_prs {K : PySem.W.Frag} {H : Hp} {us : List V} {ps : Ps} (h : Paired (PrAt H) us ps) : DpAll K H us (ps.map pd) := by
  induction h with
  | nil => exact .nil
  | cons r t ih => exact .cons r.dp ih
theorem tx_ok (w : Wd) : PyData.strOk (tx w) = true := by
  show (tx w).cps.all (· < 0x110000) = true
  rw [← Array.all_toList, List.all_eq_true]
  intro c hc
  obtain ⟨b, _, rfl⟩ := List.mem_map.mp (show c ∈ w.map lcode from hc)
  cases b <;> decide
theorem lay_list {k : Nat} : ∀ ds : List PyData, (∀ d ∈ ds, PyData.canLay0 d = true ∧ PyData.depth d ≤ k) → PyData.canLayAll0 ds = true ∧ PyData.depthAll ds ≤ k
  | [], _ => ⟨rfl, Nat.zero_le _⟩
  | d :: ds, h => by
    obtain ⟨h1, h2⟩ := h d List.mem_cons_self
    obtain ⟨g1, g2⟩ := lay_list ds fun x hx => h x (List.mem_cons_of_mem _ hx)
    refine ⟨?_, Nat.max_le.mpr ⟨h2, g2⟩⟩
    show (PyData.canLay0 d && PyData.canLayAll0 ds) = true
    rw [h1, g1]
    rfl
theorem shaped_list {k : Nat} {ds : List PyData} (h : ∀ d ∈ ds, PyData.canLay0 d = true ∧ PyData.depth d ≤ k) (hk : k ≤ 60) : SeqAt.shaped (.list ds) = true := by
  obtain ⟨h1, h2⟩ := lay_list ds h
  show (PyData.canLayAll0 ds && decide (PyData.depthAll ds + 1 ≤ 64)) = true
  rw [h1, decide_eq_true (by omega)]
  rfl
theorem pd_lay (p : Wd × Rat) : PyData.canLay0 (pd p) = true ∧ PyData.depth (pd p) ≤ 2 := by
  refine ⟨?_, Nat.le_refl 2⟩
  show (PyData.strOk (tx p.1) && (PyData.canLay0 (tq p.2) && true)) = true
  rw [tx_ok]
  rfl
theorem pds_shaped (ps : Ps) : SeqAt.shaped (.list (ps.map pd)) = true := shaped_list (k := 2) (fun d hd => by
  obtain ⟨p, _, rfl⟩ := List.mem_map.mp hd
  exact pd_lay p) (by decide)
theorem txs_shaped (ws : List Wd) : SeqAt.shaped (.list (ws.map fun w => PyData.str (tx w))) = true := shaped_list (k := 0) (fun d hd => by
  obtain ⟨p, _, rfl⟩ := List.mem_map.mp hd
  exact ⟨tx_ok p, Nat.le_refl 0⟩) (by decide)
theorem dp_txs {K : PySem.W.Frag} {H : Hp} : ∀ ws : List Wd, DpAll K H ((ws.map tx).map V.str) (ws.map fun w => PyData.str (tx w))
  | [] => .nil
  | w :: ws => .cons (.str _) (dp_txs ws)
theorem LP.cong {H H' : Hp} {b a : Addr} {n : Nat} {ps : Ps} (h : LP H a ps) (hB : BoxAt H b n) (hb : But b H H') (ab : a ≠ b) : LP H' a ps := by
  obtain ⟨vs, e, hp⟩ := h
  obtain ⟨_, _, _, eb, _⟩ := hB
  refine ⟨vs, hb _ _ e ab, Paired.mapP hp fun v p q => q.nld fun c o e1 fi => hb _ _ e1 fun z => ?_⟩
  rw [z, eb] at e1
  cases e1
  exact fi
def spTermsR : Sp := fun vs H Q _ => ∃ (b : Addr) (m n : Nat), vs = [.ref b, .int m, .int 6] ∧ BoxAt H b n ∧ n ≤ 80000 ∧ m ≤ 8 ∧ ∀ D H' ps, H D = none → D ≠ b → LP H' D ps → (FoWd.keys ps).Nodup → Le 6 ps → ps.length ≤ m → AllOv 2520 22680 ps → BoxAt H' b (n + 100) → But b H H' → Q (.ref D) H'
section
variable {P : Program} {w : World} {K : PySem.W.Frag} {mg : Str → Option Value} {base : Heap}
theorem ok_number (T : Tx K mg) : FnOk P w K mg base CX0 2 (He.ga K "_law_number") T.fd_number ["_law_box_here", "_law_most"] spNumber9 := by
  refine T.F_number.ok sc_number (fun vs H Q E h => ?_) (fun cdv A outer s H vs Q E hr h => ?_)
  · obtain ⟨b, n, rfl, _⟩ := h
    rfl
  · obtain ⟨b, n, rfl, hB, hn, q⟩ := h
    refine ⟨_, (pss_cons (ps_set (i := 2) sc_number.nd rfl (.inl rfl) (pe_op op_sub (pe_call (ok_take T) (hr.mono (by decide)) (by rfl) T.g_take T.F_take.kp T.b_take .nil pass0 (pa_cons (pv 0) (pa_cons (pe_op op_add (pe_op op_mulW pe_int (pv 1)) pe_int) pa_nil))) (pv 1)))
      (pss_one (ps_ret (pe_call (ok_fracQ T) (hr.mono (by decide)) (by rfl) T.g_frac T.F_frac.kp T.b_frac .nil pass0 (pa_cons (pv 2) (pa_cons (pe_ix ix_list (pe_lst (pa_cons pe_int (pa_cons pe_int (pa_cons pe_int (pa_cons pe_int (pa_cons pe_int (pa_cons (pe_op op_add pe_int (pe_call (ok_take T) (hr.mono (by decide)) (by rfl) T.g_take T.F_take.kp T.b_take .nil pass0 (pa_cons (pv 0) (pa_cons (pe_op op_add (pv 1) pe_int) pa_nil)))) pa_nil))))))) (pe_call (ok_take T) (hr.mono (by decide)) (by rfl) T.g_take T.F_take.kp T.b_take .nil pass0 (pa_cons (pv 0) (pa_cons pe_int pa_nil))) (fun _ _ => rfl)) pa_nil)))))), ?_⟩
    refine ⟨_, rfl, _, rfl, _, _, rfl, rfl, FoM.Sz.mulok (n := 20) (m := 20) (sz_of 1000000 (by decide) (by decide) (by decide)) (sz_of 1000000 (by omega) (by omega) (by decide)), _, _, rfl, rfl, ?_⟩
    refine ⟨b, _, n, rfl, hB, by omega, by omega, sz1000 (by omega) (by omega), fun g1 H1 g10 g11 hB1 b1 => ?_⟩
    refine ⟨_, rfl, _, _, rfl, rfl, ?_⟩
    refine ⟨_, rfl, _, rfl, _, rfl, _, _, rfl, rfl, ?_⟩
    refine ⟨b, _, n + 1, rfl, hB1, by omega, by omega, sz1000 (by omega) (by omega), fun g2 H2 g20 g21 hB2 b2 => ?_⟩
    refine ⟨_, _, rfl, rfl, (by show 6 ≤ sizeLine; rw [sizeLine_eq]; decide), fun t1 nt1 => ?_⟩
    have n1 := hB2.ne nt1
    refine ⟨_, rfl, b, 6, n + 2, rfl, hB2.same (Same.upd nt1), by omega, by decide, sz1000, fun g3 H3 g30 g31 hB3 b3 => ?_⟩
    have hL := b3 _ _ upd_same n1
    obtain ⟨k3, rfl⟩ := Int.eq_ofNat_of_zero_le g30
    obtain ⟨d, dq, ed, d0, d1, d2, d3⟩ := pick10 g2 k3 (by omega) g20 (by omega)
    refine ⟨t1, _, _, _, rfl, rfl, SqL.of hL, atI_nat ed, ?_⟩
    have zd : FoM.Sz 12 d := sz_of 1002 (by omega) (by omega) (by decide)
    have bb : But b H H3 := b1.trans (b2.trans ((But.of_same (Same.upd nt1)).trans b3))
    refine ⟨g1 - 9, d, rfl, by omega, zd.mono (by decide), fun p np => ?_⟩
    have npb := hB3.ne np
    exact q p _ _ (bb.free npb np) upd_same (ov_div d0 d2 d3 (by omega)) (hB3.same (Same.upd np)) (bb.trans (But.of_same (Same.upd np)))
theorem ok_handed (T : Tx K mg) : FnOk P w K mg base CX0 3 (He.ga K "_law_handed") T.fd_handed ["_law_x", "_law_box_here"] (spHanded K) := by
  refine T.F_handed.ok sc_handed (fun vs H Q E h => ?_) (fun cdv A outer s H vs Q E hr h => ?_)
  · obtain ⟨a, b, r, n, rfl, _⟩ := h
    rfl
  · obtain ⟨a, b, r, n, rfl, ha, zr, hB, hn, q⟩ := h
    obtain ⟨ds, vd, bd⟩ := bind_init1 T
    have hT := ha.at_ (K := K)
    refine ⟨_, (pss_one (ps_ret (pe_ifExp (PW.pt (pw_and (pt_cmpR op_eq (pe_ix ix_tup (pv 0) pe_int (fun _ _ => rfl)) pe_int (nomark _)) (pw_and1 (pt_cmpR op_gt (pe_call (ok_take T) (hr.mono (by decide)) (by rfl) T.g_take T.F_take.kp T.b_take .nil pass0 (pa_cons (pv 1) (pa_cons pe_int pa_nil))) pe_int (nomark _))))) (pe_ix ix_tup (pv 0) pe_int (fun _ _ => rfl)) (pe_make T.mk_R (ok_initQ T) (hr.mono (by decide)) (by rfl) T.c_Ratio (bind_init2 T) .nil pass0 (pa_cons (pe_ix ix_tup (pv 0) pe_int (fun _ _ => rfl)) (pa_cons (pe_ix ix_tup (pv 0) pe_int (fun _ _ => rfl)) pa_nil)))))), ?_⟩
    refine ⟨_, rfl, _, _, _, _, rfl, rfl, hT, rfl, rfl, ?_⟩
    have den1 : ∀ {b : Bool}, (decide (V.int (r.den : Int) = V.int 1)) = b → ((r.den : Int) = 1 ↔ b = true) := fun {b} e => by
      rw [← e]
      constructor
      · intro z
        exact decide_eq_true (by rw [z])
      · intro z
        exact V.int.inj (of_decide_eq_true z)
    have made : ∀ H2 n2, BoxAt H2 b n2 → n2 ≤ n + 1 → But b H H2 → FrQ H2 a r → ∀ p H3, Same H2 H3 → RtAt K H3 p r → Q (.ref p) H3 := fun H2 n2 hB2 hn2 b2 _ p H3 s3 hp => q _ _ hp.nm ((hB2.same s3).mono hn2) (b2.trans (But.of_same s3))
    refine ⟨_, rfl, ?_⟩
    cases e : decide (V.int (r.den : Int) = V.int 1) with
    | true =>
      have d1 := (den1 e).mpr rfl
      refine iteT ?_
      refine ⟨_, rfl, b, 3, n, rfl, hB, by omega, by decide, sz1000, fun g H1 g0 g1 hB1 b1 => ?_⟩
      have na : a ≠ b := fun z => by
        obtain ⟨_, _, _, h, _⟩ := hB
        have ha : H a = some (qt r) := ha
        rw [z, h] at ha
        cases ha
      have hT1 := (show FrQ H1 a r from b1 _ _ ha na).at_ (K := K)
      refine ⟨_, _, rfl, rfl, _, rfl, ite2 (fun c => ?_) (fun c => ?_)⟩
      · refine ⟨_, rfl, _, _, _, _, rfl, rfl, hT1, rfl, q _ _ (.inr ⟨r.num, rfl, ?_⟩) hB1 b1⟩
        exact (Rat.num_divInt_den r).symm.trans (by rw [d1]; exact FoQ.q_int _)
      · refine ⟨_, rfl, _, _, _, _, rfl, rfl, hT1, rfl, _, rfl, _, _, _, _, rfl, rfl, hT1, rfl, rq_make (FoQ.den_ne r) (zr.2.mono (by decide)) (Rat.num_divInt_den r) fun p H3 np s3 hp => ⟨rfl, made H1 (n + 1) hB1 (Nat.le_refl _) b1 (b1 _ _ ha na) p H3 s3 hp⟩⟩
    | false =>
      refine iteF ?_
      refine ⟨_, rfl, _, _, _, _, rfl, rfl, hT, rfl, _, rfl, _, _, _, _, rfl, rfl, hT, rfl, rq_make (FoQ.den_ne r) (zr.2.mono (by decide)) (Rat.num_divInt_den r) fun p H3 np s3 hp => ⟨rfl, made H n hB (Nat.le_succ _) (But.refl b H) ha p H3 s3 hp⟩⟩
theorem ok_row (T : Tx K mg) : FnOk P w K mg base CX0 2 (He.ga K "_law_row") T.fd_row ["_law_box_here", "_law_most"] spRowL := by
  refine T.F_row.ok sc_row (fun vs H Q E h => ?_) (fun cdv A outer s H vs Q E hr h => ?_)
  · obtain ⟨b, n, rfl, _⟩ := h
    rfl
  · obtain ⟨b, n, rfl, hB, hn, q⟩ := h
    refine ⟨_, (pss_one (ps_ret (pe_join pe_str (pe_lc (own := [("_law_k", 2)]) (g := gName 2) rfl sc_row.nd (pi_range1 (by rfl) T.z_range (pa_cons (pe_call (ok_take T) (hr.mono (by decide)) (by rfl) T.g_take T.F_take.kp T.b_take .nil pass0 (pa_cons (pv 0) (pa_cons (pe_op op_add (pv 1) pe_int) pa_nil))) pa_nil)) (blkOk_by (own := [("_law_k", 2)]) (N := ["_law_box_here", "_law_most", "_law_k"]) (sc := defScope s_row) (by decide +kernel)) (fun _ _ _ _ _ => (pg_name (i := 2) sc_row.nd rfl (.inl rfl))) (fun _ _ _ _ _ => pts_nil) (fun _ _ _ _ _ => (pe_ix (FoK.ix_listK (K' := K) rfl) (pe_lst (pa_cons pe_str (pa_cons pe_str pa_nil))) (pe_call (ok_take T) (hr.mono (by decide)) (by rfl) T.g_take T.F_take.kp T.b_take .nil pass0 (pa_cons (pv 0) (pa_cons pe_int pa_nil))) (fun _ _ => rfl))))))), ?_⟩
    refine ⟨⟨_, rfl⟩, ?_⟩
    refine ⟨_, rfl, _, rfl, _, _, rfl, rfl, ?_⟩
    refine ⟨b, _, n, rfl, hB, by omega, by omega, sz1000 (by omega) (by omega), fun g1 H1 g10 g11 hB1 b1 => ?_⟩
    refine ⟨_, rfl, by omega, by omega, fun D nD => ?_⟩
    have db := hB1.ne nD
    refine lc_range (fun i H' => But b H1 H' ∧ BoxAt H' b (n + 1 + i) ∧ ∃ w : Wd, w.length = i ∧ H' D = some (.lst ((w.map fun c => tx [c]).map V.str))) ⟨But.of_same (Same.upd nD), hB1.same (Same.upd nD), [], rfl, upd_same⟩ (fun i H2 hi h => ?_) (fun H2 h => ?_)
    · obtain ⟨b2, hB2, w, lw, e2⟩ := h
      refine ⟨rfl, (by show 2 ≤ sizeLine; rw [sizeLine_eq]; decide), fun t1 nt1 => ?_⟩
      have n1 := hB2.ne nt1
      refine ⟨_, rfl, b, 2, n + 1 + i, rfl, hB2.same (Same.upd nt1), by omega, by decide, sz1000, fun g3 H3 g30 g31 hB3 b3 => ?_⟩
      have hL := b3 _ _ upd_same n1
      obtain ⟨k3, rfl⟩ := Int.eq_ofNat_of_zero_le g30
      refine ⟨t1, _, _, _, rfl, rfl, SqL.of hL, atI_nat (pq_at k3 (by omega)), ?_⟩
      have e3 := b3 _ _ ((Same.upd nt1) _ _ e2) db
      refine ⟨_, e3, by rw [List.length_map, List.length_map, sizeLine_eq]; omega, fun c o e0 ne => ?_, ?_, w ++ [decide (k3 = 0)], by rw [List.length_append, lw]; rfl, ?_⟩
      · rw [upd_ne (ne_of_none e0 nD)]
        exact b3 _ _ ((Same.upd nt1) _ _ (b2 _ _ e0 ne)) ne
      · obtain ⟨x, c, sd, e, w⟩ := hB3
        exact ⟨x, c, sd, by rw [upd_ne (Ne.symm db)]; exact e, by omega⟩
      · rw [upd_same, List.map_append, List.map_append]
        rfl
    · obtain ⟨b2, hB2, w, lw, e2⟩ := h
      refine ⟨_, D, _, rfl, rfl, .inl (SqL.of e2), ?_, ?_⟩
      · have z := FoJ2.sum_le (B := 1) (w.map fun c => tx [c]) (fun y hy => by
          obtain ⟨c, _, rfl⟩ := List.mem_map.mp hy
          exact Nat.le_refl 1)
        rw [List.length_map] at z
        rw [List.length_map, show ("" : Str).length = 0 from rfl]
        omega
      · rw [join_tx]
        exact q w H2 (by omega) (hB2.mono (by omega)) (b1.trans b2)
end

end Fo

set_option maxHeartbeats 4100000
namespace FoRv
open PySem PySem.Spec PyProof.Rows L2
/-! ### text[::-1] -/
def revS (z : Str) : Str := ⟨z.cps.toList.reverse.toArray⟩
theorem idx_rev : ∀ n : Nat, n < 64 → Builtin.Str.strSliceIndices none none (-1) n = (List.range n).reverse := by decide +kernel
theorem pick_rev (l : List Nat) : ((List.range l.length).reverse.filterMap (fun i => (l.toArray)[i]?)) = l.reverse := by
  rw [List.filterMap_reverse]
  congr 1
  refine Eq.trans (FoV.fm_congr fun i _ => ?_) (FoV.all_items l)
  rw [List.getElem?_toArray]
def tRevS (te ts : TE) : TE := fun τ H Q => te τ H fun x H1 => ts τ H1 fun y H2 => y = .int (-1) ∧ ∃ z, x = .str z ∧ z.cps.size < 64 ∧ Q (.str (revS z)) H2
section
variable {X : Cx} {e st : Expr} {te ts : TE} {p2 pos : Pos}
theorem pe_revS (he : PE X e te) (hs : PE X st ts) : PE X (.Subscript e (.Slice none none (some st) p2) pos) (tRevS te ts) := by
  refine ⟨fun pz s τ H Q I h => ?_⟩
  refine Subscript_ (thn (he.run pz s τ H _ I h) fun v s1 ⟨x, H1, I1, r1, q1⟩ => ?_)
  refine wpAny_Slice ?_
  rw [evalPart_none, evalPart_some]
  refine wpAny_pure (wpAny_pure (thn (hs.run pz s1 τ H1 _ I1 q1) fun w s3 ⟨y, H3, I3, ry, ey, z, ex, hz, q⟩ => ?_))
  subst ey ex
  obtain ⟨t0, rfl⟩ := r1
  obtain ⟨t, rfl⟩ := ry
  have I4 : Inv X pz τ H3 { s3 with heap := s3.heap.push { cls := .type "slice", data := .fields #[Value.none, Value.none, .int (-1) t] } } := I3.kept (t' := s3.toks) fun b ob z => Heap.get?_push_of_some _ z
  have got : wpAny (model X.prog X.w) X.A (getItem (.str z t0) (.ref s3.heap.objs.size)) (EP X pz τ Q) X.xe { s3 with heap := s3.heap.push { cls := .type "slice", data := .fields #[Value.none, Value.none, .int (-1) t] } } := by
    refine wpAny_getItem_str_slice (l := none) (u := none) (st := some (-1, t)) ⟨_, Heap.get?_push_size _ rfl, rfl, rfl⟩ rfl ?_
    have e : (slicePicked z none none (some (-1, t))).filterMap (fun i => z.cps[i]?) = z.cps.toList.reverse := by
      have h := pick_rev z.cps.toList
      have h2 : slicePicked z none none (some (-1, t)) = (List.range z.cps.toList.length).reverse := by
        rw [Array.length_toList]
        exact idx_rev _ hz
      rw [h2, ← h]
    unfold sliceMade
    rw [if_neg (by simp), e]
    exact ⟨by show z.cps.toList.reverse.toArray.size ≤ _; rw [List.size_toArray, List.length_reverse, Array.length_toList, sizeLine_eq]; omega, .str _, H3, I4.tok _, ⟨_, rfl⟩, q⟩
  exact tail_any (ops := [.str z t0, .ref s3.heap.objs.size]) (typeIs_str _ _ _) F.slot_str_getitem.lookup got (by with_unfolding_all rfl)
end
end FoRv

set_option maxHeartbeats 4100000
namespace Fo
open PySem PySem.Spec PyProof.Rows L2
/-! ### rows with fractions -/
open FoWd
theorem Paired.snoc {α β : Type} {R : α → β → Prop} {l : List α} {m : List β} {a : α} {b : β} (h : Paired R l m) (q : R a b) : Paired R (l ++ [a]) (m ++ [b]) := by
  induction h with
  | nil => exact .cons q .nil
  | cons r t ih => exact .cons r ih
/-- pairs put together at D so far -/
def LPI (ps : Ps) (H1 : Hp) (D : Addr) (i : Nat) (H : Hp) : Prop := Same H1 H ∧ ∃ vs, H D = some (.lst vs) ∧ Paired (PrAt H) vs (ps.take i)
theorem LPI.start {ps : Ps} {H1 : Hp} {D : Addr} (nD : H1 D = none) : LPI ps H1 D 0 (upd H1 D (.lst [])) := ⟨Same.upd nD, [], upd_same, by rw [List.take_zero]; exact .nil⟩
theorem LPI.next {ps : Ps} {H1 H H4 : Hp} {D : Addr} {i : Nat} {v : V} {p : Wd × Rat} (h : LPI ps H1 D i H) (nD : H1 D = none) (s : Same H H4) (e : ps[i]? = some p) (q : PrAt H4 v p) (l : ps.length ≤ 10000) :
    ∃ acc, H4 D = some (.lst acc) ∧ acc.length < sizeLine ∧ LPI ps H1 D (i + 1) (upd H4 D (.lst (acc ++ [v]))) := by
  obtain ⟨s1, vs, e1, hp⟩ := h
  have e4 := s _ _ e1
  refine ⟨vs, e4, ?_, fun b o e0 => ?_, _, upd_same, ?_⟩
  · have := Paired.length hp
    rw [List.length_take] at this
    rw [sizeLine_eq]
    omega
  · rw [upd_ne (ne_of_none e0 nD)]
    exact s _ _ (s1 _ _ e0)
  · rw [List.take_add_one, e]
    exact Paired.snoc (Paired.mapP hp fun v p q => (q.nld (same_nld s)).nld (nld_upd e4 id)) (q.nld (nld_upd e4 id))
theorem LPI.done {ps : Ps} {H1 H : Hp} {D : Addr} (h : LPI ps H1 D ps.length H) : LP H D ps := by
  obtain ⟨s1, vs, e1, hp⟩ := h
  rw [List.take_length] at hp
  exact ⟨vs, e1, hp⟩
def spFormulaL (K : PySem.W.Frag) : Sp := fun vs H Q _ => ∃ (a : Addr) (ps : Ps) (N : Nat), vs = [.ref a] ∧ LP H a ps ∧ (FoWd.keys ps).Nodup ∧ Le N ps ∧ N ≤ 60 ∧ ps.length ≤ 200 ∧ Grow 1900 ps ∧
  ∀ p H', H p = none → Same H H' → FmN K H H' p (form N ps) → Q (.ref p) H'
def spIsL (K : PySem.W.Frag) : Sp := fun vs H Q _ => ∃ (a b : Addr) (kvs : List (Key × V)) (f : Ps), vs = [.ref a, .ref b] ∧ FmAt K H a f ∧ H b = some (.dK kvs) ∧ DL Rq H kvs f ∧ (FoWd.keys f).Nodup ∧ f.length ≤ 200 ∧
  ∀ H', Same H H' → Q (.bl true) H'
def spLP1 (F : Ps → Ps) (C : Ps → Prop) : Sp := fun vs H Q _ => ∃ (a : Addr) (ps : Ps), vs = [.ref a] ∧ LP H a ps ∧ ps.length ≤ 200 ∧ C ps ∧ ∀ p H', H p = none → Same H H' → LP H' p (F ps) → Q (.ref p) H'
def spLP2 (F : Ps → Ps → Ps) (C : Ps → Prop) : Sp := fun vs H Q _ => ∃ (a b : Addr) (ps qs : Ps), vs = [.ref a, .ref b] ∧ LP H a ps ∧ LP H b qs ∧ ps.length ≤ 50 ∧ qs.length ≤ 50 ∧ C ps ∧ C qs ∧ ∀ p H', H p = none → Same H H' → LP H' p (F ps qs) → Q (.ref p) H'
section
variable {P : Program} {w : World} {K : PySem.W.Frag} {mg : Str → Option Value} {base : Heap}
theorem ok_termsR (T : Tx K mg) : FnOk P w K mg base CX0 3 (He.ga K "_law_terms") T.fd_terms ["_law_box_here", "_law_most", "_law_size"] spTermsR := by
  refine T.F_terms.ok sc_terms (fun vs H Q E h => ?_) (fun cdv A outer s H vs Q E hr h => ?_)
  · obtain ⟨b, m, n, rfl, _⟩ := h
    rfl
  · obtain ⟨b, m, n, rfl, hB, hn, hm, q⟩ := h
    refine ⟨_, (pss_cons (ps_set (i := 3) sc_terms.nd rfl (.inl rfl) (pe_lst pa_nil))
      (pss_cons (ps_for PassesOwn.never rfl (pi_range1 (by rfl) T.z_range (pa_cons (pe_call (ok_take T) (hr.mono (by decide)) (by rfl) T.g_take T.F_take.kp T.b_take .nil pass0 (pa_cons (pv 0) (pa_cons (pe_op op_add (pv 1) pe_int) pa_nil))) pa_nil)) (pg_name (i := 4) sc_terms.nd rfl (.inl rfl)) (pss_cons (ps_set (i := 5) sc_terms.nd rfl (.inr rfl) (pe_call (ok_row T) (hr.mono (by decide)) (by rfl) T.g_row T.F_row.kp T.b_row .nil pass0 (pa_cons (pv 0) (pa_cons (pv 2) pa_nil))))
      (pss_one (ps_if (pt_cmpR (op_eqD hr.units) (pe_lc (own := [("_law_pair", 6)]) (g := gName 6) rfl sc_terms.nd (pi_list (pv 3)) (blkOk_by (own := [("_law_pair", 6)]) (N := ["_law_box_here", "_law_most", "_law_size", "_law_found", "_law_k", "_law_row_here", "_law_pair"]) (sc := defScope s_terms) (by decide +kernel)) (fun _ _ _ _ _ => (pg_name (i := 6) sc_terms.nd rfl (.inl rfl))) (fun _ _ _ _ _ => (pts_one (pt_cmpR op_eq (pe_ix (FoK.ix_tupK (K' := K) rfl) (pv 6) pe_int (fun _ _ => rfl)) (pv 5) (nomark _)))) (fun _ _ _ _ _ => (pv 6))) (pe_lst pa_nil) (nomark _)) (pss_one (ps_expr (pe_bm PySem.F.plainAttrs_list PySem.F.slot_list_append PySem.F.type_list_append mt_append (pv 3) (pa_cons (pe_tup (pa_cons (pv 5) (pa_cons (pe_call (ok_number T) (hr.mono (by decide)) (by rfl) T.g_number T.F_number.kp T.b_number .nil pass0 (pa_cons (pv 0) (pa_cons pe_int pa_nil))) pa_nil))) pa_nil)))) pss_nil))))
      (pss_one (ps_ret (pv 3))))), ?_⟩
    refine ⟨(by show 0 ≤ sizeLine; rw [sizeLine_eq]; decide), fun D nD => ?_⟩
    have db := hB.ne nD
    have hB0 := hB.same (Same.upd nD (o := .lst []))
    have e0 : upd H D (.lst []) D = some (.lst []) := upd_same
    have b0 : But b H (upd H D (.lst [])) := But.of_same (Same.upd nD)
    generalize upd H D (.lst []) = H0 at *
    refine ⟨_, rfl, _, rfl, _, _, rfl, rfl, b, _, n, rfl, hB0, by omega, by omega, sz1000 (by omega) (by omega), fun g1 H1 g10 g11 hB1 b1 => ?_⟩
    refine ⟨_, rfl, by omega, by omega, ?_⟩
    have e1 := b1 _ _ e0 db
    refine for_range (fun i σ H2 => But b H H2 ∧ BoxAt H2 b (n + 1 + 11 * i) ∧ (∃ vs ps, H2 D = some (.lst vs) ∧ Paired (PrAt H2) vs ps ∧ (FoWd.keys ps).Nodup ∧ Le 6 ps ∧ ps.length ≤ i ∧ AllOv 2520 22680 ps) ∧ ∃ o4 o5, σ = [some (.ref b), some (.int m), some (.int 6), some (.ref D), o4, o5, none])
      ⟨b0.trans b1, hB1, ⟨[], [], e1, .nil, List.nodup_nil, fun p hp => absurd hp (by simp), Nat.le_refl _, fun p hp => absurd hp (by simp)⟩, none, none, rfl⟩ ?_ ?_
    · rintro i σ H2 hi ⟨b2, hB2, ⟨vs, ps, e2, hP, hnd, hle, hlen, hov⟩, o4, o5, rfl⟩
      have hi8 : i ≤ 8 := by omega
      refine ⟨_, rfl, _, rfl, b, _, rfl, hB2, by omega, fun w H3 lw hB3 b3 => ?_⟩
      have e3 := b3 _ _ e2 db
      have n3 : NLD H2 H3 := fun c o e1 fi => by
        refine b3 _ _ e1 fun z => ?_
        obtain ⟨_, _, _, eb, _⟩ := hB2
        rw [z, eb] at e1
        cases e1
        exact fi
      have hP3 := Paired.mapP hP fun v p q => q.nld n3
      have lv := Paired.length hP
      refine ⟨_, rfl, D, rfl, ⟨_, SqL.of e3⟩, fun D2 nD2 => ?_⟩
      refine lc_list (fun j H' => Same H3 H' ∧ ∃ us qs, H' D2 = some (.lst us) ∧ Paired (PrAt H') us qs ∧ qs.length ≤ j ∧ (qs = [] → ∀ k p, k < j → ps[k]? = some p → p.1 ≠ w)) ⟨Same.upd nD2, [], [], upd_same, .nil, Nat.le_refl _, fun _ k p hk => absurd hk (Nat.not_lt_zero k)⟩ (fun j H' _ h => SqL.of (h.1 _ _ e3)) (fun j x H4 ex h => ?_) (fun H4 h => ?_)
      · obtain ⟨s4, us, qs, ed, hQ, hl, hz⟩ := h
        obtain ⟨p, ep, tq, r, rfl, hq, hr⟩ := paired_get hP3 ex
        have hq4 := s4 _ _ hq
        have hjl := (List.getElem?_eq_some_iff.mp ex).1
        refine ⟨rfl, _, rfl, tq, _, _, _, rfl, rfl, SqT.of hq4, rfl, _, rfl, rfl, _, rfl, ?_⟩
        by_cases c : p.1 = w
        · have eb : decide (V.str (tx p.1) = V.str (tx w)) = true := decide_eq_true (by rw [c])
          rw [eb]
          refine iteT ⟨_, rfl, us, ed, ?_, ?_⟩
          · have := Paired.length hQ
            rw [sizeLine_eq]
            omega
          · refine ⟨fun b2 o2 e0 => ?_, _, qs ++ [p], upd_same, Paired.snoc (Paired.mapP hQ fun v p q => q.nld (nld_upd ed id)) ⟨tq, r, rfl, nld_upd ed id _ _ hq4 trivial, nld_upd ed id _ _ (s4 _ _ hr) trivial⟩, by rw [List.length_append]; show _ + 1 ≤ _; omega, fun z => absurd z (by simp)⟩
            rw [upd_ne (ne_of_none e0 nD2)]
            exact s4 _ _ e0
        · have eb : decide (V.str (tx p.1) = V.str (tx w)) = false := decide_eq_false fun z => c (tx_inj (V.str.inj z))
          rw [eb]
          refine iteF ⟨s4, us, qs, ed, hQ, by omega, fun z k p2 hk e2 => ?_⟩
          by_cases ck : k = j
          · subst ck
            rw [ep] at e2
            cases e2
            exact c
          · exact hz z k p2 (by omega) e2
      · obtain ⟨s4, us, qs, ed, hQ, hl, hz⟩ := h
        refine ⟨(by show 0 ≤ sizeLine; rw [sizeLine_eq]; decide), fun x nx => ?_⟩
        have sx := Same.upd nx (o := .lst [])
        refine ⟨_, .list [], .lst (SqL.of (sx _ _ ed)) (dp_prs (Paired.mapP hQ fun v p q => q.nld (same_nld sx))), .lst (SqL.of upd_same) .nil, pds_shaped qs, rfl, _, rfl, ?_⟩
        have ek : PyData.eqv (.list (qs.map pd)) (.list []) = decide (qs = []) := by cases qs <;> rfl
        rw [ek]
        have s5 := s4.trans sx
        generalize upd H4 x (.lst []) = H5 at *
        have e5 := s5 _ _ e3
        have hB5 := hB3.same s5
        have b5 : But b H H5 := (b2.trans b3).trans (But.of_same s5)
        have hP5 := Paired.mapP hP3 fun v p q => q.nld (same_nld s5)
        by_cases hk : qs = []
        · rw [decide_eq_true hk]
          refine iteT ?_
          refine ⟨_, rfl, .inl ⟨rfl, _, SqL.of e5⟩, ?_⟩
          refine ⟨_, rfl, _, rfl, b, _, rfl, hB5, by omega, fun p6 H6 r np6 hp6 hov6 hB6 b6 => ?_⟩
          refine ⟨(by show 2 ≤ sizeLine; rw [sizeLine_eq]; decide), fun t7 nt7 => ?_⟩
          have s7 := Same.upd nt7 (o := .tup [V.str (tx w), V.ref p6])
          have t7e : upd H6 t7 (.tup [V.str (tx w), V.ref p6]) t7 = some (.tup [V.str (tx w), V.ref p6]) := upd_same
          have e7 := s7 _ _ (b6 _ _ e5 db)
          have n6 : NLD H5 H6 := fun c o e1 fi => by
            refine b6 _ _ e1 fun z => ?_
            obtain ⟨_, _, _, eb, _⟩ := hB5
            rw [z, eb] at e1
            cases e1
            exact fi
          have hP7 := Paired.mapP hP5 fun v p q => (q.nld n6).nld (same_nld s7)
          have hB7 := hB6.same s7
          have b7 : But b H (upd H6 t7 (.tup [V.str (tx w), V.ref p6])) := (b5.trans b6).trans (But.of_same s7)
          have hp7 := s7 _ _ hp6
          generalize upd H6 t7 (.tup [V.str (tx w), V.ref p6]) = H7 at *
          refine ⟨D, _, _, rfl, rfl, e7, by rw [sizeLine_eq]; omega, ?_⟩
          refine ⟨fun c o e0 ne => ?_, ?_, ⟨_, ps ++ [(w, r)], upd_same, ?_, ?_, ?_, ?_, ?_⟩, _, _, rfl⟩
          · rw [upd_ne (ne_of_none e0 nD)]
            exact b7 _ _ e0 ne
          · obtain ⟨x, c, sd, e, w⟩ := hB7.mono (m := n + 1 + 11 * (i + 1)) (by omega)
            exact ⟨x, c, sd, by rw [upd_ne (Ne.symm db)]; exact e, w⟩
          · exact Paired.snoc (Paired.mapP hP7 fun v p q => q.nld (nld_upd e7 id)) ⟨t7, p6, rfl, nld_upd e7 id _ _ t7e trivial, nld_upd e7 id _ _ hp7 trivial⟩
          · unfold FoWd.keys
            rw [List.map_append]
            refine List.nodup_append.mpr ⟨hnd, List.nodup_cons.mpr ⟨by simp, List.nodup_nil⟩, fun a ha c hc z => ?_⟩
            obtain rfl := List.mem_singleton.mp hc
            obtain ⟨p, hp, e1⟩ := List.mem_map.mp ha
            obtain ⟨k, hk1, hk2⟩ := List.mem_iff_getElem.mp hp
            exact hz hk k p (by omega) (by rw [List.getElem?_eq_getElem hk1, hk2]) (e1.trans z)
          · intro p hp
            rcases List.mem_append.mp hp with hp | hp
            · exact hle p hp
            · rw [List.mem_singleton.mp hp]
              exact lw
          · rw [List.length_append]
            show _ + 1 ≤ _
            omega
          · intro p hp
            rcases List.mem_append.mp hp with hp | hp
            · exact hov p hp
            · rw [List.mem_singleton.mp hp]
              exact hov6
        · rw [decide_eq_false hk]
          exact iteF ⟨b5, hB5.mono (by omega), ⟨vs, ps, e5, hP5, hnd, hle, by omega, hov⟩, _, _, rfl⟩
    · rintro σ H2 ⟨b2, hB2, ⟨vs, ps, e2, hP, hnd, hle, hlen, hov⟩, o4, o5, rfl⟩
      exact ⟨_, rfl, q D H2 ps nD db ⟨vs, e2, hP⟩ hnd hle (by omega) hov (hB2.mono (by omega)) b2⟩
theorem ok_formulaF (T : Tx K mg) : FnOk P w K mg base CX0 8 (He.ga K "_law_formula") T.fd_formula ["_law_pairs_here"] (spFormulaL K) := by
  refine T.F_formula.ok sc_formula (fun vs H Q E h => ?_) (fun cdv A outer s H vs Q E hr h => ?_)
  · obtain ⟨a, ps, N, rfl, _⟩ := h
    rfl
  · obtain ⟨a, ps, N, rfl, ⟨vs, ha, hP⟩, hnd, hN, n60, l200, hG, q⟩ := h
    refine ⟨_, (pss_cons (ps_set (i := 1) sc_formula.nd rfl (.inl rfl) pe_dnewK)
      (pss_cons (ps_for PassesOwn.never rfl (pi_list (pv 0)) (pg_tup (by rfl) (pgs_cons (pg_name (i := 2) sc_formula.nd rfl (.inl rfl)) (pgs_cons (pg_name (i := 3) sc_formula.nd rfl (.inl rfl)) pgs_nil))) (pss_one (ps_dput (Nat.lt_of_le_of_lt (Nat.add_le_add_left (by decide) _) hr.units) (pv 1) (pv 2) (pe_make T.mk_R (ok_initQ T) (hr.mono (by decide)) (by rfl) T.c_Ratio (bind_init2 T) .nil pass0 (pa_cons (pe_ix ix_tup (pv 3) pe_int (fun _ _ => rfl)) (pa_cons (pe_ix ix_tup (pv 3) pe_int (fun _ _ => rfl)) pa_nil))) rfl)))
      (pss_one (ps_ret (pe_make T.mk_F (ok_Finit T) (hr.mono (by decide)) (by rfl) T.c_Formula T.b_Formula_init .nil pass0 (pa_cons (pv 1) pa_nil)))))), ?_⟩
    have lv := Paired.length hP
    refine fun p np => ?_
    have s0 := Same.upd np (o := .dK [])
    have p0 : upd H p (.dK []) p = some (.dK []) := upd_same
    generalize upd H p (.dK []) = H1 at *
    refine ⟨_, rfl, a, rfl, ⟨_, SqL.of (s0 _ _ ha)⟩, ?_⟩
    refine for_list (xs := vs) (fun i σ H2 => ∃ kt o2 o3, σ = [some (.ref a), some (.ref p), o2, o3] ∧ H2 p = some (.dK kt) ∧ DL (Rr K) H2 kt (ps.take i) ∧ Same H H2)
      ⟨[], none, none, rfl, p0, by rw [List.take_zero]; exact .nil, s0⟩ (fun i σ H2 _ ⟨_, _, _, _, _, _, h⟩ => SqL.of (h _ _ ha)) ?_ ?_
    · rintro i v σ H3 ev ⟨kt, o2, o3, rfl, hp, hD, hs⟩
      obtain ⟨⟨qw, qx⟩, eq, tq, r, rfl, hq, hr⟩ := paired_get hP ev
      dsimp only at hq hr
      have zq := hG.1 _ (List.mem_of_getElem? eq)
      have hr3 : FrQ H3 r qx := hs _ _ hr
      have hr4 := hr3.at_ (K := K)
      refine ⟨tq, _, rfl, SqT.of (hs _ _ hq), rfl, _, _, rfl, _, _, rfl, rfl, _, rfl, r, _, _, _, rfl, rfl, hr4, rfl, _, rfl, r, _, _, _, rfl, rfl, hr4, rfl, ?_⟩
      refine rq_make (r := qx) (FoQ.den_ne _) (zq.2.mono (by decide)) (Rat.num_divInt_den _) fun p5 H5 np5 s5 h5 => ⟨rfl, ?_⟩
      have hp5 := s5 _ _ hp
      have fresh : qw ∉ FoWd.keys (ps.take i) := take_fresh hnd eq
      have hD5 := hD.nld rr_solidD (same_nld s5)
      have nk : valV kt (.inr (tx qw)) = none := by
        rcases hD5.look (w := qw) with ⟨_, z⟩ | ⟨x, v, l1, _⟩
        · exact z
        · rw [look_none fresh] at l1; cases l1
      refine ⟨_, rfl, _, rfl, p, _, rfl, .inl ⟨kt, .inr (tx qw), hp5, rfl, ?_, rfl⟩, _, _, _, rfl, upd_same, ?_, fun b o e => ?_⟩
      · have z := hD.len
        rw [List.length_take] at z
        rw [sizeLine_eq]
        omega
      · rw [putK_new _ nk, List.take_add_one, eq]
        exact DL.snoc (hD5.nld rr_solidD (nld_upd hp5 id)) ⟨p5, rfl, rtAt_nld h5 (nld_upd hp5 id)⟩
      · rw [upd_ne (fun z => by rw [z, np] at e; cases e)]
        exact s5 _ _ (hs b o e)
    · rintro σ H2 ⟨kt, o2, o3, rfl, hp, hD, hs⟩
      rw [lv, List.take_length] at hD
      refine ⟨_, rfl, fm_make hp (Paired.mapP hD fun kv q ⟨e1, b, e2, e3⟩ => ⟨e1, .inl ⟨b, e2, e3⟩⟩) hnd hN n60 l200 hG fun p9 H9 np9 s9 hF => ⟨rfl, q p9 H9 (hs.free np9) (hs.trans s9) (hF.back hs)⟩⟩
theorem ok_isL (T : Tx K mg) : FnOk P w K mg base CX0 3 (He.ga K "_law_is") T.fd_is ["_law_formula_here", "_law_form_here"] (spIsL K) := by
  refine T.F_is.ok sc_is (fun vs H Q E h => ?_) (fun cdv A outer s H vs Q E hr h => ?_)
  · obtain ⟨a, b, kvs, f, rfl, _⟩ := h
    rfl
  · obtain ⟨a, b, kvs, f, rfl, hF, hb, hL, hnd, l200, q⟩ := h
    refine ⟨_, (pss_cons (ps_set (i := 2) sc_is.nd rfl (.inr rfl) (pe_meth0 (pv 0) T.cl_F T.mF_terms (ok_Fterms T) (hr.mono (by decide)) T.b_Formula_terms .nil pass0))
      (pss_cons (ps_if (pt_cmpR (op_neD hr.units) (pe_callTy (call_list_dK (by rfl)) (by rfl) T.z_list (by decide +kernel) (pa_cons (pv 2) pa_nil)) (pe_callTy (call_list_dK (by rfl)) (by rfl) T.z_list (by decide +kernel) (pa_cons (pv 1) pa_nil)) (nomark _)) (pss_one (ps_ret pe_bl)) pss_nil)
      (pss_one (ps_ret (pe_cmpR (op_eqD hr.units) (pe_lc (own := [("_law_row_here", 3)]) (g := gName 3) rfl sc_is.nd (pi_list (pe_callTy (call_list_dK (by rfl)) (by rfl) T.z_list (by decide +kernel) (pa_cons (pv 1) pa_nil))) (blkOk_by (own := [("_law_row_here", 3)]) (N := ["_law_formula_here", "_law_form_here", "_law_told_here", "_law_row_here"]) (sc := defScope s_is) (by decide +kernel)) (fun _ _ _ _ _ => (pg_name (i := 3) sc_is.nd rfl (.inl rfl))) (fun _ _ _ _ _ => (pts_one (pt_cmpR (FoK.op_neDK (K' := K) rfl hr.units) (pe_tup (pa_cons (pe_prop (pe_dget (Nat.lt_of_le_of_lt (Nat.add_le_add_left (by decide) _) hr.units) (pv 2) (pv 3) (fun _ _ => rfl)) T.cl_R T.p_top (ok_topQ T) (hr.mono (by decide)) T.b_Ratio_top .nil pass0 (by rfl)) (pa_cons (pe_prop (pe_dget (Nat.lt_of_le_of_lt (Nat.add_le_add_left (by decide) _) hr.units) (pv 2) (pv 3) (fun _ _ => rfl)) T.cl_R T.p_bottom (ok_bottomQ T) (hr.mono (by decide)) T.b_Ratio_bottom .nil pass0 (by rfl)) pa_nil))) (pe_dget (Nat.lt_of_le_of_lt (Nat.add_le_add_left (by decide) _) hr.units) (pv 1) (pv 3) (fun _ _ => rfl)) (nomark _)))) (fun _ _ _ _ _ => (pv 3))) (pe_lst pa_nil) (nomark _)))))), ?_⟩
    obtain ⟨dx, d, kd, e1, e2, e3⟩ := id hF
    refine ⟨_, rfl, a, dx, _, rfl, e1, rfl, a, f, rfl, hF, fun p H1 kt np s1 hp hT => ?_⟩
    have hb1 := s1 _ _ hb
    have hL1 := hL.nld rq_solidD (same_nld s1)
    have kE : ∀ {R : Rat → Hp → V → Prop} {H : Hp} {kv : List (Key × V)}, DL R H kv f → (kv.map fun kv => kV kv.1) = ((FoWd.keys f).map tx).map V.str := fun {R H kv} h => by
      have z := h.keys
      have z2 : (kv.map fun kv => kV kv.1) = (kv.map (·.1)).map kV := by rw [List.map_map]; rfl
      rw [z2, z, List.map_map, List.map_map]
      rfl
    refine ⟨_, rfl, p, kt, rfl, hp, fun q1 nq1 => ?_⟩
    rw [kE hT]
    have s2 := Same.upd nq1 (o := .lst (((FoWd.keys f).map tx).map V.str))
    have g2 : upd H1 q1 (.lst (((FoWd.keys f).map tx).map V.str)) q1 = some (.lst (((FoWd.keys f).map tx).map V.str)) := upd_same
    generalize upd H1 q1 (.lst (((FoWd.keys f).map tx).map V.str)) = H2 at *
    refine ⟨_, rfl, b, kvs, rfl, s2 _ _ hb1, fun q2 nq2 => ?_⟩
    rw [kE hL]
    have s3 := Same.upd nq2 (o := .lst (((FoWd.keys f).map tx).map V.str))
    have g3 : upd H2 q2 (.lst (((FoWd.keys f).map tx).map V.str)) q2 = some (.lst (((FoWd.keys f).map tx).map V.str)) := upd_same
    refine ⟨_, _, .lst (SqL.of (s3 _ _ g2)) (dp_txs _), .lst (SqL.of g3) (dp_txs _), txs_shaped _, txs_shaped _, _, rfl, ?_⟩
    rw [SeqAt.eqv_refl _ (SeqAt.canLay_of_shaped (txs_shaped _))]
    refine iteF ?_
    have s23 := s2.trans s3
    generalize upd H2 q2 (.lst (((FoWd.keys f).map tx).map V.str)) = H3 at *
    have hb3 := s23 _ _ hb1
    have hp3 := s23 _ _ hp
    have hL3 := hL1.nld rq_solidD (same_nld s23)
    have hT3 := hT.nld rr_solidD (same_nld s23)
    refine ⟨_, rfl, b, kvs, rfl, hb3, fun q4 nq4 => ?_⟩
    rw [kE hL]
    have s4 := Same.upd nq4 (o := .lst (((FoWd.keys f).map tx).map V.str))
    have g4 : upd H3 q4 (.lst (((FoWd.keys f).map tx).map V.str)) q4 = some (.lst (((FoWd.keys f).map tx).map V.str)) := upd_same
    generalize upd H3 q4 (.lst (((FoWd.keys f).map tx).map V.str)) = H4 at *
    refine ⟨q4, rfl, ⟨_, SqL.of g4⟩, fun D nD => ?_⟩
    refine lc_list (fun i H' => Same H4 H' ∧ H' D = some (.lst [])) ⟨Same.upd nD, upd_same⟩ (fun i H' _ h => SqL.of (h.1 _ _ g4)) (fun i x H5 ex h => ?_) (fun H5 h => ?_)
    · obtain ⟨s5, hD5⟩ := h
      rw [List.getElem?_map, List.getElem?_map] at ex
      obtain ⟨wd, ew⟩ : ∃ wd, (FoWd.keys f)[i]? = some wd := by
        cases e : (FoWd.keys f)[i]? with
        | none => rw [e] at ex; cases ex
        | some z => exact ⟨z, rfl⟩
      rw [ew] at ex
      cases ex
      have s45 := s4.trans s5
      have mw : wd ∈ FoWd.keys f := List.mem_of_getElem? ew
      obtain ⟨x, lx⟩ := look_some mw
      obtain ⟨r, l2, hr⟩ : ∃ r, valV kt (.inr (tx wd)) = some (.ref r) ∧ RtAt K H5 r x := by
        rcases (hT3.nld rr_solidD (same_nld s45)).look (w := wd) with ⟨l1, _⟩ | ⟨x', v, l1, l2, r, rfl, hr⟩
        · rw [lx] at l1; cases l1
        · rw [lx] at l1; cases l1; exact ⟨r, l2, hr⟩
      obtain ⟨tq2, l3, ht⟩ : ∃ r, valV kvs (.inr (tx wd)) = some (.ref r) ∧ FrQ H5 r x := by
        rcases (hL3.nld rq_solidD (same_nld s45)).look (w := wd) with ⟨l1, _⟩ | ⟨x', v, l1, l2, r, rfl, hr⟩
        · rw [lx] at l1; cases l1
        · rw [lx] at l1; cases l1; exact ⟨r, l2, hr⟩
      obtain ⟨dr, er⟩ := id hr
      have gd1 : DGet H5 p (.str (tx wd)) (some (.ref r)) := .inl ⟨kt, .inr (tx wd), .inl (s45 _ _ hp3), rfl, l2.symm⟩
      refine ⟨rfl, _, rfl, _, rfl, p, .ref r, rfl, gd1, r, dr, _, rfl, er, r, x, rfl, hr, _, rfl, _, rfl, p, .ref r, rfl, gd1, r, dr, _, rfl, er, r, x, rfl, hr, ?_⟩
      refine ⟨(by show 2 ≤ sizeLine; rw [sizeLine_eq]; decide), fun t6 nt6 => ?_⟩
      have s6 := Same.upd nt6 (o := qt x)
      have ht6 : FrQ (upd H5 t6 (qt x)) t6 x := upd_same
      have ht7 : FrQ (upd H5 t6 (qt x)) tq2 x := s6 _ _ ht
      have gd2 : DGet (upd H5 t6 (qt x)) b (.str (tx wd)) (some (.ref tq2)) := .inl ⟨kvs, .inr (tx wd), .inl (s6 _ _ (s45 _ _ hb3)), rfl, l3.symm⟩
      refine ⟨_, rfl, _, rfl, b, .ref tq2, rfl, gd2, ?_⟩
      refine ⟨_, _, dp_q ht6, dp_q ht7, rfl, rfl, _, rfl, ?_⟩
      rw [tq_eqv, decide_eq_true rfl]
      exact iteF ⟨s5.trans s6, s6 _ _ hD5⟩
    · obtain ⟨s5, hD5⟩ := h
      refine ⟨(by show 0 ≤ sizeLine; rw [sizeLine_eq]; decide), fun x nx => ?_⟩
      have sx := Same.upd nx (o := .lst [])
      refine ⟨_, .list [], .lst (SqL.of (sx _ _ hD5)) .nil, .lst (SqL.of upd_same) .nil, rfl, rfl, ?_⟩
      exact q _ (s1.trans (s23.trans (s4.trans (s5.trans sx))))
end

end Fo

set_option maxHeartbeats 4100000
namespace Fo
open PySem PySem.Spec PyProof.Rows L2
/-! ### the mirror -/
open FoWd
theorem keys_turn {f : Ps} (h : (FoWd.keys f).Nodup) : (FoWd.keys (turn f)).Nodup := by
  have e : FoWd.keys (turn f) = (FoWd.keys f).map List.reverse := by
    unfold FoWd.keys turn
    rw [List.map_map, List.map_map]
    rfl
  rw [e]
  exact List.Pairwise.map _ (fun a b hab z => hab (List.reverse_inj.mp z)) h
theorem turn_at {f : Ps} {i : Nat} {q : Wd × Rat} (h : f[i]? = some q) : (turn f)[i]? = some (q.1.reverse, q.2) := by
  unfold turn
  rw [List.getElem?_map, h]
  rfl
theorem le_turn {N : Nat} {f : Ps} (h : Le N f) : Le N (turn f) := fun p hp => by
  obtain ⟨q, hq, rfl⟩ := List.mem_map.mp hp
  show q.1.reverse.length ≤ N
  rw [List.length_reverse]
  exact h q hq
section
variable {P : Program} {w : World} {K : PySem.W.Frag} {mg : Str → Option Value} {base : Heap}
theorem ok_Fmirror (T : Tx K mg) : FnOk P w K mg base CX0 8 (He.ma K (He.ga K "Formula") "mirror") T.fd_Formula_mirror ["self"] (spFNew K turn) := by
  refine T.F_Formula_mirror.ok sc_Formula_mirror (fun vs H Q E h => ?_) (fun cdv A outer s H vs Q E hr h => ?_)
  · obtain ⟨a, f, N, rfl, _⟩ := h
    rfl
  · obtain ⟨a, f, N, rfl, ⟨dx, d, kvs, e1, ha, hL⟩, hnd, hN, n60, l200, hz, hG, Qr⟩ := h
    refine ⟨_, (pss_one (ps_ret (pe_make T.mk_F (ok_Finit T) (hr.mono (by decide)) (by rfl) T.c_Formula T.b_Formula_init .nil pass0 (pa_cons (pe_lock (pe_dc (own := [("row", 1), ("number", 2)])  rfl sc_Formula_mirror.nd (pi_items (pe_fld (pv 0) rfl)) (blkOk_by (own := [("row", 1), ("number", 2)]) (N := ["self", "row", "number"]) (sc := defScope s_Formula_mirror) (by decide +kernel)) (fun _ _ _ _ _ => (FoK.pg_tupK (K' := K) (n := 2) rfl (by rfl) (pgs_cons (pg_name (i := 1) sc_Formula_mirror.nd rfl (.inl rfl)) (pgs_cons (pg_name (i := 2) sc_Formula_mirror.nd rfl (.inl rfl)) pgs_nil)))) (fun _ _ _ _ _ => pts_nil) (fun _ _ _ _ _ => (FoRv.pe_revS (pv 1) (pe_un un_neg pe_int))) (fun _ _ _ _ _ => (pv 2)))) pa_nil)))), ?_⟩
    have lk : kvs.length = f.length := hL.len
    have ad : a ≠ d := fun z => by rw [z, ha] at e1; cases e1
    refine ⟨d, .dK kvs, ha, trivial, fun od2 => ?_⟩
    have s4 : NLD H (upd H d (.frz od2 (.dK kvs))) := nld_upd ha id
    have f4 : upd H d (.frz od2 (.dK kvs)) d = some (.frz od2 (.dK kvs)) := upd_same
    have a4 : upd H d (.frz od2 (.dK kvs)) a = some (.ins (FmC K) dx (putF "_terms" (.ref d) [])) := by rw [upd_ne ad]; exact e1
    have back : ∀ H5, Same (upd H d (.frz od2 (.dK kvs))) H5 → Same H (upd H5 d (.dK kvs)) := fun H5 s5 b o e => by
      by_cases z : b = d
      · rw [z, ha] at e
        cases e
        rw [z]
        exact upd_same
      · rw [upd_ne z]
        exact s5 _ _ (by rw [upd_ne z]; exact e)
    have hL4 := hL.nld rr_solidD s4
    generalize upd H d (.frz od2 (.dK kvs)) = H4 at *
    refine ⟨_, rfl, a, _, dx, _, _, rfl, a4, T.cl_F, T.nT_F, rfl, d, od2, kvs, rfl, f4, fun D nD => ?_⟩
    refine FoDc.dc_it walk_items (fun i H' => ∃ kv', H' D = some (.dK kv') ∧ DL (Rr K) H' kv' ((turn f).take i) ∧ Same H4 H') ⟨[], upd_same, .nil, Same.upd nD⟩ (fun i H' _ ⟨_, _, _, s9⟩ => s9 _ _ f4) (fun i v H5 H6 hi h y => ?_) (fun H5 h => ?_)
    · obtain ⟨kv', hD5, hL5, s5⟩ := h
      obtain ⟨tp, k1, v1, rfl, ntp, rfl, ek, ev⟩ := y
      obtain ⟨⟨k0, v0⟩, e0⟩ : ∃ q, kvs[i]? = some q := ⟨_, List.getElem?_eq_getElem hi⟩
      dsimp only at ek ev
      rw [e0] at ek ev
      obtain ⟨q, eq, hk, hv⟩ := hL4.at_ e0
      obtain ⟨qw, qx⟩ := q
      have ek2 : V.str (tx qw) = k1 := by
        have z := Option.some.inj ek
        rw [hk] at z
        exact z
      have ev2 : v0 = v1 := Option.some.inj ev
      subst ek2 ev2
      dsimp only at hv
      have s6 := Same.upd ntp (o := .tup [V.str (tx qw), v0])
      have t6 : upd H5 tp (.tup [V.str (tx qw), v0]) tp = some (.tup [V.str (tx qw), v0]) := upd_same
      have hD6 := s6 _ _ hD5
      have hL6 := hL5.nld rr_solidD (same_nld s6)
      obtain ⟨b0, rfl, hv6⟩ : Rr K qx (upd H5 tp (.tup [V.str (tx qw), v0])) v0 := rr_solidD _ (same_nld (s5.trans s6)) hv
      have s56 := s5.trans s6
      generalize upd H5 tp (.tup [V.str (tx qw), V.ref b0]) = H6 at *
      have eqs := turn_at eq
      have fresh : qw.reverse ∉ FoWd.keys ((turn f).take i) := take_fresh (keys_turn hnd) eqs
      have nk : valV kv' (.inr (tx qw.reverse)) = none := by
        rcases hL6.look (w := qw.reverse) with ⟨_, z⟩ | ⟨x, v, l1, _⟩
        · exact z
        · rw [look_none fresh] at l1; cases l1
      have lw : qw.length ≤ 60 := Nat.le_trans (hN _ (List.mem_of_getElem? eq)) n60
      have rv : FoRv.revS (tx qw) = tx qw.reverse := by
        refine TL.ext_tl ?_
        show ((qw.map lcode).reverse : List Nat) = qw.reverse.map lcode
        rw [List.map_reverse]
      refine ⟨tp, _, rfl, SqT.of t6, rfl, _, _, rfl, _, _, rfl, rfl, rfl, ?_⟩
      refine ⟨_, rfl, 1, rfl, rfl, tx qw, rfl, by rw [tx_size]; omega, ?_⟩
      rw [rv]
      refine ⟨_, rfl, kv', .inr (tx qw.reverse), rfl, hD6, ?_, _, upd_same, ?_, fun b2 o2 e2 => ?_⟩
      · have z := hL6.len
        have z2 : (turn f).length = f.length := List.length_map _
        rw [List.length_take, z2] at z
        rw [sizeLine_eq]
        omega
      · rw [putK_new _ nk, List.take_add_one, eqs]
        exact DL.snoc (hL6.nld rr_solidD (nld_upd hD6 id)) ⟨b0, rfl, rtAt_nld hv6 (nld_upd hD6 id)⟩
      · rw [upd_ne (ne_of_none e2 nD)]
        exact s56 _ _ e2
    · obtain ⟨kv', hD5, hL5, s5⟩ := h
      have z2 : (turn f).length = f.length := List.length_map _
      rw [lk, ← z2, List.take_length] at hL5
      refine ⟨s5 _ _ f4, ?_⟩
      have Da : D ≠ d := fun z => by rw [z, f4] at nD; cases nD
      have s8 := back H5 s5
      have hD8 : upd H5 d (.dK kvs) D = some (.dK kv') := by rw [upd_ne Da]; exact hD5
      have hL8 : DL (Rr K) (upd H5 d (.dK kvs)) kv' (turn f) := hL5.nld rr_solidD (nld_upd (s5 _ _ f4) id)
      generalize upd H5 d (.dK kvs) = H8 at *
      refine fm_make hD8 (Paired.mapP hL8 fun kv q ⟨e1, b, e2, e3⟩ => ⟨e1, .inl ⟨b, e2, e3⟩⟩) (keys_turn hnd) (le_turn hN) n60 (by rw [z2]; exact l200) hG fun p H9 np s9 hF => ⟨rfl, ?_⟩
      exact Qr p H9 (s8.free np) (s8.trans s9) (hF.back s8)
end

end Fo

set_option maxHeartbeats 4100000
namespace Fo
open PySem PySem.Spec PyProof.Rows L2
/-! ### times a number -/
open FoWd
def spFTimes (K : PySem.W.Frag) : Sp := fun vs H Q _ => ∃ (a : Addr) (y : V) (c : Rat) (f : Ps) (N : Nat), vs = [.ref a, y] ∧ FmAt K H a f ∧ NmV K H y c ∧ FoQ.SzR 1900 c ∧ (FoWd.keys f).Nodup ∧ Le N f ∧ N ≤ 60 ∧ f.length ≤ 200 ∧ (∀ p ∈ f, FoQ.SzR 1900 p.2) ∧ Grow 1900 (scl c f) ∧
  ∀ p H', H p = none → Same H H' → FmN K H H' p (form N (scl c f)) → Q (.ref p) H'
section
variable {P : Program} {w : World} {K : PySem.W.Frag} {mg : Str → Option Value} {base : Heap}
theorem ok_Ftimes (T : Tx K mg) : FnOk P w K mg base CX0 8 (He.ma K (He.ga K "Formula") "times") T.fd_Formula_times ["self", "number"] (spFTimes K) := by
  refine T.F_Formula_times.ok sc_Formula_times (fun vs H Q E h => ?_) (fun cdv A outer s H vs Q E hr h => ?_)
  · obtain ⟨a, y, c, f, N, rfl, _⟩ := h
    rfl
  · obtain ⟨a, y, c, f, N, rfl, hF, hy, zc, hnd, hN, n60, l200, hz, hG, Qr⟩ := h
    refine ⟨_, (pss_cons (ps_set (i := 2) sc_Formula_times.nd rfl (.inr rfl) (pe_call (ok_asQ T) (hr.mono (by decide)) (by rfl) T.g_as_ratio T.F_as_ratio.kp T.b_as_ratio .nil pass0 (pa_cons (pv 1) pa_nil)))
      (pss_one (ps_ret (pe_make T.mk_F (ok_Finit T) (hr.mono (by decide)) (by rfl) T.c_Formula T.b_Formula_init .nil pass0 (pa_cons (pe_lock (pe_dc (own := [("row", 3), ("worth", 4)])  rfl sc_Formula_times.nd (pi_items (pe_fld (pv 0) rfl)) (blkOk_by (own := [("row", 3), ("worth", 4)]) (N := ["self", "number", "factor", "row", "worth"]) (sc := defScope s_Formula_times) (by decide +kernel)) (fun _ _ _ _ _ => (FoK.pg_tupK (K' := K) (n := 2) rfl (by rfl) (pgs_cons (pg_name (i := 3) sc_Formula_times.nd rfl (.inl rfl)) (pgs_cons (pg_name (i := 4) sc_Formula_times.nd rfl (.inl rfl)) pgs_nil)))) (fun _ _ _ _ _ => pts_nil) (fun _ _ _ _ _ => (pv 3)) (fun _ _ _ _ _ => (pe_op (FoA.op_own (ok_mulQ T) (hr.mono (by decide)) T.b_Ratio_mul pass0 T.bi_mul FoN.int_mul FoN.int_mulR) (pv 4) (pv 2))))) pa_nil))))), ?_⟩
    refine ⟨_, rfl, y, c, rfl, hy, fun bc H0 s0 hc => ?_⟩
    obtain ⟨dx, d, kvs, e1, ha, hL⟩ := hF.same s0
    have Qr := fun p H' (n : H0 p = none) (s : Same H0 H') (h : FmN K H0 H' p (form N (scl c f))) => Qr p H' (s0.free n) (s0.trans s) (h.back s0)
    clear s0
    have lk : kvs.length = f.length := hL.len
    have ad : a ≠ d := fun z => by rw [z, ha] at e1; cases e1
    refine ⟨d, .dK kvs, ha, trivial, fun od2 => ?_⟩
    have s4 : NLD H0 (upd H0 d (.frz od2 (.dK kvs))) := nld_upd ha id
    have f4 : upd H0 d (.frz od2 (.dK kvs)) d = some (.frz od2 (.dK kvs)) := upd_same
    have a4 : upd H0 d (.frz od2 (.dK kvs)) a = some (.ins (FmC K) dx (putF "_terms" (.ref d) [])) := by rw [upd_ne ad]; exact e1
    have back : ∀ H5, Same (upd H0 d (.frz od2 (.dK kvs))) H5 → Same H0 (upd H5 d (.dK kvs)) := fun H5 s5 b o e => by
      by_cases z : b = d
      · rw [z, ha] at e
        cases e
        rw [z]
        exact upd_same
      · rw [upd_ne z]
        exact s5 _ _ (by rw [upd_ne z]; exact e)
    have hL4 := hL.nld rr_solidD s4
    have hc4 := rtAt_nld hc s4
    generalize upd H0 d (.frz od2 (.dK kvs)) = H4 at *
    refine ⟨_, rfl, a, _, dx, _, _, rfl, a4, T.cl_F, T.nT_F, rfl, d, od2, kvs, rfl, f4, fun D nD => ?_⟩
    refine FoDc.dc_it walk_items (fun i H' => ∃ kv', H' D = some (.dK kv') ∧ DL (Rr K) H' kv' ((scl c f).take i) ∧ Same H4 H') ⟨[], upd_same, .nil, Same.upd nD⟩ (fun i H' _ ⟨_, _, _, s9⟩ => s9 _ _ f4) (fun i v H5 H6 hi h y => ?_) (fun H5 h => ?_)
    · obtain ⟨kv', hD5, hL5, s5⟩ := h
      obtain ⟨tp, k1, v1, rfl, ntp, rfl, ek, ev⟩ := y
      obtain ⟨⟨k0, v0⟩, e0⟩ : ∃ q, kvs[i]? = some q := ⟨_, List.getElem?_eq_getElem hi⟩
      dsimp only at ek ev
      rw [e0] at ek ev
      obtain ⟨q, eq, hk, hv⟩ := hL4.at_ e0
      obtain ⟨qw, qx⟩ := q
      have ek2 : V.str (tx qw) = k1 := by
        have z := Option.some.inj ek
        rw [hk] at z
        exact z
      have ev2 : v0 = v1 := Option.some.inj ev
      subst ek2 ev2
      dsimp only at hv
      have s6 := Same.upd ntp (o := .tup [V.str (tx qw), v0])
      have t6 : upd H5 tp (.tup [V.str (tx qw), v0]) tp = some (.tup [V.str (tx qw), v0]) := upd_same
      have hD6 := s6 _ _ hD5
      have hL6 := hL5.nld rr_solidD (same_nld s6)
      obtain ⟨b0, rfl, hv6⟩ : Rr K qx (upd H5 tp (.tup [V.str (tx qw), v0])) v0 := rr_solidD _ (same_nld (s5.trans s6)) hv
      have s56 := s5.trans s6
      generalize upd H5 tp (.tup [V.str (tx qw), V.ref b0]) = H6 at *
      obtain ⟨db, eb⟩ := id hv6
      refine ⟨tp, _, rfl, SqT.of t6, rfl, _, _, rfl, _, _, rfl, rfl, rfl, ?_⟩
      have hc6 := hc4.same s56
      obtain ⟨dc, ec⟩ := id hc6
      refine ⟨_, rfl, _, rfl, _, rfl, b0, db, _, rfl, eb, .inr ⟨bc, dc, _, rfl, ec⟩, b0, .ref bc, qx, c, rfl, hv6, .inl ⟨bc, rfl, hc6⟩, trivial, hz _ (List.mem_of_getElem? eq), zc, fun b H7 nb s7 hb => ?_⟩
      have hD7 := s7 _ _ hD6
      have hL7 := hL6.nld rr_solidD (same_nld s7)
      have eqs := scl_at (c := c) eq
      have fresh : qw ∉ FoWd.keys ((scl c f).take i) := take_fresh (by rw [keys_scl]; exact hnd) eqs
      have nk : valV kv' (.inr (tx qw)) = none := by
        rcases hL7.look (w := qw) with ⟨_, z⟩ | ⟨x, v, l1, _⟩
        · exact z
        · rw [look_none fresh] at l1; cases l1
      refine ⟨kv', .inr (tx qw), rfl, hD7, ?_, _, upd_same, ?_, fun b2 o2 e2 => ?_⟩
      · have z := hL7.len
        have z2 : (scl c f).length = f.length := List.length_map _
        rw [List.length_take, z2] at z
        rw [sizeLine_eq]
        omega
      · rw [putK_new _ nk, List.take_add_one, eqs]
        have e3 : c * qx = qx * c := by grind
        dsimp only
        rw [e3]
        exact DL.snoc (hL7.nld rr_solidD (nld_upd hD7 id)) ⟨b, rfl, rtAt_nld hb (nld_upd hD7 id)⟩
      · rw [upd_ne (ne_of_none e2 nD)]
        exact s7 _ _ (s56 _ _ e2)
    · obtain ⟨kv', hD5, hL5, s5⟩ := h
      have z2 : (scl c f).length = f.length := List.length_map _
      rw [lk, ← z2, List.take_length] at hL5
      refine ⟨s5 _ _ f4, ?_⟩
      have Da : D ≠ d := fun z => by rw [z, f4] at nD; cases nD
      have s8 := back H5 s5
      have hD8 : upd H5 d (.dK kvs) D = some (.dK kv') := by rw [upd_ne Da]; exact hD5
      have hL8 : DL (Rr K) (upd H5 d (.dK kvs)) kv' (scl c f) := hL5.nld rr_solidD (nld_upd (s5 _ _ f4) id)
      generalize upd H5 d (.dK kvs) = H8 at *
      refine fm_make hD8 (Paired.mapP hL8 fun kv q ⟨e1, b, e2, e3⟩ => ⟨e1, .inl ⟨b, e2, e3⟩⟩) (by rw [keys_scl]; exact hnd) (le_scl hN) n60 (by rw [z2]; exact l200) hG fun p H9 np s9 hF => ⟨rfl, ?_⟩
      exact Qr p H9 (s8.free np) (s8.trans s9) (hF.back s8)
end

end Fo

set_option maxHeartbeats 4100000
namespace Fo
open PySem PySem.Spec PyProof.Rows L2
/-! ### the product -/
open FoWd
/-- one row of a product -/
def row1 (p : Wd × Rat) (g : Ps) : Ps := g.map fun q => (p.1 ++ q.1, p.2 * q.2)
theorem mul_take {f g : Ps} {i : Nat} {p : Wd × Rat} (h : f[i]? = some p) : mul (f.take (i + 1)) g = mul (f.take i) g ++ row1 p g := by
  unfold mul row1
  rw [List.take_add_one, h, List.flatMap_append]
  congr 1
  show List.flatMap _ [p] = _
  rw [List.flatMap_cons, List.flatMap_nil, List.append_nil]
theorem row_take {p q : Wd × Rat} {g : Ps} {j : Nat} (h : g[j]? = some q) : row1 p (g.take (j + 1)) = row1 p (g.take j) ++ [(p.1 ++ q.1, p.2 * q.2)] := by
  unfold row1
  rw [List.take_add_one, h, List.map_append]
  rfl
theorem mul_app {f f2 g : Ps} : mul (f ++ f2) g = mul f g ++ mul f2 g := List.flatMap_append
theorem mul_cons {p : Wd × Rat} {f g : Ps} : mul (p :: f) g = row1 p g ++ mul f g := rfl
theorem mul_split {f g : Ps} {i j : Nat} {p : Wd × Rat} (h : f[i]? = some p) (hj : j ≤ g.length) : mul (f.take i) g ++ row1 p (g.take j) = (mul f g).take (i * g.length + j) := by
  have e : f = f.take i ++ (p :: f.drop (i + 1)) := by
    obtain ⟨hi, e⟩ := List.getElem?_eq_some_iff.mp h
    rw [← e, ← List.drop_eq_getElem_cons hi, List.take_append_drop]
  have li : (f.take i).length = i := by
    obtain ⟨hi, e⟩ := List.getElem?_eq_some_iff.mp h
    rw [List.length_take]; omega
  have l1 : ∀ f : Ps, (mul f g).length = f.length * g.length := fun f => by
    induction f with
    | nil => exact (Nat.zero_mul _).symm
    | cons a r ih =>
      show (g.map _ ++ mul r g).length = _
      rw [List.length_append, List.length_map, ih, List.length_cons, Nat.succ_mul, Nat.add_comm]
  have e2 : mul f g = mul (f.take i) g ++ (row1 p g ++ mul (f.drop (i + 1)) g) := by
    rw [← mul_cons, ← mul_app, ← e]
  have l2 := l1 (f.take i)
  rw [li] at l2
  have h1 : (mul (f.take i) g).take (i * g.length + j) = mul (f.take i) g := List.take_of_length_le (by rw [l2]; omega)
  have h2 : (row1 p g ++ mul (f.drop (i + 1)) g).take j = row1 p (g.take j) := by
    rw [List.take_append_of_le_length (by unfold row1; rw [List.length_map]; exact hj)]
    unfold row1
    rw [List.map_take]
  rw [e2, List.take_append, h1, l2, show i * g.length + j - i * g.length = j by omega, h2]
def spFMul (K : PySem.W.Frag) : Sp := fun vs H Q _ => ∃ (a b : Addr) (f g : Ps) (N M : Nat), vs = [.ref a, .ref b] ∧ FmTwo K H a b f g ∧ Le N f ∧ Le M g ∧ N + M ≤ 60 ∧ (mul f g).length ≤ 200 ∧ f.length ≤ 200 ∧ g.length ≤ 200 ∧ (∀ p ∈ f, FoQ.SzR 900 p.2) ∧ (∀ p ∈ g, FoQ.SzR 900 p.2) ∧
  (∀ i w, FoQ.SzR 1900 ((look (accum [] ((mul f g).take i)) w).getD 0)) ∧ Grow 1900 (accum [] (mul f g)) ∧ ∀ p H', H p = none → Same H H' → FmN K H H' p (form (N + M) (mul f g)) → Q (.ref p) H'
section
variable {P : Program} {w : World} {K : PySem.W.Frag} {mg : Str → Option Value} {base : Heap}
set_option maxHeartbeats 4100000 in
theorem ok_Fmul (T : Tx K mg) : FnOk P w K mg base CX0 8 (He.ma K (He.ga K "Formula") "__mul__") T.fd_Formula_mul ["self", "other"] (spFMul K) := by
  refine T.F_Formula_mul.ok sc_Formula_mul (fun vs H Q E h => ?_) (fun cdv A outer s H vs Q E hr h => ?_)
  · obtain ⟨a, b, f, g, N, M, rfl, _⟩ := h
    rfl
  · obtain ⟨a, b, f, g, N, M, rfl, ⟨dx, d, kf, dy, u, kg, du, e1, e2, e3, f1, f2, f3⟩, lf, lg, n60, l200, lf2, lg2, zf, zg, hT, hGr, q⟩ := h
    obtain ⟨ds, vd, bd⟩ := bind_init1 T
    refine ⟨_, (pss_cons (ps_set (i := 2) sc_Formula_mul.nd rfl (.inl rfl) pe_dnewK)
      (pss_cons (ps_lock (ps_for PassesOwn.never rfl (pi_items (pe_fld (pv 0) rfl)) (pg_tup (by rfl) (pgs_cons (pg_name (i := 3) sc_Formula_mul.nd rfl (.inl rfl)) (pgs_cons (pg_name (i := 4) sc_Formula_mul.nd rfl (.inl rfl)) pgs_nil))) (pss_one (ps_lock (ps_for PassesOwn.never rfl (pi_items (pe_fld (pv 1) rfl)) (pg_tup (by rfl) (pgs_cons (pg_name (i := 5) sc_Formula_mul.nd rfl (.inl rfl)) (pgs_cons (pg_name (i := 6) sc_Formula_mul.nd rfl (.inl rfl)) pgs_nil))) (pss_cons (ps_set (i := 7) sc_Formula_mul.nd rfl (.inl rfl) (pe_op op_add_str (pv 3) (pv 5)))
      (pss_one (ps_dput (Nat.lt_of_le_of_lt (Nat.add_le_add_left (by decide) _) hr.units) (pv 2) (pv 7) (pe_op (FoA.op_own (ok_addQ T) (hr.mono (by decide)) T.b_Ratio_add pass0 T.bi_add FoN.int_add FoN.int_addR) (pe_dget2 (Nat.lt_of_le_of_lt (Nat.add_le_add_left (by decide) _) hr.units) (pv 2) (pv 7) (pe_make T.mk_R (ok_initQ T) (hr.mono (by decide)) (by rfl) T.c_Ratio bd vd pass0 (pa_cons pe_int pa_nil)) ⟨by rfl, by rfl, by rfl, by rfl⟩) (pe_op (FoA.op_own (ok_mulQ T) (hr.mono (by decide)) T.b_Ratio_mul pass0 T.bi_mul FoN.int_mul FoN.int_mulR) (pv 4) (pv 6))) rfl))))))))
      (pss_one (ps_ret (pe_make T.mk_F (ok_Finit T) (hr.mono (by decide)) (by rfl) T.c_Formula T.b_Formula_init .nil pass0 (pa_cons (pv 2) pa_nil)))))), ?_⟩
    have lkf : kf.length = f.length := e3.len
    have lkg : kg.length = g.length := f3.len
    refine fun p np => ?_
    have pd : p ≠ d := fun z => by rw [z, e2] at np; cases np
    have pu : p ≠ u := fun z => by rw [z, f2] at np; cases np
    have ad : a ≠ d := fun z => by rw [z, e2] at e1; cases e1
    have bd' : b ≠ d := fun z => by rw [z, e2] at f1; cases f1
    have bu : b ≠ u := fun z => by rw [z, f2] at f1; cases f1
    refine ⟨d, .dK kf, by rw [upd_ne (Ne.symm pd)]; exact e2, trivial, fun od => ?_⟩
    have f0 : upd (upd H p (.dK [])) d (.frz od (.dK kf)) d = some (.frz od (.dK kf)) := upd_same
    have p0 : upd (upd H p (.dK [])) d (.frz od (.dK kf)) p = some (.dK []) := by rw [upd_ne pd]; exact upd_same
    have s0 : ∀ b o, H b = some o → b ≠ d → upd (upd H p (.dK [])) d (.frz od (.dK kf)) b = some o := fun b o e n => by
      rw [upd_ne n, upd_ne (fun z => by rw [z, np] at e; cases e)]
      exact e
    have a0 := s0 _ _ e1 ad
    generalize upd (upd H p (.dK [])) d (.frz od (.dK kf)) = H1 at *
    refine ⟨_, rfl, a, _, dx, _, _, rfl, a0, T.cl_F, T.nT_F, rfl, d, od, kf, rfl, f0, ?_⟩
    refine for_it walk_items (fun i σ H2 => ∃ kt o3 o4 o5 o6 o7, σ = [some (.ref a), some (.ref b), some (.ref p), o3, o4, o5, o6, o7] ∧ H2 d = some (.frz od (.dK kf)) ∧ H2 p = some (.dK kt) ∧ DL (Rr K) H2 kt (accum [] (mul (f.take i) g)) ∧ ∀ b o, H b = some o → b ≠ d → H2 b = some o)
      ⟨[], none, none, none, none, none, rfl, f0, p0, .nil, s0⟩ (fun i σ H2 _ ⟨_, _, _, _, _, _, _, h, _⟩ => h) (fun i v σ H2 H3 hi h y => ?_) (fun σ H2 h => ?_)
    · obtain ⟨kt, o3, o4, o5, o6, o7, rfl, fa, hp, hD, hs⟩ := h
      obtain ⟨tp, k1, v1, rfl, ntp, rfl, ek, ev⟩ := y
      obtain ⟨⟨k0, v0⟩, e0⟩ : ∃ q, kf[i]? = some q := ⟨_, List.getElem?_eq_getElem hi⟩
      dsimp only at ek ev
      rw [e0] at ek ev
      obtain ⟨pq, eq, hk, r, hv, hr0⟩ := e3.at_ e0
      obtain ⟨pw, px⟩ := pq
      have ek2 : V.str (tx pw) = k1 := by
        have z := Option.some.inj ek
        rw [hk] at z
        exact z
      have ev2 : V.ref r = v1 := by
        have z := Option.some.inj ev
        rw [hv] at z
        exact z
      subst ek2 ev2
      dsimp only at hr0
      have zp := zf _ (List.mem_of_getElem? eq)
      have s3 := Same.upd ntp (o := .tup [V.str (tx pw), V.ref r])
      have t3 : upd H2 tp (.tup [V.str (tx pw), V.ref r]) tp = some (.tup [V.str (tx pw), V.ref r]) := upd_same
      have fa3 := s3 _ _ fa
      have hp3 := s3 _ _ hp
      have hD3 := hD.nld rr_solidD (same_nld s3)
      have hs3 : ∀ b o, H b = some o → b ≠ d → upd H2 tp (.tup [V.str (tx pw), V.ref r]) b = some o := fun b o e n => s3 _ _ (hs b o e n)
      generalize upd H2 tp (.tup [V.str (tx pw), V.ref r]) = H3 at *
      refine ⟨tp, _, rfl, SqT.of t3, rfl, _, _, rfl, _, _, rfl, rfl, ?_⟩
      refine ⟨u, .dK kg, hs3 _ _ f2 (Ne.symm du), trivial, fun od2 => ?_⟩
      have q0 : upd H3 u (.frz od2 (.dK kg)) u = some (.frz od2 (.dK kg)) := upd_same
      have q1 : upd H3 u (.frz od2 (.dK kg)) p = some (.dK kt) := by rw [upd_ne pu]; exact hp3
      have q2 : upd H3 u (.frz od2 (.dK kg)) d = some (.frz od (.dK kf)) := by rw [upd_ne du]; exact fa3
      have q3 : ∀ b o, H b = some o → b ≠ d → b ≠ u → upd H3 u (.frz od2 (.dK kg)) b = some o := fun b o e n m => by rw [upd_ne m]; exact hs3 b o e n
      have q4 : DL (Rr K) (upd H3 u (.frz od2 (.dK kg))) kt (accum [] (mul (f.take i) g ++ row1 (pw, px) (g.take 0))) := by
        rw [show row1 (pw, px) (g.take 0) = [] from rfl, List.append_nil]
        exact hD3.nld rr_solidD (nld_upd (hs3 _ _ f2 (Ne.symm du)) id)
      generalize upd H3 u (.frz od2 (.dK kg)) = H4 at *
      refine ⟨_, rfl, b, _, dy, _, _, rfl, q3 _ _ f1 bd' bu, T.cl_F, T.nT_F, rfl, u, od2, kg, rfl, q0, ?_⟩
      refine for_it walk_items (fun j σ H2 => ∃ kt o5 o6 o7, σ = [some (.ref a), some (.ref b), some (.ref p), some (.str (tx pw)), some (.ref r), o5, o6, o7] ∧ H2 u = some (.frz od2 (.dK kg)) ∧ H2 d = some (.frz od (.dK kf)) ∧ H2 p = some (.dK kt) ∧ DL (Rr K) H2 kt (accum [] (mul (f.take i) g ++ row1 (pw, px) (g.take j))) ∧ ∀ b o, H b = some o → b ≠ d → b ≠ u → H2 b = some o)
        ⟨kt, o5, o6, o7, rfl, q0, q2, q1, q4, q3⟩ (fun i σ H2 _ ⟨_, _, _, _, _, h, _⟩ => h) (fun j v σ H5 H6 hj h y => ?_) (fun σ H5 h => ?_)
      · clear q0 q1 q2 q3 q4 hD hD3 hp hp3 fa fa3 hs hs3
        obtain ⟨kt, o5, o6, o7, rfl, fb, fa, hp, hD, hs⟩ := h
        obtain ⟨tq, k2, v2, rfl, ntq, rfl, ek, ev⟩ := y
        obtain ⟨⟨k0', v0'⟩, e0'⟩ : ∃ q, kg[j]? = some q := ⟨_, List.getElem?_eq_getElem hj⟩
        dsimp only at ek ev
        rw [e0'] at ek ev
        obtain ⟨qq, eqq, hk', r2, hv', hr2⟩ := f3.at_ e0'
        obtain ⟨qw, qx⟩ := qq
        have ek3 : V.str (tx qw) = k2 := by
          have z := Option.some.inj ek
          rw [hk'] at z
          exact z
        have ev3 : V.ref r2 = v2 := by
          have z := Option.some.inj ev
          rw [hv'] at z
          exact z
        subst ek3 ev3
        dsimp only at hr2
        have zq := zg _ (List.mem_of_getElem? eqq)
        have jl : j ≤ g.length := by omega
        have z2 := hT (i * g.length + j) (pw ++ qw)
        rw [← mul_split eq jl] at z2
        have s3 := Same.upd ntq (o := .tup [V.str (tx qw), V.ref r2])
        have t3 : upd H5 tq (.tup [V.str (tx qw), V.ref r2]) tq = some (.tup [V.str (tx qw), V.ref r2]) := upd_same
        have fa3 := s3 _ _ fa
        have fb3 := s3 _ _ fb
        have hp3 := s3 _ _ hp
        have hD3 := hD.nld rr_solidD (same_nld s3)
        have hs3 : ∀ b o, H b = some o → b ≠ d → b ≠ u → upd H5 tq (.tup [V.str (tx qw), V.ref r2]) b = some o := fun b o e n m => s3 _ _ (hs b o e n m)
        have rAt : ∀ {r : Addr} {x : Rat}, RtAt K H r x → RtAt K (upd H5 tq (.tup [V.str (tx qw), V.ref r2])) r x := fun h => by
          obtain ⟨dz, e⟩ := h
          exact ⟨dz, hs3 _ _ e (fun z => by rw [z, e2] at e; cases e) (fun z => by rw [z, f2] at e; cases e)⟩
        have hr1 := rAt hr0
        have hr2 := rAt hr2
        clear rAt
        generalize upd H5 tq (.tup [V.str (tx qw), V.ref r2]) = H6 at *
        have lw : (pw ++ qw).length ≤ 60 := by
          have w1 := lf _ (List.mem_of_getElem? eq)
          have w2 := lg _ (List.mem_of_getElem? eqq)
          rw [List.length_append]
          dsimp only at w1 w2
          omega
        refine ⟨tq, _, rfl, SqT.of t3, rfl, _, _, rfl, _, _, rfl, rfl, ?_⟩
        refine ⟨_, rfl, _, rfl, _, _, rfl, rfl, ?_, ?_⟩
        · rw [tx_len, tx_len, sizeLine_eq]
          rw [List.length_append] at lw
          omega
        rw [tx_app]
        refine ⟨_, rfl, p, rfl, .inl ⟨kt, .inl hp3⟩, _, rfl, ?_⟩
        refine rq_make (r := 0) (by decide) (sz_of 1000000 (by decide) (by decide) (by decide)) rfl fun p0 H7 np0 s4 h0 => ⟨rfl, ?_⟩
        have hp4 := s4 _ _ hp3
        have hr1 := hr1.same s4
        have hr2 := hr2.same s4
        obtain ⟨dr, hr5⟩ := id hr1
        obtain ⟨dr2, hr6⟩ := id hr2
        have got : ∃ o, DGet H7 p (.str (tx (pw ++ qw))) o ∧ ∃ b, o.getD (.ref p0) = .ref b ∧ RtAt K H7 b ((look (accum [] (mul (f.take i) g ++ row1 (pw, px) (g.take j))) (pw ++ qw)).getD 0) := by
          refine ⟨_, .inl ⟨kt, .inr (tx (pw ++ qw)), .inl hp4, rfl, rfl⟩, ?_⟩
          rcases hD3.look (w := pw ++ qw) with ⟨l1, l2⟩ | ⟨x, v, l1, l2, b, rfl, hb⟩
          · rw [l1, l2]
            exact ⟨p0, rfl, h0⟩
          · rw [l1, l2]
            exact ⟨b, rfl, hb.same s4⟩
        obtain ⟨o, g1, bb, g2, hb⟩ := got
        refine ⟨o, g1, ?_⟩
        rw [g2]
        refine ⟨_, rfl, _, rfl, r, dr, _, rfl, hr5, .inr ⟨r2, dr2, _, rfl, hr6⟩, r, .ref r2, px, qx, rfl, hr1, .inl ⟨r2, rfl, hr2⟩, trivial, zp.mono (by decide), zq.mono (by decide), fun pm H8 npm s8 hm => ?_⟩
        have hb := hb.same s8
        obtain ⟨db, hb5⟩ := id hb
        obtain ⟨dm, hm5⟩ := id hm
        refine ⟨bb, db, _, rfl, hb5, .inr ⟨pm, dm, _, rfl, hm5⟩, bb, .ref pm, _, _, rfl, hb, .inl ⟨pm, rfl, hm⟩, trivial, z2, (zp.mul zq).mono (by decide), fun p5 H9 np5 s5 h5 => ?_⟩
        have s49 := s4.trans (s8.trans s5)
        have hp5 := s49 _ _ hp3
        refine ⟨_, rfl, _, rfl, p, _, rfl, .inl ⟨kt, .inr (tx (pw ++ qw)), hp5, rfl, ?_, rfl⟩, _, _, _, _, rfl, ?_, ?_, upd_same, ?_, fun b o e n m => ?_⟩
        · have z := (accum_all (t := []) List.nodup_nil (mul (f.take i) g ++ row1 (pw, px) (g.take j))).2.2.1
          rw [mul_split eq jl, List.length_take] at z
          rw [mul_split eq jl] at hD3
          rw [← hD3.len] at z
          rw [sizeLine_eq]
          rw [List.length_nil] at z
          omega
        · rw [upd_ne (Ne.symm pu)]
          exact s49 _ _ fb3
        · rw [upd_ne (Ne.symm pd)]
          exact s49 _ _ fa3
        · rw [row_take eqq, ← List.append_assoc, accum_snoc]
          unfold addTo
          exact DL.put ((hD3.nld rr_solidD (same_nld s49)).nld rr_solidD (nld_upd hp5 id)) (accum_all (t := []) List.nodup_nil _).1 ⟨p5, rfl, rtAt_nld h5 (nld_upd hp5 id)⟩
        · rw [upd_ne (fun z => by rw [z, np] at e; cases e)]
          exact s49 _ _ (hs3 b o e n m)
      · obtain ⟨kt, o5, o6, o7, rfl, fb, fa, hp, hD, hs⟩ := h
        refine ⟨fb, kt, _, _, _, _, _, rfl, ?_, ?_, ?_, fun b o e n => ?_⟩
        · rw [upd_ne du]; exact fa
        · rw [upd_ne pu]; exact hp
        · rw [mul_take eq]
          rw [lkg, List.take_length] at hD
          exact hD.nld rr_solidD (nld_upd fb id)
        · by_cases z : b = u
          · rw [z, f2] at e
            cases e
            rw [z]
            exact upd_same
          · rw [upd_ne z]
            exact hs b o e n z
    · obtain ⟨kt, o3, o4, o5, o6, o7, rfl, fa, hp, hD, hs⟩ := h
      refine ⟨fa, ?_⟩
      rw [lkf, List.take_length] at hD
      have hp6 : upd H2 d (.dK kf) p = some (.dK kt) := by rw [upd_ne pd]; exact hp
      have s6 : Same H (upd H2 d (.dK kf)) := fun b o e => by
        by_cases z : b = d
        · rw [z, e2] at e
          cases e
          rw [z]
          exact upd_same
        · rw [upd_ne z]
          exact hs b o e z
      have hD6 : DL (Rr K) (upd H2 d (.dK kf)) kt (accum [] (mul f g)) := hD.nld rr_solidD (nld_upd fa id)
      generalize upd H2 d (.dK kf) = H3 at *
      obtain ⟨an, _, al, _⟩ := accum_all (t := []) List.nodup_nil (mul f g)
      have lm : Le (N + M) (mul f g) := fun p hp => by
        unfold mul at hp
        obtain ⟨x, hx, hp⟩ := List.mem_flatMap.mp hp
        obtain ⟨y, hy, rfl⟩ := List.mem_map.mp hp
        show (x.1 ++ y.1).length ≤ _
        rw [List.length_append]
        have w1 := lf _ hx
        have w2 := lg _ hy
        omega
      refine ⟨_, rfl, fm_make hp6 (Paired.mapP hD6 fun kv q ⟨e1, b, e2, e3⟩ => ⟨e1, .inl ⟨b, e2, e3⟩⟩) an (le_accum (t := []) List.nodup_nil (fun _ h => absurd h (by simp)) lm) n60 (by rw [List.length_nil] at al; omega) hGr fun p9 H9 np9 s9 hF => ⟨rfl, ?_⟩⟩
      rw [form_accum (t := []) List.nodup_nil, List.nil_append] at hF
      exact q p9 H9 (s6.free np9) (s6.trans s9) (hF.back s6)
end

end Fo

set_option maxHeartbeats 4100000
/-! max(xs, default=d) of a list of whole numbers. -/
namespace FoMx
open PySem PyProof.Rows
theorem max_args (a v : Value) : argsOk "max" ⟨[a], [(Str.ofString "default", v)]⟩ := by unfold argsOk; kernel_rfl
section
variable {prog : Program} {w : World} {A : Around} {E : Value → Shared → Prop} {s : Shared} {l I S : Addr} {vs : List Value} {ns : List Int} {d : Value} {R : Result → Shared → Prop} {Q : Value → Shared → Prop}
def Kept (s : Shared) (h : Heap) : Prop := ∀ b o, s.heap.get? b = some o → h.get? b = some o
theorem mx_loop (hh : A.handled = none) (hi : IntsAre vs ns) (hlI : l ≠ I) (hSI : S ≠ I) (hlS : l ≠ S) (nI : s.heap.get? I = none) (nS : s.heap.get? S = none)
    (hR : ∀ h' tk' m t, Kept s h' → m ∈ ns → (∀ a ∈ ns, a ≤ m) → R (.ok (.ret (.int m t))) { s with heap := h', toks := tk' }) :
    ∀ (r j : Nat) (h : Heap) (tk : Nat) (m : Int) (tb : Tok) (c : Nat), vs.length - j = r → j ≤ vs.length → Kept s h → h.get? S = some (seqObj "list" #[.int m tb, .int m tb] c) → h.IsListIter I l j → h.IsList l vs.toArray → m ∈ ns.take j → (∀ a ∈ ns.take j, a ≤ m) →
      codeAny (model prog w) A (.builtin "max.loop" ⟨[.ref I, .none, .ref S], [(Str.ofString "default", d)]⟩) R { s with heap := h, toks := tk } := by
  have hname : (toString "max" ++ toString ".loop" : String) = "max.loop" := by decide
  have W := Walks.list (prog := prog) (w := w) (A := A.in1) hh I l hlI vs.toArray
  have hsz : vs.toArray.size = vs.length := List.size_toArray ..
  have hln := hi.length
  intro r
  induction r with
  | zero =>
    intro j h tk m tb c hr hj K gS hit hl hm hx
    have hin : j = vs.length := by omega
    refine codeAny_builtin PySem.F.entry_max_loop ?_
    rw [Around.under_plainId PySem.F.plain_max_loop _]
    show wpAny _ A.in1 (seqItems? (.ref S) >>= _) _ _ _
    refine wpAny_bind (wpAny_seqItems gS rfl ?_)
    show wpAny _ A.in1 (tryCatch (pyNext (.ref I)) _ >>= _) _ _ _
    refine wpAny_bind (wpAny_tryCatch (W.done _ _ _ ⟨by rw [hsz, ← hin]; exact hit, hl⟩ fun h' tk' hk' => ?_))
    have hS' := hk' S _ (by simpa using hSI) gS
    show wpAny _ A.in1 (updateSeq S (fun _ => #[]) >>= _) _ _ _
    refine wpAny_bind ?_
    refine wpAny_updateSeq hS' rfl (wpAny_bind (wpAny_letGo (wpAny_pure ?_)))
    rw [List.take_of_length_le (by omega)] at hm hx
    refine hR _ _ m tb (fun b o e => ?_) hm hx
    have bS : b ≠ S := fun z => by rw [z, nS] at e; cases e
    have bI : b ≠ I := fun z => by rw [z, nI] at e; cases e
    rw [Heap.get?_update_ne _ _ _ _ bS]
    exact hk' b o (by simpa using bI) (K b o e)
  | succ r ih =>
    intro j h tk m tb c hr hj K gS hit hl hm hx
    have hlt : j < vs.length := by omega
    refine codeAny_builtin PySem.F.entry_max_loop ?_
    rw [Around.under_plainId PySem.F.plain_max_loop _]
    show wpAny _ A.in1 (seqItems? (.ref S) >>= _) _ _ _
    refine wpAny_bind (wpAny_seqItems gS rfl ?_)
    show wpAny _ A.in1 (tryCatch (pyNext (.ref I)) _ >>= _) _ _ _
    refine wpAny_bind (wpAny_tryCatch (W.item j _ _ _ (by rw [hsz]; exact hlt) ⟨hit, hl⟩ fun v h' tk' hP hst' hk' => ?_))
    have hv : vs[j]? = some v := by simpa using hP
    obtain ⟨k, hk⟩ : ∃ k, ns[j]? = some k := ⟨ns[j]'(by omega), List.getElem?_eq_getElem (by omega)⟩
    obtain ⟨t2, ht⟩ := hi.get j k hk
    rw [hv] at ht
    cases ht
    have hS' := hk' S _ (by simpa using hSI) gS
    have K' : Kept s h' := fun b o e => hk' b o (by simpa using fun z : b = I => by rw [z, nI] at e; cases e) (K b o e)
    have etk : ns.take (j + 1) = ns.take j ++ [k] := by rw [List.take_add_one, hk]; rfl
    show wpAny _ A.in1 (pure (Value.int k t2) >>= _) _ _ _
    refine wpAny_bind (wpAny_pure ?_)
    show wpAny _ A.in1 (tryCatch (holding [Value.int k t2, .int k t2] (richCompare .Gt (.int k t2) (.int m tb) >>= _)) _ >>= _) _ _ _
    refine wpAny_bind (wpAny_tryCatch (wpAny_holding (wpAny_bind (CmpOf.ints_gt (prog := prog) (w := w) (A := A.in1) (P := fun i v => ∃ t, v = .int (if i = 0 then k else m) t) (fun i => if i = 0 then k else m) (fun i v h => h) 0 1 _ _ _ _ _ ⟨t2, rfl⟩ ⟨tb, rfl⟩ ?_))))
    refine wpAny_bind (wpAny_holding (wpAny_truthy_bool ?_))
    refine wpAny_bind (wpAny_letGo (wpAny_pure ?_))
    by_cases hb' : k > m
    · have s1 := Heap.SameBut.update h' S (Obj.mapSeq fun _ => #[Value.int k t2, .int k t2])
      obtain ⟨c2, hc2⟩ : ∃ c2, (h'.update S (Obj.mapSeq fun _ => #[Value.int k t2, .int k t2])).get? S = some (seqObj "list" #[Value.int k t2, .int k t2] c2) := ⟨_, get?_update_seq hS' fun _ => #[Value.int k t2, .int k t2]⟩
      have z1 : (1 : Nat) ≠ 0 := by decide
      simp only [if_true, if_neg z1, hb', decide_true]
      refine wpAny_bind ?_
      refine wpAny_updateSeq hS' rfl (wpAny_bind (wpAny_letGo ?_))
      rw [hname]
      obtain ⟨oI', hoI', hoc, hod⟩ := id hst'.1
      refine wpAny_pure ⟨plainId_quiet PySem.F.plain_max_loop _, ih (j + 1) _ _ k t2 c2 (by omega) hlt (fun b o e => ?_) hc2 ⟨oI', (s1.2 I hSI.symm).trans hoI', hoc, hod⟩ (hst'.2.at fun o e => (s1.2 l hlS).trans e) (by rw [etk]; simp) fun a ha => ?_⟩
      · exact (s1.2 b (fun z => by rw [z, nS] at e; cases e)).trans (K' b o e)
      · rw [etk] at ha
        rcases List.mem_append.mp ha with ha | ha
        · have := hx a ha
          omega
        · rw [List.mem_singleton.mp ha]
          exact Int.le_refl _
    · have z1 : (1 : Nat) ≠ 0 := by decide
      simp only [if_true, if_neg z1, hb', decide_false, Bool.false_eq_true, if_false]
      refine wpAny_bind (wpAny_letGo ?_)
      rw [hname]
      refine wpAny_pure ⟨plainId_quiet PySem.F.plain_max_loop _, ih (j + 1) _ _ m tb c (by omega) hlt K' hS' hst'.1 hst'.2 (by rw [etk]; exact List.mem_append_left _ hm) fun a ha => ?_⟩
      rw [etk] at ha
      rcases List.mem_append.mp ha with ha | ha
      · exact hx a ha
      · rw [List.mem_singleton.mp ha]
        omega
/-- the greatest one, or the default -/
theorem mx_call (hh : A.handled = none) (hl : s.heap.IsList l vs.toArray) (hi : IntsAre vs ns)
    (h0 : ns = [] → ∀ h' tk', Kept s h' → Q d { s with heap := h', toks := tk' })
    (h1 : ∀ h' tk' m t, Kept s h' → m ∈ ns → (∀ a ∈ ns, a ≤ m) → Q (.int m t) { s with heap := h', toks := tk' }) :
    wpAny (model prog w) A (call (.builtin "max") [.ref l] [(Str.ofString "default", d)]) Q E s := by
  have hname : (toString "max" ++ toString ".loop" : String) = "max.loop" := by decide
  obtain ⟨ol, hol, _⟩ := id hl
  have hll : l < s.heap.objs.size := Heap.lt_size hol
  have hln := hi.length
  refine kmk_tree PySem.F.kind_max PySem.F.plain_max PySem.F.entry_max (max_args _ _) ?_
  show wpAny _ A.in1 (Builtin.Builtins.bindParams "max" ["key", "default"] 0 ⟨[], [(Str.ofString "default", d)]⟩ >>= _) _ _ s
  refine wpAny_bind (wpAny_of_eq (show Builtin.Builtins.bindParams "max" ["key", "default"] 0 ⟨[], [(Str.ofString "default", d)]⟩ = pure [none, some d] from rfl) ?_)
  refine wpAny_bind (wpAny_pure ?_)
  refine wpAny_bind (wpAny_pyIter_list hl ?_)
  refine wpAny_bind (wpAny_newList ?_ (Nat.zero_le _))
  rw [hname]
  have hS : (s.heap.push { cls := .type "list_iterator", data := .fields #[.ref l, .int 0 0] }).objs.size = s.heap.objs.size + 1 := size_push' ..
  have hlI : l ≠ s.heap.objs.size := Nat.ne_of_lt hll
  have hlS : l ≠ (s.heap.push { cls := .type "list_iterator", data := .fields #[.ref l, .int 0 0] }).objs.size := by rw [hS]; exact Nat.ne_of_lt (Nat.lt_succ_of_lt hll)
  have hSI : (s.heap.push { cls := .type "list_iterator", data := .fields #[.ref l, .int 0 0] }).objs.size ≠ s.heap.objs.size := by rw [hS]; exact Nat.ne_of_gt (Nat.lt_succ_self _)
  have nI : s.heap.get? s.heap.objs.size = none := Heap.get?_none_of_le (Nat.le_refl _)
  have nS : s.heap.get? (s.heap.push { cls := .type "list_iterator", data := .fields #[.ref l, .int 0 0] }).objs.size = none := Heap.get?_none_of_le (by rw [hS]; exact Nat.le_succ _)
  refine wpAny_pure ⟨plainId_quiet PySem.F.plain_max_loop _, ?_⟩
  have KH : Kept s ((s.heap.push { cls := .type "list_iterator", data := .fields #[.ref l, .int 0 0] }).push (seqObj "list" #[] 0)) := fun b x e => Heap.get?_push_of_some _ (Heap.get?_push_of_some _ e)
  have gI : ((s.heap.push { cls := .type "list_iterator", data := .fields #[.ref l, .int 0 0] }).push (seqObj "list" #[] 0)).get? s.heap.objs.size = some { cls := .type "list_iterator", data := .fields #[.ref l, .int 0 0] } :=
    Heap.get?_push_of_some _ (Heap.get?_push_size _ rfl)
  have gS : ((s.heap.push { cls := .type "list_iterator", data := .fields #[.ref l, .int 0 0] }).push (seqObj "list" #[] 0)).get? (s.heap.push { cls := .type "list_iterator", data := .fields #[.ref l, .int 0 0] }).objs.size = some (seqObj "list" #[] 0) := Heap.get?_push_size _ rfl
  have gL : ((s.heap.push { cls := .type "list_iterator", data := .fields #[.ref l, .int 0 0] }).push (seqObj "list" #[] 0)).IsList l vs.toArray := hl.at fun o e => KH l o e
  have W := Walks.list (prog := prog) (w := w) (A := A.in1) hh s.heap.objs.size l hlI vs.toArray
  have hsz : vs.toArray.size = vs.length := List.size_toArray ..
  refine codeAny_builtin PySem.F.entry_max_loop ?_
  rw [Around.under_plainId PySem.F.plain_max_loop _]
  show wpAny _ A.in1 (seqItems? (.ref _) >>= _) _ _ _
  refine wpAny_bind (wpAny_seqItems gS rfl ?_)
  show wpAny _ A.in1 (tryCatch (pyNext (.ref s.heap.objs.size)) _ >>= _) _ _ _
  by_cases hne : 0 < vs.length
  · refine wpAny_bind (wpAny_tryCatch (W.item 0 _ _ _ (by rw [hsz]; exact hne) ⟨⟨_, gI, rfl, rfl⟩, gL⟩ fun v h' tk' hP hst' hk' => ?_))
    have hv : vs[0]? = some v := by simpa using hP
    obtain ⟨k, hk⟩ : ∃ k, ns[0]? = some k := ⟨ns[0]'(by omega), List.getElem?_eq_getElem (by omega)⟩
    obtain ⟨t2, ht⟩ := hi.get 0 k hk
    rw [hv] at ht
    cases ht
    obtain ⟨oI', hoI', hoc, hod⟩ := id hst'.1
    have hS' := hk' _ _ (by simpa using hSI) gS
    show wpAny _ A.in1 (pure (Value.int k t2) >>= _) _ _ _
    refine wpAny_bind (wpAny_pure ?_)
    have s1 := Heap.SameBut.update h' (s.heap.push { cls := .type "list_iterator", data := .fields #[.ref l, .int 0 0] }).objs.size (Obj.mapSeq fun _ => #[Value.int k t2, .int k t2])
    obtain ⟨c2, hc2⟩ : ∃ c2, (h'.update (s.heap.push { cls := .type "list_iterator", data := .fields #[.ref l, .int 0 0] }).objs.size (Obj.mapSeq fun _ => #[Value.int k t2, .int k t2])).get? (s.heap.push { cls := .type "list_iterator", data := .fields #[.ref l, .int 0 0] }).objs.size = some (seqObj "list" #[Value.int k t2, .int k t2] c2) := ⟨_, get?_update_seq hS' fun _ => #[Value.int k t2, .int k t2]⟩
    show wpAny _ A.in1 (updateSeq (s.heap.push { cls := .type "list_iterator", data := .fields #[.ref l, .int 0 0] }).objs.size (fun _ => #[Value.int k t2, .int k t2]) >>= _) _ _ _
    refine wpAny_bind ?_
    refine wpAny_updateSeq hS' rfl ?_
    rw [hname]
    have e1 : ns.take 1 = [k] := by
      rw [List.take_add_one, hk]
      rfl
    refine wpAny_pure ⟨plainId_quiet PySem.F.plain_max_loop _, mx_loop hh hi hlI hSI hlS nI nS h1 _ 1 _ _ k t2 c2 rfl hne (fun b o e => ?_) hc2 ⟨oI', (s1.2 _ hSI.symm).trans hoI', hoc, hod⟩ (hst'.2.at fun o e => (s1.2 l hlS).trans e) (by rw [e1]; simp) (by rw [e1]; intro a ha; rw [List.mem_singleton.mp ha]; exact Int.le_refl _)⟩
    exact (s1.2 b (fun z => by rw [z, nS] at e; cases e)).trans (hk' b o (by simpa using fun z : b = s.heap.objs.size => by rw [z, nI] at e; cases e) (KH b o e))
  · have e0 : vs.length = 0 := by omega
    refine wpAny_bind (wpAny_tryCatch (W.done _ _ _ ⟨by rw [hsz, e0]; exact ⟨_, gI, rfl, rfl⟩, gL⟩ fun h' tk' hk' => ?_))
    refine wpAny_bind (wpAny_rule (wpAny_pure ?_))
    exact h0 (List.eq_nil_of_length_eq_zero (by omega)) _ _ fun b o e => hk' b o (by simpa using fun z : b = s.heap.objs.size => by rw [z, nI] at e; cases e) (KH b o e)
end
end FoMx
namespace FoMx
open PySem PySem.Spec PyProof.Rows L2
variable {X : Cx}
/-- max(xs, default=d) -/
def rMaxDf (K : PySem.W.Frag) : List V → List V → Hp → VK → Prop := fun vs zs H Q => ∃ (a : Addr) (ns : List Int) (d : V), vs = [V.ref a] ∧ zs = [d] ∧ SqL K H a (ns.map V.int) ∧ (ns = [] → Q d H) ∧ ∀ m, m ∈ ns → (∀ y ∈ ns, y ≤ m) → Q (.int m) H
theorem cr_maxDf (hc : X.calm = true) : CallRK X (.builtin "max") [Str.ofString "default"] (rMaxDf X.K) := by
  intro pins s σ H vs zs us ws Q I r rz h
  obtain ⟨a, ns, d, rfl, rfl, hs, q0, q1⟩ := h
  obtain ⟨its, rv, hl, _⟩ := I.list hs
  obtain rfl := Vals.ref1 r
  obtain ⟨w1, rfl, e1⟩ := vals1 rz
  exact mx_call (I.ok.hd hc) hl.isList rv.ints (fun e h' tk k => ⟨d, H, I.kept k, e1, q0 e⟩) fun h' tk m t k m1 m2 => ⟨.int m, H, I.kept k, ⟨t, rfl⟩, q1 m m1 m2⟩
end FoMx

set_option maxHeartbeats 4100000
namespace Fo
open PySem PySem.Spec PyProof.Rows L2
/-! ### is_mirror, degree -/
open FoWd
def spFIsM (K : PySem.W.Frag) : Sp := fun vs H Q _ => ∃ (a : Addr) (ps : Ps) (N : Nat), vs = [.ref a] ∧ FmAt K H a (form N ps) ∧ N ≤ 60 ∧ (form N ps).length ≤ 200 ∧ (∀ p ∈ form N ps, FoQ.SzR 1900 p.2) ∧ Grow 1900 (turn (form N ps)) ∧
  ∀ H', Same H H' → Q (.bl (decide (form N ps = form N (turn (form N ps))))) H'
def spFDeg (K : PySem.W.Frag) : Sp := fun vs H Q _ => ∃ (a : Addr) (f : Ps) (m : Nat), vs = [.ref a] ∧ FmAt K H a f ∧ f.length ≤ 200 ∧ (∀ p ∈ f, p.1.length ≤ 1000) ∧ (∀ p ∈ f, p.1.length ≤ m) ∧ (f = [] → m = 0) ∧ (f ≠ [] → ∃ p ∈ f, p.1.length = m) ∧ ∀ H', Same H H' → Q (.int m) H'
section
variable {P : Program} {w : World} {K : PySem.W.Frag} {mg : Str → Option Value} {base : Heap}
theorem ok_Fismir (T : Tx K mg) : FnOk P w K mg base CX0 10 (He.ma K (He.ga K "Formula") "is_mirror") T.fd_Formula_is_mirror ["self"] (spFIsM K) := by
  refine T.F_Formula_is_mirror.ok sc_Formula_is_mirror (fun vs H Q E h => ?_) (fun cdv A outer s H vs Q E hr h => ?_)
  · obtain ⟨a, ps, N, rfl, _⟩ := h
    rfl
  · obtain ⟨a, ps, N, rfl, hF, n60, l200, hz, hG, q⟩ := h
    refine ⟨_, (pss_one (ps_ret (pe_cmpR (FoA.op_ownC (ok_Feq T) (hr.mono (by decide)) T.b_Formula_eq pass0 T.cmF_eq (fun _ _ => rfl)) (pv 0) (pe_meth0 (pv 0) T.cl_F T.mF_mirror (ok_Fmirror T) (hr.mono (by decide)) T.b_Formula_mirror .nil pass0) (nomark _)))), ?_⟩
    obtain ⟨dx, d, kvs, e1, e2, e3⟩ := id hF
    refine ⟨_, rfl, _, rfl, a, dx, _, rfl, e1, rfl, a, form N ps, N, rfl, hF, form_nodup N ps, form_le N ps, n60, l200, hz, hG, fun p H1 np s1 hp => ?_⟩
    have hp := hp.at
    obtain ⟨dy, d2, kv2, f1, f2, f3⟩ := id hp
    refine ⟨a, dx, _, rfl, s1 _ _ e1, FoA.OthV.ins f1, a, p, ps, turn (form N ps), N, rfl, hF.same s1, hp, q H1 s1⟩
theorem ok_Fdegree (T : Tx K mg) : FnOk P w K mg base CX0 1 (He.ma K (He.ga K "Formula") "degree") T.fd_Formula_degree ["self"] (spFDeg K) := by
  refine T.F_Formula_degree.ok sc_Formula_degree (fun vs H Q E h => ?_) (fun cdv A outer s H vs Q E hr h => ?_)
  · obtain ⟨a, f, m, rfl, _⟩ := h
    rfl
  · obtain ⟨a, f, m, rfl, hF, l200, l1000, m1, m2, m3, q⟩ := h
    refine ⟨_, (pss_one (ps_ret (pe_callBK (FoMx.cr_maxDf rfl) (by rfl) T.z_max (by decide +kernel) (pa_cons (pe_lock (pe_lc (own := [("row", 1)]) (g := gName 1) rfl sc_Formula_degree.nd (pi_keys (pe_fld (pv 0) rfl)) (blkOk_by (own := [("row", 1)]) (N := ["self", "row"]) (sc := defScope s_Formula_degree) (by decide +kernel)) (fun _ _ _ _ _ => (pg_name (i := 1) sc_Formula_degree.nd rfl (.inl rfl))) (fun _ _ _ _ _ => pts_nil) (fun _ _ _ _ _ => (pe_callB call_len_str (by rfl) T.z_len PySem.boot_len (pa_cons (pv 1) pa_nil))))) pa_nil) (pk_cons pe_int pk_nil)))), ?_⟩
    obtain ⟨dx, d, kvs, e1, ha, hL⟩ := id hF
    have ad : a ≠ d := fun z => by rw [z, ha] at e1; cases e1
    have lk : kvs.length = f.length := hL.len
    refine ⟨d, .dK kvs, ha, trivial, fun od => ?_⟩
    have f4 : upd H d (.frz od (.dK kvs)) d = some (.frz od (.dK kvs)) := upd_same
    have a4 : upd H d (.frz od (.dK kvs)) a = some (.ins (FmC K) dx (putF "_terms" (.ref d) [])) := by rw [upd_ne ad]; exact e1
    have back : ∀ H5, Same (upd H d (.frz od (.dK kvs))) H5 → Same H (upd H5 d (.dK kvs)) := fun H5 s5 b o e => by
      by_cases z : b = d
      · rw [z, ha] at e
        cases e
        rw [z]
        exact upd_same
      · rw [upd_ne z]
        exact s5 _ _ (by rw [upd_ne z]; exact e)
    generalize upd H d (.frz od (.dK kvs)) = H4 at *
    refine ⟨_, rfl, a, _, dx, _, _, rfl, a4, T.cl_F, T.nT_F, rfl, d, od, rfl, .inl ⟨kvs, f4, fun D nD => ?_⟩⟩
    refine lc_it walk_keys (fun i H' => H' D = some (.lst (((f.take i).map fun p => ((p.1.length : Nat) : Int)).map V.int)) ∧ Same H4 H') ⟨upd_same, Same.upd nD⟩ (fun i H' _ h => h.2 _ _ f4) (fun i v H5 H6 hi h y => ?_) (fun H5 h => ?_)
    · obtain ⟨hD5, s5⟩ := h
      obtain ⟨rfl, k, v0, e0, rfl⟩ := y
      obtain ⟨q, eq, rfl, hr⟩ := hL.at_ e0
      have lq := l1000 _ (List.mem_of_getElem? eq)
      refine ⟨rfl, _, rfl, tx q.1, rfl, by rw [tx_len, sizeLine_eq]; omega, _, hD5, ?_, ?_, fun b o e => ?_⟩
      · rw [List.length_map, List.length_map, List.length_take, sizeLine_eq]
        omega
      · rw [upd_same, List.take_add_one, eq, List.map_append, List.map_append, tx_len]
        rfl
      · rw [upd_ne (ne_of_none e nD)]
        exact s5 _ _ e
    · obtain ⟨hD5, s5⟩ := h
      rw [lk, List.take_length] at hD5
      refine ⟨s5 _ _ f4, ?_⟩
      have Da : D ≠ d := fun z => by rw [z, f4] at nD; cases nD
      have s8 := back H5 s5
      have hD8 : upd H5 d (.dK kvs) D = some (.lst ((f.map fun p => ((p.1.length : Nat) : Int)).map V.int)) := by rw [upd_ne Da]; exact hD5
      generalize upd H5 d (.dK kvs) = H8 at *
      refine ⟨D, _, .int 0, rfl, rfl, SqL.of hD8, fun e => ?_, fun M h1 h2 => ?_⟩
      · have f0 : f = [] := List.map_eq_nil_iff.mp e
        rw [m2 f0] at q
        exact q _ s8
      · obtain ⟨p1, hp1, rfl⟩ := List.mem_map.mp h1
        have fn : f ≠ [] := fun z => by rw [z] at hp1; exact absurd hp1 (by simp)
        obtain ⟨p2, hp2, e2⟩ := m3 fn
        have z1 := h2 _ (List.mem_map.mpr ⟨p2, hp2, rfl⟩)
        have z2 := m1 p1 hp1
        have e3 : p1.1.length = m := by omega
        rw [e3]
        exact q _ s8
end

end Fo

set_option maxHeartbeats 4100000
namespace Fo
open PySem PySem.Spec PyProof.Rows L2
/-! ### the sum -/
open FoWd
/-- numbers that stay small while pairs are added to a table -/
def GrowT (t ps : Ps) : Prop := (∀ p ∈ ps, FoQ.SzR 1900 p.2) ∧ ∀ i w, FoQ.SzR 1900 ((look (accum t (ps.take i)) w).getD 0)
def spFAdd (K : PySem.W.Frag) : Sp := fun vs H Q _ => ∃ (a b : Addr) (f g : Ps) (N : Nat), vs = [.ref a, .ref b] ∧ FmAt K H a f ∧ FmAt K H b g ∧ (FoWd.keys f).Nodup ∧ Le N f ∧ Le N g ∧ N ≤ 60 ∧ f.length + g.length ≤ 200 ∧ GrowT f g ∧ Grow 1900 (accum f g) ∧
  ∀ p H', H p = none → Same H H' → FmN K H H' p (form N (f ++ g)) → Q (.ref p) H'
section
variable {P : Program} {w : World} {K : PySem.W.Frag} {mg : Str → Option Value} {base : Heap}
theorem ok_Fadd (T : Tx K mg) : FnOk P w K mg base CX0 8 (He.ma K (He.ga K "Formula") "__add__") T.fd_Formula_add ["self", "other"] (spFAdd K) := by
  refine T.F_Formula_add.ok sc_Formula_add (fun vs H Q E h => ?_) (fun cdv A outer s H vs Q E hr h => ?_)
  · obtain ⟨a, b, f, g, N, rfl, _⟩ := h
    rfl
  · obtain ⟨a, b, f, g, N, rfl, ⟨dx, d, kf, e1, e2, e3⟩, ⟨dy, u, kvs, f1, ha, hL⟩, hnf, hNf, hNg, n60, l200, hT, hG, Qr⟩ := h
    obtain ⟨ds, vd, bd⟩ := bind_init1 T
    refine ⟨_, (pss_cons (ps_set (i := 2) sc_Formula_add.nd rfl (.inl rfl) (pe_callTy call_dictD (by rfl) T.z_dict (by decide +kernel) (pa_cons (pe_fld (pv 0) rfl) pa_nil)))
      (pss_cons (ps_lock (ps_for PassesOwn.never rfl (pi_items (pe_fld (pv 1) rfl)) (pg_tup (by rfl) (pgs_cons (pg_name (i := 3) sc_Formula_add.nd rfl (.inl rfl)) (pgs_cons (pg_name (i := 4) sc_Formula_add.nd rfl (.inl rfl)) pgs_nil))) (pss_one (ps_dput (Nat.lt_of_le_of_lt (Nat.add_le_add_left (by decide) _) hr.units) (pv 2) (pv 3) (pe_op (FoA.op_own (ok_addQ T) (hr.mono (by decide)) T.b_Ratio_add pass0 T.bi_add FoN.int_add FoN.int_addR) (pe_dget2 (Nat.lt_of_le_of_lt (Nat.add_le_add_left (by decide) _) hr.units) (pv 2) (pv 3) (pe_make T.mk_R (ok_initQ T) (hr.mono (by decide)) (by rfl) T.c_Ratio bd vd pass0 (pa_cons pe_int pa_nil)) ⟨by rfl, by rfl, by rfl, by rfl⟩) (pv 4)) rfl))))
      (pss_one (ps_ret (pe_make T.mk_F (ok_Finit T) (hr.mono (by decide)) (by rfl) T.c_Formula T.b_Formula_init .nil pass0 (pa_cons (pv 2) pa_nil)))))), ?_⟩
    have lk : kvs.length = g.length := hL.len
    refine ⟨_, rfl, a, _, dx, _, _, rfl, e1, T.cl_F, T.nT_F, rfl, d, kf, rfl, .inl e2, fun p np => ?_⟩
    have pu : p ≠ u := fun z => by rw [z, ha] at np; cases np
    have bu : b ≠ u := fun z => by rw [z, ha] at f1; cases f1
    refine ⟨u, .dK kvs, by rw [upd_ne (Ne.symm pu)]; exact ha, trivial, fun od => ?_⟩
    have f0 : upd (upd H p (.dK kf)) u (.frz od (.dK kvs)) u = some (.frz od (.dK kvs)) := upd_same
    have p0 : upd (upd H p (.dK kf)) u (.frz od (.dK kvs)) p = some (.dK kf) := by rw [upd_ne pu]; exact upd_same
    have s0 : ∀ b o, H b = some o → b ≠ u → upd (upd H p (.dK kf)) u (.frz od (.dK kvs)) b = some o := fun b o e n => by
      rw [upd_ne n, upd_ne (fun z => by rw [z, np] at e; cases e)]
      exact e
    have b0 := s0 _ _ f1 bu
    have l0 : DL (Rr K) (upd (upd H p (.dK kf)) u (.frz od (.dK kvs))) kf f := e3.nld rr_solidD (fun b o e n => s0 b o e (fun z => by rw [z, ha] at e; cases e; exact n))
    generalize upd (upd H p (.dK kf)) u (.frz od (.dK kvs)) = H1 at *
    refine ⟨_, rfl, b, _, dy, _, _, rfl, b0, T.cl_F, T.nT_F, rfl, u, od, kvs, rfl, f0, ?_⟩
    refine for_it walk_items (fun i σ H2 => ∃ kt o3 o4, σ = [some (.ref a), some (.ref b), some (.ref p), o3, o4] ∧ H2 u = some (.frz od (.dK kvs)) ∧ H2 p = some (.dK kt) ∧ DL (Rr K) H2 kt (accum f (g.take i)) ∧ ∀ b o, H b = some o → b ≠ u → H2 b = some o)
      ⟨kf, none, none, rfl, f0, p0, l0, s0⟩ (fun i σ H2 _ ⟨_, _, _, _, h, _⟩ => h) (fun i v σ H2 H3 hi h y => ?_) (fun σ H2 h => ?_)
    · obtain ⟨kt, o3, o4, rfl, fa, hp, hD, hs⟩ := h
      obtain ⟨tp, k1, v1, rfl, ntp, rfl, ek, ev⟩ := y
      obtain ⟨⟨k0, v0⟩, e0⟩ : ∃ q, kvs[i]? = some q := ⟨_, List.getElem?_eq_getElem hi⟩
      dsimp only at ek ev
      rw [e0] at ek ev
      obtain ⟨q, eq, hk, r, hv, hr⟩ := hL.at_ e0
      obtain ⟨qw, qx⟩ := q
      have ek2 : V.str (tx qw) = k1 := by
        have z := Option.some.inj ek
        rw [hk] at z
        exact z
      have ev2 : V.ref r = v1 := by
        have z := Option.some.inj ev
        rw [hv] at z
        exact z
      subst ek2 ev2
      dsimp only at hr
      have mq := List.mem_of_getElem? eq
      have z1 := hT.1 _ mq
      have z2 := hT.2 i qw
      have s3 := Same.upd ntp (o := .tup [V.str (tx qw), V.ref r])
      have t3 : upd H2 tp (.tup [V.str (tx qw), V.ref r]) tp = some (.tup [V.str (tx qw), V.ref r]) := upd_same
      have fa3 := s3 _ _ fa
      have hp3 := s3 _ _ hp
      have hD3 := hD.nld rr_solidD (same_nld s3)
      have ru : r ≠ u := fun z => by
        obtain ⟨dx, e⟩ := hr
        rw [z, ha] at e
        cases e
      have hr3 : RtAt K (upd H2 tp (.tup [V.str (tx qw), V.ref r])) r qx := by
        obtain ⟨dx, e⟩ := hr
        exact ⟨dx, s3 _ _ (hs _ _ e ru)⟩
      have hs3 : ∀ b o, H b = some o → b ≠ u → upd H2 tp (.tup [V.str (tx qw), V.ref r]) b = some o := fun b o e n => s3 _ _ (hs b o e n)
      generalize upd H2 tp (.tup [V.str (tx qw), V.ref r]) = H3 at *
      refine ⟨tp, _, rfl, SqT.of t3, rfl, _, _, rfl, _, _, rfl, rfl, ?_⟩
      refine ⟨_, rfl, p, rfl, .inl ⟨kt, .inl hp3⟩, _, rfl, ?_⟩
      refine rq_make (r := 0) (by decide) (sz_of 1000000 (by decide) (by decide) (by decide)) rfl fun p0 H4 np0 s4 h0 => ⟨rfl, ?_⟩
      have hp4 := s4 _ _ hp3
      have hr4 := hr3.same s4
      obtain ⟨dr, hr5⟩ := id hr4
      have got : ∃ o, DGet H4 p (.str (tx qw)) o ∧ ∃ b, o.getD (.ref p0) = .ref b ∧ RtAt K H4 b ((look (accum f (g.take i)) qw).getD 0) := by
        refine ⟨_, .inl ⟨kt, .inr (tx qw), .inl hp4, rfl, rfl⟩, ?_⟩
        rcases hD3.look (w := qw) with ⟨l1, l2⟩ | ⟨x, v, l1, l2, b, rfl, hb⟩
        · rw [l1, l2]
          exact ⟨p0, rfl, h0⟩
        · rw [l1, l2]
          exact ⟨b, rfl, hb.same s4⟩
      obtain ⟨o, g1, bb, g2, hb⟩ := got
      refine ⟨o, g1, ?_⟩
      rw [g2]
      obtain ⟨db, hb5⟩ := id hb
      refine ⟨_, rfl, bb, db, _, rfl, hb5, .inr ⟨r, dr, _, rfl, hr5⟩, bb, .ref r, _, _, rfl, hb, .inl ⟨r, rfl, hr4⟩, trivial, z2, z1, fun p5 H5 np5 s5 h5 => ?_⟩
      have hp5 := s5 _ _ hp4
      refine ⟨_, rfl, _, rfl, p, _, rfl, .inl ⟨kt, .inr (tx qw), hp5, rfl, ?_, rfl⟩, _, _, _, rfl, ?_, upd_same, ?_, fun b o e n => ?_⟩
      · have z := (accum_all hnf (g.take i)).2.2.1
        rw [← hD3.len, List.length_take] at z
        rw [sizeLine_eq]
        omega
      · rw [upd_ne (Ne.symm pu)]
        exact s5 _ _ (s4 _ _ fa3)
      · rw [accum_take eq]
        unfold addTo
        exact DL.put ((hD3.nld rr_solidD (same_nld (s4.trans s5))).nld rr_solidD (nld_upd hp5 id)) (accum_all hnf (g.take i)).1 ⟨p5, rfl, rtAt_nld h5 (nld_upd hp5 id)⟩
      · rw [upd_ne (fun z => by rw [z, np] at e; cases e)]
        exact s5 _ _ (s4 _ _ (hs3 b o e n))
    · obtain ⟨kt, o3, o4, rfl, fa, hp, hD, hs⟩ := h
      refine ⟨fa, ?_⟩
      rw [lk, List.take_length] at hD
      have hp6 : upd H2 u (.dK kvs) p = some (.dK kt) := by rw [upd_ne pu]; exact hp
      have s6 : Same H (upd H2 u (.dK kvs)) := fun b o e => by
        by_cases z : b = u
        · rw [z, ha] at e
          cases e
          rw [z]
          exact upd_same
        · rw [upd_ne z]
          exact hs b o e z
      have hD6 : DL (Rr K) (upd H2 u (.dK kvs)) kt (accum f g) := hD.nld rr_solidD (nld_upd fa id)
      generalize upd H2 u (.dK kvs) = H3 at *
      obtain ⟨an, _, al, _⟩ := accum_all hnf g
      refine ⟨_, rfl, fm_make hp6 (Paired.mapP hD6 fun kv q ⟨e1, b, e2, e3⟩ => ⟨e1, .inl ⟨b, e2, e3⟩⟩) an (le_accum hnf hNf hNg) n60 (by omega) hG fun p9 H9 np9 s9 hF => ⟨rfl, ?_⟩⟩
      rw [form_accum hnf] at hF
      exact Qr p9 H9 (s6.free np9) (s6.trans s9) (hF.back s6)
end

end Fo

set_option maxHeartbeats 4100000
namespace Fo
open PySem PySem.Spec PyProof.Rows L2
/-! ### the difference -/
open FoWd
def spFSub (K : PySem.W.Frag) : Sp := fun vs H Q _ => ∃ (a b : Addr) (f g : Ps) (N : Nat), vs = [.ref a, .ref b] ∧ FmAt K H a f ∧ FmAt K H b g ∧ (FoWd.keys f).Nodup ∧ (FoWd.keys g).Nodup ∧ Le N f ∧ Le N g ∧ N ≤ 60 ∧ g.length ≤ 200 ∧ f.length + (form N (scl (-1) g)).length ≤ 200 ∧ (∀ p ∈ g, FoQ.SzR 1900 p.2) ∧ Grow 1900 (scl (-1) g) ∧
  GrowT f (form N (scl (-1) g)) ∧ Grow 1900 (accum f (form N (scl (-1) g))) ∧ ∀ p H', H p = none → Same H H' → FmN K H H' p (form N (f ++ scl (-1) g)) → Q (.ref p) H'
section
variable {P : Program} {w : World} {K : PySem.W.Frag} {mg : Str → Option Value} {base : Heap}
theorem ok_Fsub (T : Tx K mg) : FnOk P w K mg base CX0 10 (He.ma K (He.ga K "Formula") "__sub__") T.fd_Formula_sub ["self", "other"] (spFSub K) := by
  refine T.F_Formula_sub.ok sc_Formula_sub (fun vs H Q E h => ?_) (fun cdv A outer s H vs Q E hr h => ?_)
  · obtain ⟨a, b, f, g, N, rfl, _⟩ := h
    rfl
  · obtain ⟨a, b, f, g, N, rfl, hF, hG, nf, ng, lf, lg, n60, l1, l2, z1, z2, z3, z4, q⟩ := h
    refine ⟨_, (pss_one (ps_ret (pe_op (FoA.op_own (ok_Fadd T) (hr.mono (by decide)) T.b_Formula_add pass0 T.biF_add FoN.int_add FoN.int_addR) (pv 0) (pe_un (FoA.un_own (ok_Fneg T) (hr.mono (by decide)) T.b_Formula_neg pass0 T.mF_neg.at_ T.mF_neg.fn) (pv 1))))), ?_⟩
    obtain ⟨dx, d, kf, e1, e2, e3⟩ := id hF
    obtain ⟨dy, u, kg, f1, f2, f3⟩ := id hG
    refine ⟨_, rfl, _, rfl, b, dy, _, rfl, f1, b, g, N, rfl, hG, ng, lg, n60, l1, z1, z2, fun p H1 np s1 hp => ?_⟩
    have hp := hp.at
    obtain ⟨dz, u2, kz, g1, g2, g3⟩ := id hp
    refine ⟨a, dx, _, rfl, s1 _ _ e1, .inr ⟨p, dz, _, rfl, g1⟩, a, p, f, form N (scl (-1) g), N, rfl, hF.same s1, hp, nf, lf, form_le N _, n60, l2, z3, z4, fun p2 H2 np2 s2 h2 => ?_⟩
    refine q p2 H2 (s1.free np2) (s1.trans s2) ?_
    have e : form N (f ++ form N (scl (-1) g)) = form N (f ++ scl (-1) g) := form_ext fun a => by rw [coef_app, coef_app, coef_form (le_scl lg)]
    rw [← e]
    exact h2.back s1
end

end Fo

set_option maxHeartbeats 4100000
namespace Fo
open PySem PySem.Spec PyProof.Rows L2
/-! ### the opposite -/
open FoWd
/-- the formula 1 -/
def one : Ps := [([], 1)]
theorem one_grow : Grow 1900 one := by
  have z1 : FoQ.SzR 1900 (1 : Rat) := by
    have z : FoQ.SzR 20 (1 : Rat) := ⟨sz_of 1000000 (by decide) (by decide) (by decide), sz_of 1000000 (by decide) (by decide) (by decide)⟩
    exact z.mono (by decide)
  have z0 : FoQ.SzR 1900 (0 : Rat) := FoQ.SzR.zero (by decide)
  refine ⟨fun p hp => by rw [List.mem_singleton.mp hp]; exact z1, fun i a => ?_⟩
  cases i with
  | zero => exact z0
  | succ i =>
    have e : coef (one.take (i + 1)) a = 1 * ind a [] + 0 := by
      show coef (([], (1 : Rat)) :: List.take i []) a = _
      rw [List.take_nil]
      rfl
    rw [e]
    unfold ind
    split
    · rw [show (1 : Rat) * 1 + 0 = 1 by grind]
      exact z1
    · rw [show (1 : Rat) * 0 + 0 = 0 by grind]
      exact z0
theorem form_one (N : Nat) : form N one = one := by
  have co : ∀ a, coef one a = if ([] : Wd) = a then 1 else 0 := fun a => by
    show (1 : Rat) * ind a [] + 0 = _
    unfold ind
    show (1 : Rat) * (if ([] : Wd) = a then 1 else 0) + 0 = _
    grind
  have key : ∀ n, (AW n).filterMap (fun a => if coef one a = 0 then none else some (a, coef one a)) = one := by
    intro n
    induction n with
    | zero =>
      show List.filterMap _ [[]] = one
      rw [List.filterMap_cons, co]
      rw [if_pos rfl, if_neg (by decide)]
      rfl
    | succ n ih =>
      show List.filterMap _ (AW n ++ [alt true (n + 1), alt false (n + 1)]) = one
      rw [List.filterMap_append, ih]
      have e : ∀ b, coef one (alt b (n + 1)) = 0 := fun b => by
        rw [co, if_neg]
        intro z
        cases z
      rw [List.filterMap_cons, List.filterMap_cons, e, e, if_pos rfl]
      rfl
  exact key N
def spOpp (K : PySem.W.Frag) : Sp := fun vs H Q _ => ∃ (b : Addr) (g : Ps) (N : Nat), vs = [.ref b] ∧ FmAt K H b g ∧ (FoWd.keys g).Nodup ∧ Le N g ∧ N ≤ 60 ∧ g.length ≤ 100 ∧ (form N (scl (-1) g)).length ≤ 100 ∧ (∀ p ∈ g, FoQ.SzR 1900 p.2) ∧ Grow 1900 (scl (-1) g) ∧
  GrowT one (form N (scl (-1) g)) ∧ Grow 1900 (accum one (form N (scl (-1) g))) ∧ ∀ p H', H p = none → Same H H' → FmN K H H' p (form N (one ++ scl (-1) g)) → Q (.ref p) H'
section
variable {P : Program} {w : World} {K : PySem.W.Frag} {mg : Str → Option Value} {base : Heap}
theorem ok_opp (T : Tx K mg) : FnOk P w K mg base CX0 12 (He.ga K "opposite") T.fd_opposite ["formula"] (spOpp K) := by
  refine T.F_opposite.ok sc_opposite (fun vs H Q E h => ?_) (fun cdv A outer s H vs Q E hr h => ?_)
  · obtain ⟨b, g, N, rfl, _⟩ := h
    rfl
  · obtain ⟨b, g, N, rfl, hG, ng, lg, n60, l1, l2, z1, z2, z3, z4, q⟩ := h
    refine ⟨_, (pss_one (ps_ret (pe_op (FoA.op_own (ok_Fsub T) (hr.mono (by decide)) T.b_Formula_sub pass0 T.biF_sub FoN.int_sub FoN.int_subR) (pe_make T.mk_F (ok_Finit T) (hr.mono (by decide)) (by rfl) T.c_Formula T.b_Formula_init .nil pass0 (pa_cons (pe_disp (pps_cons pe_str pe_int pps_nil) rfl rfl (by simp) (by decide)) pa_nil)) (pv 0)))), ?_⟩
    refine fun p np => ⟨upd_same, [(.inr (tx []), .int 1)], rfl, by decide, ?_⟩
    have s0 := Same.upd np (o := .dK [])
    have g1 : upd (upd H p (.dK [])) p (.dK (mergeK [] [(.inr (tx []), .int 1)])) p = some (.dK [(.inr (tx []), .int 1)]) := by
      rw [upd_same]
      rfl
    have s1 : Same H (upd (upd H p (.dK [])) p (.dK (mergeK [] [(.inr (tx []), .int 1)]))) := by
      rw [upd_upd]
      exact Same.upd np
    generalize upd (upd H p (.dK [])) p (.dK (mergeK [] [(.inr (tx []), .int 1)])) = H1 at *
    refine fm_make (ps := one) (N := N) g1 (.cons ⟨rfl, .inr ⟨1, rfl, rfl⟩⟩ .nil) (by simp [one, FoWd.keys]) (fun p hp => by rw [List.mem_singleton.mp hp]; exact Nat.zero_le _) n60 (by show 1 ≤ 200; decide) one_grow fun a H2 na s2 ha => ⟨rfl, ?_⟩
    rw [form_one] at ha
    have ha := ha.at
    have hG2 := (hG.same s1).same s2
    obtain ⟨dx, d, kf, e1, e2, e3⟩ := id ha
    obtain ⟨dy, u, kg, f1, f2, f3⟩ := id hG2
    refine ⟨_, rfl, a, dx, _, rfl, e1, .inr ⟨b, dy, _, rfl, f1⟩, a, b, one, g, N, rfl, ha, hG2, by simp [one, FoWd.keys], ng, fun p hp => by rw [List.mem_singleton.mp hp]; exact Nat.zero_le _, lg, n60, by omega, by show 1 + _ ≤ 200; omega, z1, z2, z3, z4, fun p9 H9 np9 s9 h9 => ?_⟩
    exact q p9 H9 (s1.free (s2.free np9)) (s1.trans (s2.trans s9)) ((h9.back s2).back s1)
end

end Fo

set_option maxHeartbeats 4100000
namespace Fo
open PySem PySem.Spec PyProof.Rows L2
/-! ### rows turned, multiplied -/
open FoWd
theorem eqW_data {X : Cx} {n : Nat} {H : Hp} {x y : V} {d e : PyData} (hd : Dp X.K H x d) (he : Dp X.K H y e) (sd : PyData.canLay0 d = true) (se : PyData.canLay0 e = true) (hu : (FoG.inN n X.A).units + min d.depth e.depth < cLine) : FoG.EqW X n H x y (PyData.eqv d e) := by
  intro pz τ s v u Q I rv ru h
  obtain ⟨as, r1⟩ := Dp.reads I d x v hd rv
  obtain ⟨bs, r2⟩ := Dp.reads I e y u he ru
  exact SeqAt.eqBoolOverData _ _ _ _ _ _ _ _ _ _ _ _ r1 r2 sd se hu (h s I)
theorem eqW_rq {X : Cx} {n : Nat} (hr : Room (2 + n) X.A) {H : Hp} {a b : Addr} {x z : Rat} (ha : FrQ H a x) (hz : FrQ H b z) : FoG.EqW X n H (.ref a) (.ref b) (decide (x = z)) := by
  rw [← tq_eqv]
  refine eqW_data (dp_q ha) (dp_q hz) rfl rfl ?_
  have h1 := (FoG.inN_room (k := 2) (n := n) hr).units
  have h2 : min (tq x).depth (tq z).depth = 1 := rfl
  rw [h2]
  omega
theorem hits_rq {X : Cx} (hr : Room 3 X.A) {H : Hp} {kb : List (Key × V)} {g : Ps} (hg : DL Rq H kb g) {ka : List (Key × V)} {f : Ps} (h : DL Rq H ka f) : FoDq.Hits X 1 H kb ka (f.all fun p => decide (look g p.1 = some p.2)) := by
  induction h with
  | nil => exact .nil
  | @cons a b l1 l2 r t ih =>
    obtain ⟨ak, av⟩ := a
    obtain ⟨r1, c, rfl, hc⟩ := r
    dsimp only at r1
    subst r1
    rw [List.all_cons]
    rcases hg.look (w := b.1) with ⟨l1, l2⟩ | ⟨x, v, l1, l2, e, rfl, he⟩
    · rw [l1]
      exact .miss l2
    · rw [l1]
      have e1 : decide (some x = some b.2) = decide (b.2 = x) := decide_eq_decide.mpr ⟨fun z => (Option.some.inj z).symm, fun z => by rw [z]⟩
      rw [e1]
      exact .hit l2 (eqW_rq hr hc he) ih
theorem els_q {H H' : Hp} {d u : Addr} {kv kw kvs : List (Key × V)} {f : Ps} (hd : H d = some (.dK kv)) (hu : H u = some (.dK kw)) (s : FoDq.Els d u H H') (h : DL Rq H kvs f) : DL Rq H' kvs f :=
  Paired.mapP h fun a b ⟨e, c, e2, e3⟩ => ⟨e, c, e2, s _ _ (fun z => by
    have e3 : H c = some (qt b.2) := e3
    rw [z, hd] at e3; cases e3) (fun z => by
    have e3 : H c = some (qt b.2) := e3
    rw [z, hu] at e3; cases e3) e3⟩
/-- two forms compared, as dicts of fractions -/
theorem eq_forms {X : Cx} (hr : Room 3 X.A) {H : Hp} {a b : Addr} {ka kb : List (Key × V)} {N : Nat} {ps qs : Ps} {Q : VK} (ha : H a = some (.dK ka)) (hb : H b = some (.dK kb)) (la : DL Rq H ka (form N ps)) (lb : DL Rq H kb (form N qs)) (q : Q (.bl (decide (form N ps = form N qs))) H) :
    FoDq.rEqDo X (.ref a) (.ref b) H Q := by
  refine ⟨a, b, ka, kb, (form N ps).all fun p => decide (look (form N qs) p.1 = some p.2), rfl, rfl, ha, hb, fun H' hel _ => hits_rq hr (els_q ha hb hel lb) (els_q ha hb hel la), ?_⟩
  rw [la.len, lb.len, form_eq_bool]
  exact q
theorem LP.cat {H : Hp} {a b : Addr} {ps qs : Ps} (ha : LP H a ps) (hb : LP H b qs) : ∃ xs zs, H a = some (.lst xs) ∧ H b = some (.lst zs) ∧ xs.length = ps.length ∧ zs.length = qs.length ∧ ∀ p, H p = none → LP (upd H p (.lst (xs ++ zs))) p (ps ++ qs) := by
  obtain ⟨xs, e1, h1⟩ := ha
  obtain ⟨zs, e2, h2⟩ := hb
  refine ⟨xs, zs, e1, e2, Paired.length h1, Paired.length h2, fun p np => ⟨_, upd_same, ?_⟩⟩
  have s := same_nld (Same.upd np (o := .lst (xs ++ zs)))
  have h3 := Paired.mapP h1 fun v p q => q.nld s
  have h4 := Paired.mapP h2 fun v p q => q.nld s
  generalize upd H p (.lst (xs ++ zs)) = H' at *
  clear e1 e2 s h1 h2
  induction h3 with
  | nil => exact h4
  | cons r t ih => exact .cons r ih
theorem mul_at {ps qs : Ps} {i j : Nat} {p q : Wd × Rat} (e1 : ps[i]? = some p) (e2 : qs[j]? = some q) : mul (ps.take i) qs ++ row1 p (qs.take (j + 1)) = (mul (ps.take i) qs ++ row1 p (qs.take j)) ++ [(p.1 ++ q.1, p.2 * q.2)] := by
  rw [row_take e2, List.append_assoc]
section
variable {P : Program} {w : World} {K : PySem.W.Frag} {mg : Str → Option Value} {base : Heap}
theorem ok_turnedL (T : Tx K mg) : FnOk P w K mg base CX0 1 (He.ga K "_law_turned") T.fd_turned ["_law_pairs_here"] (spLP1 turn (Le 60)) := by
  refine T.F_turned.ok sc_turned (fun vs H Q E h => ?_) (fun cdv A outer s H vs Q E hr h => ?_)
  · obtain ⟨a, ps, rfl, _⟩ := h
    rfl
  · obtain ⟨a, ps, rfl, hA, l200, hC, q⟩ := h
    refine ⟨_, (pss_one (ps_ret (pe_lc (own := [("_law_row_here", 1), ("_law_x", 2)])  rfl sc_turned.nd (pi_list (pv 0)) (blkOk_by (own := [("_law_row_here", 1), ("_law_x", 2)]) (N := ["_law_pairs_here", "_law_row_here", "_law_x"]) (sc := defScope s_turned) (by decide +kernel)) (fun _ _ _ _ _ => (FoK.pg_tupK (K' := K) (n := 2) rfl (by rfl) (pgs_cons (pg_name (i := 1) sc_turned.nd rfl (.inl rfl)) (pgs_cons (pg_name (i := 2) sc_turned.nd rfl (.inl rfl)) pgs_nil)))) (fun _ _ _ _ _ => pts_nil) (fun _ _ _ _ _ => (pe_tup (pa_cons (FoRv.pe_revS (pv 1) (pe_un un_neg pe_int)) (pa_cons (pv 2) pa_nil))))))), ?_⟩
    obtain ⟨vs, ha, hP⟩ := hA
    have lv := Paired.length hP
    have lt : (turn ps).length = ps.length := List.length_map _
    refine ⟨_, rfl, a, rfl, ⟨_, SqL.of ha⟩, fun D nD => ?_⟩
    refine lc_list (LPI (turn ps) H D) (LPI.start nD) (fun i H' _ h => SqL.of (h.1 _ _ ha)) (fun i x H2 ex h => ?_) (fun H2 h => ?_)
    · obtain ⟨p, ep, tq, r, rfl, hq, hr⟩ := paired_get hP ex
      have hq2 := h.1 _ _ hq
      have lw : p.1.length ≤ 60 := hC _ (List.mem_of_getElem? ep)
      have rv : FoRv.revS (tx p.1) = tx p.1.reverse := by
        refine TL.ext_tl ?_
        show ((p.1.map lcode).reverse : List Nat) = p.1.reverse.map lcode
        rw [List.map_reverse]
      refine ⟨tq, _, rfl, SqT.of hq2, rfl, _, _, rfl, _, _, rfl, rfl, rfl, ?_⟩
      refine ⟨_, rfl, 1, rfl, rfl, tx p.1, rfl, by rw [tx_size]; omega, ?_⟩
      rw [rv]
      refine ⟨_, rfl, (by show 2 ≤ sizeLine; rw [sizeLine_eq]; decide), fun t nt => ?_⟩
      have st := Same.upd nt (o := .tup [.str (tx p.1.reverse), .ref r])
      exact h.next nD st (turn_at ep) ⟨t, r, rfl, upd_same, st _ _ (h.1 _ _ hr)⟩ (by omega)
    · rw [lv, ← lt] at h
      exact q D H2 nD h.1 h.done
theorem ok_lessL (T : Tx K mg) : FnOk P w K mg base CX0 3 (He.ga K "_law_less_all") T.fd_less_all ["_law_pairs_here"] (spLP1 (scl (-1)) fun ps => ∀ p ∈ ps, FoQ.SzR 1900 p.2) := by
  refine T.F_less_all.ok sc_less_all (fun vs H Q E h => ?_) (fun cdv A outer s H vs Q E hr h => ?_)
  · obtain ⟨a, ps, rfl, _⟩ := h
    rfl
  · obtain ⟨a, ps, rfl, hA, l200, hC, q⟩ := h
    refine ⟨_, (pss_one (ps_ret (pe_lc (own := [("_law_row_here", 1), ("_law_x", 2)])  rfl sc_less_all.nd (pi_list (pv 0)) (blkOk_by (own := [("_law_row_here", 1), ("_law_x", 2)]) (N := ["_law_pairs_here", "_law_row_here", "_law_x"]) (sc := defScope s_less_all) (by decide +kernel)) (fun _ _ _ _ _ => (FoK.pg_tupK (K' := K) (n := 2) rfl (by rfl) (pgs_cons (pg_name (i := 1) sc_less_all.nd rfl (.inl rfl)) (pgs_cons (pg_name (i := 2) sc_less_all.nd rfl (.inl rfl)) pgs_nil)))) (fun _ _ _ _ _ => pts_nil) (fun _ _ _ _ _ => (pe_tup (pa_cons (pv 1) (pa_cons (pe_call (ok_minusQ T) (hr.mono (by decide)) (by rfl) T.g_minus T.F_minus.kp T.b_minus .nil pass0 (pa_cons (pe_tup (pa_cons pe_int (pa_cons pe_int pa_nil))) (pa_cons (pv 2) pa_nil))) pa_nil))))))), ?_⟩
    obtain ⟨vs, ha, hP⟩ := hA
    have lv := Paired.length hP
    have lt : (scl (-1) ps).length = ps.length := List.length_map _
    refine ⟨_, rfl, a, rfl, ⟨_, SqL.of ha⟩, fun D nD => ?_⟩
    refine lc_list (LPI (scl (-1) ps) H D) (LPI.start nD) (fun i H' _ h => SqL.of (h.1 _ _ ha)) (fun i x H2 ex h => ?_) (fun H2 h => ?_)
    · obtain ⟨p, ep, tq, r, rfl, hq, hr⟩ := paired_get hP ex
      have hq2 := h.1 _ _ hq
      have zp := hC _ (List.mem_of_getElem? ep)
      refine ⟨tq, _, rfl, SqT.of hq2, rfl, _, _, rfl, _, _, rfl, rfl, rfl, ?_⟩
      refine ⟨_, rfl, (by show 2 ≤ sizeLine; rw [sizeLine_eq]; decide), fun p0 np0 => ?_⟩
      have s0 := Same.upd np0 (o := .tup [.int 0, .int 1])
      have h0 : FrQ (upd H2 p0 (.tup [.int 0, .int 1])) p0 0 := upd_same
      have hr0 : FrQ (upd H2 p0 (.tup [.int 0, .int 1])) r p.2 := s0 _ _ (h.1 _ _ hr)
      generalize upd H2 p0 (.tup [.int 0, .int 1]) = H3 at *
      refine ⟨_, rfl, p0, r, 0, p.2, rfl, h0, hr0, FoQ.SzR.zero (by decide), zp, fun p5 np5 => ?_⟩
      have s5 := Same.upd np5 (o := qt (0 - p.2))
      have h5 : FrQ (upd H3 p5 (qt (0 - p.2))) p5 (0 - p.2) := upd_same
      generalize upd H3 p5 (qt (0 - p.2)) = H4 at *
      refine ⟨(by show 2 ≤ sizeLine; rw [sizeLine_eq]; decide), fun t nt => ?_⟩
      have st := Same.upd nt (o := .tup [.str (tx p.1), .ref p5])
      refine h.next nD (s0.trans (s5.trans st)) (scl_at ep) ⟨t, p5, rfl, upd_same, ?_⟩ (by omega)
      have e : -1 * p.2 = 0 - p.2 := by grind
      show FrQ _ _ (-1 * p.2)
      rw [e]
      exact st _ _ h5
    · rw [lv, ← lt] at h
      exact q D H2 nD h.1 h.done
theorem ok_multL (T : Tx K mg) : FnOk P w K mg base CX0 3 (He.ga K "_law_multiplied") T.fd_multiplied ["_law_one", "_law_other"] (spLP2 mul fun ps => (∀ p ∈ ps, FoQ.SzR 1900 p.2) ∧ Le 60 ps) := by
  refine T.F_multiplied.ok sc_multiplied (fun vs H Q E h => ?_) (fun cdv A outer s H vs Q E hr h => ?_)
  · obtain ⟨a, b, ps, qs, rfl, _⟩ := h
    rfl
  · obtain ⟨a, b, ps, qs, rfl, hA, hB, l1, l2, ⟨zA, cA⟩, ⟨zB, cB⟩, q⟩ := h
    refine ⟨_, (pss_cons (ps_set (i := 2) sc_multiplied.nd rfl (.inl rfl) (pe_lst pa_nil))
      (pss_cons (ps_for PassesOwn.never rfl (pi_list (pv 0)) (pg_tup (by rfl) (pgs_cons (pg_name (i := 3) sc_multiplied.nd rfl (.inl rfl)) (pgs_cons (pg_name (i := 4) sc_multiplied.nd rfl (.inl rfl)) pgs_nil))) (pss_one (ps_for PassesOwn.never rfl (pi_list (pv 1)) (pg_tup (by rfl) (pgs_cons (pg_name (i := 5) sc_multiplied.nd rfl (.inl rfl)) (pgs_cons (pg_name (i := 6) sc_multiplied.nd rfl (.inl rfl)) pgs_nil))) (pss_one (ps_expr (pe_bm PySem.F.plainAttrs_list PySem.F.slot_list_append PySem.F.type_list_append mt_append (pv 2) (pa_cons (pe_tup (pa_cons (pe_op op_add_str (pv 3) (pv 5)) (pa_cons (pe_call (ok_timesQ T) (hr.mono (by decide)) (by rfl) T.g_times T.F_times.kp T.b_times .nil pass0 (pa_cons (pv 4) (pa_cons (pv 6) pa_nil))) pa_nil))) pa_nil)))))))
      (pss_one (ps_ret (pv 2))))), ?_⟩
    obtain ⟨vs, ha, hP⟩ := hA
    obtain ⟨us, hb, hQ⟩ := hB
    have lv := Paired.length hP
    have lu := Paired.length hQ
    refine ⟨(by show 0 ≤ sizeLine; rw [sizeLine_eq]; decide), fun D nD => ?_⟩
    have s0 := Same.upd nD (o := .lst [])
    have d0 : upd H D (.lst []) D = some (.lst []) := upd_same
    generalize upd H D (.lst []) = H0 at *
    refine ⟨_, rfl, a, rfl, ⟨_, SqL.of (s0 _ _ ha)⟩, ?_⟩
    refine for_list (xs := vs) (fun i σ H2 => Same H H2 ∧ (∃ ws, H2 D = some (.lst ws) ∧ Paired (PrAt H2) ws (mul (ps.take i) qs)) ∧ ∃ o3 o4 o5 o6, σ = [some (.ref a), some (.ref b), some (.ref D), o3, o4, o5, o6])
      ⟨s0, ⟨[], d0, by rw [List.take_zero]; exact .nil⟩, none, none, none, none, rfl⟩ (fun i σ H2 _ h => SqL.of (h.1 _ _ ha)) ?_ ?_
    · rintro i v σ H2 ev ⟨s2, ⟨ws, e2, hW⟩, o3, o4, o5, o6, rfl⟩
      obtain ⟨p, ep, tq, r, rfl, hq, hr⟩ := paired_get hP ev
      have zp := zA _ (List.mem_of_getElem? ep)
      have cp := cA _ (List.mem_of_getElem? ep)
      have hi := (List.getElem?_eq_some_iff.mp ep).1
      refine ⟨tq, _, rfl, SqT.of (s2 _ _ hq), rfl, _, _, rfl, _, _, rfl, rfl, ?_⟩
      refine ⟨_, rfl, b, rfl, ⟨_, SqL.of (s2 _ _ hb)⟩, ?_⟩
      refine for_list (xs := us) (fun j σ H3 => Same H H3 ∧ (∃ ws, H3 D = some (.lst ws) ∧ Paired (PrAt H3) ws (mul (ps.take i) qs ++ row1 p (qs.take j))) ∧ ∃ o5 o6, σ = [some (.ref a), some (.ref b), some (.ref D), some (.str (tx p.1)), some (.ref r), o5, o6])
        ⟨s2, ⟨ws, e2, by rw [show row1 p (qs.take 0) = [] from rfl, List.append_nil]; exact hW⟩, _, _, rfl⟩ (fun i σ H2 _ h => SqL.of (h.1 _ _ hb)) ?_ ?_
      · rintro j v σ H3 ev2 ⟨s3, ⟨ws, e3, hW⟩, o5, o6, rfl⟩
        obtain ⟨p2, ep2, tq2, r2, rfl, hq2, hr2⟩ := paired_get hQ ev2
        have zp2 := zB _ (List.mem_of_getElem? ep2)
        have cp2 := cB _ (List.mem_of_getElem? ep2)
        have hj := (List.getElem?_eq_some_iff.mp ep2).1
        have lw : ws.length ≤ 2500 := by
          have z := Paired.length hW
          rw [List.length_append, mul_len, List.length_take] at z
          unfold row1 at z
          rw [List.length_map, List.length_take] at z
          have h1 : min i ps.length ≤ 49 := by omega
          have h2 := Nat.mul_le_mul h1 l2
          omega
        refine ⟨tq2, _, rfl, SqT.of (s3 _ _ hq2), rfl, _, _, rfl, _, _, rfl, rfl, ?_⟩
        refine ⟨_, rfl, .inl ⟨rfl, _, SqL.of e3⟩, ?_⟩
        refine ⟨_, rfl, _, rfl, _, _, rfl, rfl, by rw [tx_len, tx_len, sizeLine_eq]; omega, ?_⟩
        rw [tx_app]
        refine ⟨_, rfl, _, rfl, r, r2, p.2, p2.2, rfl, s3 _ _ hr, s3 _ _ hr2, zp, zp2, fun p5 np5 => ?_⟩
        have s5 := Same.upd np5 (o := qt (p.2 * p2.2))
        have h5 : FrQ (upd H3 p5 (qt (p.2 * p2.2))) p5 (p.2 * p2.2) := upd_same
        generalize upd H3 p5 (qt (p.2 * p2.2)) = H4 at *
        refine ⟨(by show 2 ≤ sizeLine; rw [sizeLine_eq]; decide), fun t nt => ?_⟩
        have st := Same.upd nt (o := .tup [.str (tx (p.1 ++ p2.1)), .ref p5])
        have ht : upd H4 t (.tup [.str (tx (p.1 ++ p2.1)), .ref p5]) t = some (.tup [.str (tx (p.1 ++ p2.1)), .ref p5]) := upd_same
        have h5 := st _ _ h5
        have s35 := s5.trans st
        generalize upd H4 t (.tup [.str (tx (p.1 ++ p2.1)), .ref p5]) = H5 at *
        have e5 := s35 _ _ e3
        refine ⟨D, _, _, rfl, rfl, e5, by rw [sizeLine_eq]; omega, ?_⟩
        refine ⟨fun c o e0 => ?_, ⟨_, upd_same, ?_⟩, _, _, rfl⟩
        · rw [upd_ne (ne_of_none e0 nD)]
          exact s35 _ _ (s3 _ _ e0)
        · rw [mul_at ep ep2]
          exact Paired.snoc (Paired.mapP hW fun v p q => (q.nld (same_nld s35)).nld (nld_upd e5 id)) ⟨t, p5, rfl, nld_upd e5 id _ _ ht trivial, nld_upd e5 id _ _ h5 trivial⟩
      · rintro σ H3 ⟨s3, ⟨ws, e3, hW⟩, o5, o6, rfl⟩
        rw [lu, List.take_length, ← mul_take ep] at hW
        exact ⟨s3, ⟨ws, e3, hW⟩, _, _, _, _, rfl⟩
    · rintro σ H2 ⟨s2, ⟨ws, e2, hW⟩, o3, o4, o5, o6, rfl⟩
      rw [lv, List.take_length] at hW
      exact ⟨_, rfl, q D H2 nD s2 ⟨ws, e2, hW⟩⟩
end

end Fo

set_option maxHeartbeats 4100000
namespace Fo
open PySem PySem.Spec PyProof.Rows L2
/-! ### a formula alone -/
open FoWd
theorem But.nld {H H' : Hp} {b : Addr} {n : Nat} (h : But b H H') (hB : BoxAt H b n) : NLD H H' := fun c o e1 fi => h _ _ e1 fun z => by
  obtain ⟨_, _, _, eb, _⟩ := hB
  rw [z, eb] at e1
  cases e1
  exact fi
theorem FmAt.cong {K : PySem.W.Frag} {H H' : Hp} {a b : Addr} {n : Nat} {f : Ps} (h : FmAt K H a f) (hB : BoxAt H b n) (hb : But b H H') : FmAt K H' a f := by
  obtain ⟨dx, d, kvs, e1, e2, e3⟩ := h
  have nb : ∀ {c : Addr} {o : HO}, H c = some o → (∀ l, o ≠ .lst l) → c ≠ b := fun {c o} e ne z => by
    obtain ⟨_, _, _, eb, _⟩ := hB
    rw [z, eb] at e
    exact ne _ (Option.some.inj e).symm
  exact ⟨dx, d, kvs, hb _ _ e1 (nb e1 (fun l z => nomatch z)), hb _ _ e2 (nb e2 (fun l z => nomatch z)), e3.nld rr_solidD (hb.nld hB)⟩
theorem p100 {x : Nat} (h : x < 2 ^ 100) : x < 2 ^ 1900 := Nat.lt_of_lt_of_le h (Nat.pow_le_pow_right (by decide) (by decide))
theorem _root_.FoWd.Ov.sz1 {N B : Nat} {x : Rat} (h : Ov N B x) (n0 : 0 < N) (n1 : N < 2 ^ 100) (b1 : B < 2 ^ 120) : FoQ.SzR 1900 x :=
  (h.sz (k := 120) n0 (Nat.lt_of_lt_of_le n1 (Nat.pow_le_pow_right (by decide) (by decide))) b1).mono (by decide)
theorem grow_of {N B : Nat} {ps : Ps} (h : AllOv N B ps) (n0 : 0 < N) (n1 : N < 2 ^ 100) (b1 : B < 2 ^ 100) (l : ps.length ≤ 1000) : Grow 1900 ps := by
  have p : 2 ^ 100 * 1024 ≤ 2 ^ 120 := by decide
  refine ⟨fun q hq => (h q hq).sz1 n0 n1 (by omega), fun i a => ?_⟩
  refine ((coef_ov h.take a).mono (C := 1000 * B) ?_).sz1 n0 n1 (by omega)
  refine Nat.mul_le_mul ?_ (Nat.le_refl _)
  rw [List.length_take]
  omega
theorem growT_of {N B C : Nat} {t ps : Ps} (ht : AllOv N C t) (h : AllOv N B ps) (n0 : 0 < N) (n1 : N < 2 ^ 100) (b1 : B < 2 ^ 100) (c1 : C < 2 ^ 100) (l : ps.length ≤ 1000) : GrowT t ps := by
  have p : 2 ^ 100 * 1025 ≤ 2 ^ 120 := by decide
  refine ⟨fun q hq => (h q hq).sz1 n0 n1 (by omega), fun i w => ?_⟩
  refine ((accum_look h.take (look_ov ht) w).mono (C := C + 1000 * B) ?_).sz1 n0 n1 (by omega)
  refine Nat.add_le_add_left (Nat.mul_le_mul ?_ (Nat.le_refl _)) _
  rw [List.length_take]
  omega
theorem growA_of {N B C : Nat} {t ps : Ps} (hn : (FoWd.keys t).Nodup) (ht : AllOv N C t) (h : AllOv N B ps) (n0 : 0 < N) (n1 : N < 2 ^ 100) (b1 : B < 2 ^ 60) (c1 : C < 2 ^ 60) (l : ps.length ≤ 500) (l2 : t.length ≤ 500) : Grow 1900 (accum t ps) := by
  have p : 2 ^ 60 * 1025 ≤ 2 ^ 100 := by decide
  refine grow_of ((accum_ov hn ht h).mono (C := C + 500 * B) (Nat.add_le_add_left (Nat.mul_le_mul l (Nat.le_refl _)) _)) n0 n1 (by omega) ?_
  have := (accum_all hn ps).2.2.1
  omega
/-- what the law's drawn pairs are -/
structure Drw (ps : Ps) : Prop where
  nd : (FoWd.keys ps).Nodup
  le : Le 6 ps
  l8 : ps.length ≤ 8
  ov : AllOv 2520 22680 ps
theorem Drw.form {ps : Ps} (h : Drw ps) : AllOv 2520 181440 (form 6 ps) := h.ov.form.mono (Nat.mul_le_mul h.l8 (Nat.le_refl 22680))
theorem fl13 (ps : Ps) : (form 6 ps).length ≤ 13 := form_len 6 ps
/-- the last word's length -/
def dg (k : List Wd) : Nat := ((([] : Wd) :: k).getLast (by simp)).length
theorem dg_all {k : List Wd} (h : k.Pairwise fun a b => a.length ≤ b.length) : ∀ w ∈ k, w.length ≤ dg k := by
  intro w hw
  have ne : k ≠ [] := fun z => by rw [z] at hw; exact absurd hw (by simp)
  have e : dg k = (k.getLast ne).length := by unfold dg; rw [List.getLast_cons ne]
  rw [e]
  have d := List.dropLast_concat_getLast ne
  rw [← d] at hw h
  rcases List.mem_append.mp hw with hw | hw
  · exact (List.pairwise_append.mp h).2.2 w hw _ List.mem_cons_self
  · rw [List.mem_singleton.mp hw]
    exact Nat.le_refl _
theorem dg_ex {k : List Wd} (ne : k ≠ []) : ∃ w ∈ k, w.length = dg k := ⟨k.getLast ne, List.getLast_mem ne, by unfold dg; rw [List.getLast_cons ne]⟩
theorem atI_lastV {l : List V} (ne : l ≠ []) : atI l (-1) = some (l.getLast ne) := by
  have hl : 1 ≤ l.length := Nat.one_le_iff_ne_zero.mpr fun e => ne (List.eq_nil_of_length_eq_zero e)
  show (ixN l.length (-1)).bind (fun j => l[j]?) = _
  have e : ixN l.length (-1) = some (l.length - 1) := by
    unfold ixN
    rw [if_neg (by decide), if_pos (by omega)]
    congr 1
    omega
  rw [e]
  show l[l.length - 1]? = _
  rw [← List.getLast?_eq_getElem?, List.getLast?_eq_some_getLast ne]
def spAlone (K : PySem.W.Frag) : Sp := fun vs H Q _ => ∃ (b a l : Addr) (ps : Ps) (n : Nat), vs = [.ref b, .ref a, .ref l] ∧ BoxAt H b n ∧ n ≤ 80000 ∧ FmAt K H a (form 6 ps) ∧ LP H l ps ∧ l ≠ b ∧ Drw ps ∧ ∀ H', But b H H' → BoxAt H' b (n + 4) → Q (.bl true) H'
section
variable {P : Program} {w : World} {K : PySem.W.Frag} {mg : Str → Option Value} {base : Heap}
theorem ok_alone (T : Tx K mg) : FnOk P w K mg base CX0 16 (He.ga K "_law_alone") T.fd_alone ["_law_box_here", "_law_one", "_law_first"] (spAlone K) := by
  refine T.F_alone.ok sc_alone (fun vs H Q E h => ?_) (fun cdv A outer s H vs Q E hr h => ?_)
  · obtain ⟨b, a, l, ps, n, rfl, _⟩ := h
    rfl
  · obtain ⟨b, a, l, ps, n, rfl, hB, hn, hF, hL, lb, hd, q⟩ := h
    refine ⟨_, (pss_cons (ps_set (i := 3) sc_alone.nd rfl (.inl rfl) (pe_call (ok_formL T) (hr.mono (by decide)) (by rfl) T.g_form T.F_form.kp T.b_form .nil pass0 (pa_cons (pv 2) pa_nil)))
      (pss_cons (ps_set (i := 4) sc_alone.nd rfl (.inr rfl) (pe_call (ok_number T) (hr.mono (by decide)) (by rfl) T.g_number T.F_number.kp T.b_number .nil pass0 (pa_cons (pv 0) (pa_cons pe_int pa_nil))))
      (pss_cons (ps_setLc (i := 7) (own := [("_law_row_here", 5), ("_law_y", 6)])  rfl sc_alone.nd rfl rfl (sw_true rfl rfl rfl (by decide +kernel)) (pi_list (pv 2)) (blkOk_by (own := [("_law_row_here", 5), ("_law_y", 6)]) (N := ["_law_box_here", "_law_one", "_law_first", "_law_due", "_law_x", "_law_row_here", "_law_y", "_law_many"]) (sc := defScope s_alone) (by decide +kernel)) (fun _ _ _ _ _ => (FoK.pg_tupK (K' := K) (n := 2) rfl (by rfl) (pgs_cons (pg_name (i := 5) sc_alone.nd rfl (.inl rfl)) (pgs_cons (pg_name (i := 6) sc_alone.nd rfl (.inl rfl)) pgs_nil)))) (fun _ _ _ _ _ => pts_nil) (fun _ _ _ _ _ => (pe_tup (pa_cons (pv 5) (pa_cons (pe_call (ok_timesQ T) (hr.mono (by decide)) (by rfl) T.g_times T.F_times.kp T.b_times .nil pass0 (pa_cons (pv 4) (pa_cons (pv 6) pa_nil))) pa_nil)))))
      (pss_cons (ps_if (pt_not (pt_val (pe_call (ok_isL T) (hr.mono (by decide)) (by rfl) T.g_is T.F_is.kp T.b_is .nil pass0 (pa_cons (pe_meth (pv 1) T.cl_F T.mF_times (ok_Ftimes T) (hr.mono (by decide)) T.b_Formula_times .nil pass0 (pa_cons (pe_call (ok_handed T) (hr.mono (by decide)) (by rfl) T.g_handed T.F_handed.kp T.b_handed .nil pass0 (pa_cons (pv 4) (pa_cons (pv 0) pa_nil))) pa_nil)) (pa_cons (pe_call (ok_formL T) (hr.mono (by decide)) (by rfl) T.g_form T.F_form.kp T.b_form .nil pass0 (pa_cons (pv 7) pa_nil)) pa_nil))))) (pss_one (ps_ret pe_bl)) pss_nil)
      (pss_cons (ps_if (pt_not (pt_val (pe_call (ok_isL T) (hr.mono (by decide)) (by rfl) T.g_is T.F_is.kp T.b_is .nil pass0 (pa_cons (pe_meth0 (pv 1) T.cl_F T.mF_mirror (ok_Fmirror T) (hr.mono (by decide)) T.b_Formula_mirror .nil pass0) (pa_cons (pe_call (ok_formL T) (hr.mono (by decide)) (by rfl) T.g_form T.F_form.kp T.b_form .nil pass0 (pa_cons (pe_call (ok_turnedL T) (hr.mono (by decide)) (by rfl) T.g_turned T.F_turned.kp T.b_turned .nil pass0 (pa_cons (pv 2) pa_nil)) pa_nil)) pa_nil))))) (pss_one (ps_ret pe_bl)) pss_nil)
      (pss_cons (ps_if (PW.pt (pw_or (pt_cmpR op_ne (pe_meth0 (pv 1) T.cl_F T.mF_is_mirror (ok_Fismir T) (hr.mono (by decide)) T.b_Formula_is_mirror .nil pass0) (pe_cmpR (FoDq.op_eqDo (Nat.lt_of_le_of_lt (Nat.le_add_right _ _) hr.units)) (pv 3) (pe_call (ok_formL T) (hr.mono (by decide)) (by rfl) T.g_form T.F_form.kp T.b_form .nil pass0 (pa_cons (pe_call (ok_turnedL T) (hr.mono (by decide)) (by rfl) T.g_turned T.F_turned.kp T.b_turned .nil pass0 (pa_cons (pv 2) pa_nil)) pa_nil)) (nomark _)) (nomark _)) (pw_or1 (pt_cmpR op_isnot_bl (pe_meth0 (pe_op (FoA.op_own (ok_Fadd T) (hr.mono (by decide)) T.b_Formula_add pass0 T.biF_add FoN.int_add FoN.int_addR) (pv 1) (pe_meth0 (pv 1) T.cl_F T.mF_mirror (ok_Fmirror T) (hr.mono (by decide)) T.b_Formula_mirror .nil pass0)) T.cl_F T.mF_is_mirror (ok_Fismir T) (hr.mono (by decide)) T.b_Formula_is_mirror .nil pass0) pe_bl (nomark _))))) (pss_one (ps_ret pe_bl)) pss_nil)
      (pss_cons (ps_if (PW.pt (pw_or (pt_cmpR op_ne (pe_meth0 (pv 1) T.cl_F T.mF_degree (ok_Fdegree T) (hr.mono (by decide)) T.b_Formula_degree .nil pass0) (pe_callB call_len_str (by rfl) T.z_len PySem.boot_len (pa_cons (pe_ix ix_list (pe_op op_cat (pe_lst (pa_cons pe_str pa_nil)) (pe_callTy (call_list_dK (by rfl)) (by rfl) T.z_list (by decide +kernel) (pa_cons (pv 3) pa_nil))) (pe_un un_neg pe_int) (fun _ _ => rfl)) pa_nil)) (nomark _)) (pw_or1 (pt_cmpR op_isnot_bl (pe_meth0 (pe_op (FoA.op_own (ok_Fmul T) (hr.mono (by decide)) T.b_Formula_mul pass0 T.biF_mul FoN.int_mul FoN.int_mulR) (pe_meth0 (pv 1) T.cl_F T.mF_mirror (ok_Fmirror T) (hr.mono (by decide)) T.b_Formula_mirror .nil pass0) (pv 1)) T.cl_F T.mF_is_mirror (ok_Fismir T) (hr.mono (by decide)) T.b_Formula_is_mirror .nil pass0) pe_bl (nomark _))))) (pss_one (ps_ret pe_bl)) pss_nil)
      (pss_one (ps_ret (pe_call (ok_isL T) (hr.mono (by decide)) (by rfl) T.g_is T.F_is.kp T.b_is .nil pass0 (pa_cons (pe_call (ok_opp T) (hr.mono (by decide)) (by rfl) T.g_opposite T.F_opposite.kp T.b_opposite .nil pass0 (pa_cons (pv 1) pa_nil)) (pa_cons (pe_call (ok_formL T) (hr.mono (by decide)) (by rfl) T.g_form T.F_form.kp T.b_form .nil pass0 (pa_cons (pe_op op_cat (pe_lst (pa_cons (pe_tup (pa_cons pe_str (pa_cons (pe_tup (pa_cons pe_int (pa_cons pe_int pa_nil))) pa_nil))) pa_nil)) (pe_call (ok_lessL T) (hr.mono (by decide)) (by rfl) T.g_less_all T.F_less_all.kp T.b_less_all .nil pass0 (pa_cons (pv 2) pa_nil))) pa_nil)) pa_nil)))))))))))), ?_⟩
    have g0 : Grow 1900 ps := grow_of hd.ov (by decide) (by decide) (by decide) (by have := hd.l8; omega)
    have f13 := fl13 ps
    have l8 := hd.l8
    refine ⟨_, rfl, l, ps, 6, rfl, hL, hd.le, by decide, by omega, g0, fun p1 H1 kv1 np1 s1 hp1 hD1 => ?_⟩
    have hB1 := hB.same s1
    have hF1 := hF.same s1
    have hL1 := hL.same s1
    refine ⟨_, rfl, b, n, rfl, hB1, by omega, fun px H2 x npx hx ox hB2 b2 => ?_⟩
    have hF2 := hF1.cong hB1 b2
    have hL2 := hL1.cong hB1 b2 lb
    have p1b : p1 ≠ b := hB.ne np1
    have hp2 := b2 _ _ hp1 p1b
    have hD2 := hD1.nld rq_solidD (b2.nld hB1)
    have bb : But b H H2 := (But.of_same s1).trans b2
    clear hB1 hF1 hL1 hp1 hD1
    obtain ⟨vs, hl2, hP2⟩ := id hL2
    have lv := Paired.length hP2
    have lsx : (scl x ps).length = ps.length := List.length_map _
    have ox2 : AllOv (2520 * 2520) (22680 * 22680) (scl x ps) := AllOv.times ox hd.ov
    have zx : FoQ.SzR 1900 x := ox.sz1 (by decide) (by decide) (by decide)
    refine ⟨_, rfl, l, rfl, ⟨_, SqL.of hl2⟩, fun D nD => ?_⟩
    have Db : D ≠ b := hB2.ne nD
    refine lc_list (LPI (scl x ps) H2 D) (LPI.start nD) (fun i H' _ h => SqL.of (h.1 _ _ hl2)) (fun i v H3 ev h => ?_) (fun H3 h => ?_)
    · obtain ⟨p, ep, tq, r, rfl, hq, hr⟩ := paired_get hP2 ev
      have hq3 := h.1 _ _ hq
      have zp := g0.1 _ (List.mem_of_getElem? ep)
      refine ⟨tq, _, rfl, SqT.of hq3, rfl, _, _, rfl, _, _, rfl, rfl, rfl, ?_⟩
      refine ⟨_, rfl, _, rfl, _, rfl, px, r, x, p.2, rfl, h.1 _ _ hx, h.1 _ _ hr, zx, zp, fun p5 np5 => ?_⟩
      have s5 := Same.upd np5 (o := qt (x * p.2))
      have h5 : FrQ (upd H3 p5 (qt (x * p.2))) p5 (x * p.2) := upd_same
      generalize upd H3 p5 (qt (x * p.2)) = H4 at *
      refine ⟨(by show 2 ≤ sizeLine; rw [sizeLine_eq]; decide), fun t nt => ?_⟩
      have st := Same.upd nt (o := .tup [.str (tx p.1), .ref p5])
      exact h.next nD (s5.trans st) (scl_at ep) ⟨t, p5, rfl, upd_same, st _ _ h5⟩ (by omega)
    rw [lv, ← lsx] at h
    have s3 := h.1
    have hM := h.done
    clear h hP2 lv hl2
    have hB3 := hB2.same s3
    have bb := bb.trans (But.of_same s3)
    have hF3 := hF2.same s3
    have hL3 := hL2.same s3
    have hp3 := s3 _ _ hp2
    have hD3 := hD2.nld rq_solidD (same_nld s3)
    have hx3 : FrQ H3 px x := s3 _ _ hx
    clear hB2 hF2 hL2 hp2 hD2 hx b2 s3 s1
    obtain ⟨dx, d, kd, i1, i2, i3⟩ := id hF3
    have hf := hd.form
    have lf : Le 6 (form 6 ps) := form_le 6 ps
    have nf := form_nodup 6 ps
    have zf : ∀ p ∈ form 6 ps, FoQ.SzR 1900 p.2 := fun p hp => (hf p hp).sz1 (by decide) (by decide) (by decide)
    -- multiples
    refine ⟨_, rfl, a, dx, _, rfl, i1, rfl, _, rfl, _, rfl, px, b, x, _, rfl, hx3, Ov.sz40 ox, hB3, by omega, fun v H4 hv hB4 b4 => ?_⟩
    have hF4 := hF3.cong hB3 b4
    have hL4 := hL3.cong hB3 b4 lb
    have hp4 := b4 _ _ hp3 p1b
    have n4 := b4.nld hB3
    have hD4 := hD3.nld rq_solidD n4
    have oxf : AllOv (2520 * 2520) (22680 * 181440) (scl x (form 6 ps)) := AllOv.times ox hf
    have hM4 : LP H4 D (scl x ps) := hM.cong hB3 b4 Db
    have bb := bb.trans b4
    clear hB3 hF3 hp3 hD3 hx3 hL3
    refine ⟨a, v, x, form 6 ps, 6, rfl, hF4, hv, zx, nf, lf, by decide, by omega, zf, grow_of oxf (by decide) (by decide) (by decide) (by rw [show (scl x (form 6 ps)).length = (form 6 ps).length from List.length_map _]; omega), fun r5 H5 nr5 s5 h5 => ?_⟩
    rw [form_scl hd.le] at h5
    refine ⟨_, rfl, D, scl x ps, 6, rfl, hM4.same s5, le_scl hd.le, by decide, by omega, grow_of ox2 (by decide) (by decide) (by decide) (by omega), fun p6 H6 kv6 np6 s6 hp6 hD6 => ?_⟩
    refine ⟨r5, p6, kv6, _, rfl, h5.at.same s6, hp6, hD6, form_nodup _ _, by have := fl13 (scl x ps); omega, fun H7 s7 => ⟨_, rfl, iteF ?_⟩⟩
    have s47 := s5.trans (s6.trans s7)
    have hB7 := hB4.same s47
    have hF7 := hF4.same s47
    have hL7 := hL4.same s47
    have hp7 := s47 _ _ hp4
    have hD7 := hD4.nld rq_solidD (same_nld s47)
    have bb := bb.trans (But.of_same s47)
    clear hB4 hF4 hL4 hp4 hD4 hM4 h5 hp6 hD6 s5 s6 s7 s47 nr5 np6 hM n4 b4 i1 i2 i3
    -- the mirror
    have i7 := hF7
    obtain ⟨dx, d, kd, i1, i2, i3⟩ := i7
    have oT : AllOv 2520 22680 (turn ps) := hd.ov.turn
    have ltn : (turn ps).length = ps.length := List.length_map _
    have gT : Grow 1900 (turn ps) := grow_of oT (by decide) (by decide) (by decide) (by omega)
    have oTf : AllOv 2520 181440 (turn (form 6 ps)) := hf.turn
    have gTf : Grow 1900 (turn (form 6 ps)) := grow_of oTf (by decide) (by decide) (by decide) (by rw [show (turn (form 6 ps)).length = (form 6 ps).length from List.length_map _]; omega)
    have le60 : Le 60 ps := fun p hp => Nat.le_trans (hd.le p hp) (by decide)
    refine ⟨_, rfl, a, dx, _, rfl, i1, rfl, a, form 6 ps, 6, rfl, hF7, nf, lf, by decide, by omega, zf, gTf, fun r8 H8 nr8 s8 h8 => ?_⟩
    rw [form_turn hd.le] at h8
    refine ⟨_, rfl, l, ps, rfl, hL7.same s8, by omega, le60, fun p9 H9 np9 s9 hL9 => ?_⟩
    refine ⟨p9, turn ps, 6, rfl, hL9, le_turn hd.le, by decide, by omega, gT, fun p10 H10 kv10 np10 s10 hp10 hD10 => ?_⟩
    refine ⟨r8, p10, kv10, _, rfl, (h8.at.same s9).same s10, hp10, hD10, form_nodup _ _, by have := fl13 (turn ps); omega, fun H11 s11 => ⟨_, rfl, iteF ?_⟩⟩
    have s711 := s8.trans (s9.trans (s10.trans s11))
    have hB8 := hB7.same s711
    have hF8 := hF7.same s711
    have hL8 := hL7.same s711
    have hp8 := s711 _ _ hp7
    have hD8 := hD7.nld rq_solidD (same_nld s711)
    have bb := bb.trans (But.of_same s711)
    have i1 := s711 _ _ i1
    clear hB7 hF7 hL7 hp7 hD7 h8 hL9 hp10 hD10 s8 s9 s10 s11 s711 nr8 np9 np10 i2 i3
    -- its own mirror or not
    refine ⟨_, rfl, a, dx, _, rfl, i1, rfl, a, ps, 6, rfl, hF8, by decide, by omega, zf, gTf, fun H12 s12 => ?_⟩
    rw [form_turn hd.le]
    refine ⟨_, rfl, _, rfl, l, ps, rfl, hL8.same s12, by omega, le60, fun p9 H9 np9 s9 hL9 => ?_⟩
    refine ⟨p9, turn ps, 6, rfl, hL9, le_turn hd.le, by decide, by omega, gT, fun p10 H10 kv10 np10 s10 hp10 hD10 => ?_⟩
    have s12a := s12.trans (s9.trans s10)
    refine eq_forms (hr.mono (by decide)) (s12a _ _ hp8) hp10 (hD8.nld rq_solidD (same_nld s12a)) hD10 ?_
    refine ⟨rfl, _, rfl, ?_⟩
    rw [decide_eq_true (show V.bl (decide (form 6 ps = form 6 (turn ps))) = V.bl (decide (form 6 ps = form 6 (turn ps))) from rfl)]
    refine iteF ?_
    have hB9 := hB8.same s12a
    have hF9 := hF8.same s12a
    have hL9' := hL8.same s12a
    have hp9 := s12a _ _ hp8
    have hD9 := hD8.nld rq_solidD (same_nld s12a)
    have bb := bb.trans (But.of_same s12a)
    have i1 := s12a _ _ i1
    clear hB8 hF8 hL8 hp8 hD8 hL9 hp10 hD10 s12 s9 s10 s12a np9 np10
    -- the sum with the mirror
    refine ⟨_, rfl, _, rfl, a, dx, _, rfl, i1, rfl, a, form 6 ps, 6, rfl, hF9, nf, lf, by decide, by omega, zf, gTf, fun r8 H8 nr8 s8 h8 => ?_⟩
    rw [form_turn hd.le] at h8
    obtain ⟨dy, d2, kd2, j0, j1, j2, j3⟩ := id h8
    have hft : AllOv 2520 181440 (form 6 (turn ps)) := oT.form.mono (Nat.mul_le_mul (by omega : (turn ps).length ≤ 8) (Nat.le_refl 22680))
    have f13t := fl13 (turn ps)
    refine ⟨a, dx, _, rfl, s8 _ _ i1, .inr ⟨r8, dy, _, rfl, j1⟩, a, r8, form 6 ps, form 6 (turn ps), 6, rfl, hF9.same s8, h8.at, nf, lf, form_le _ _, by decide, by omega, growT_of hf hft (by decide) (by decide) (by decide) (by decide) (by omega), growA_of nf hf hft (by decide) (by decide) (by decide) (by decide) (by omega) (by omega), fun r9 H9 nr9 s9 h9 => ?_⟩
    rw [form_add hd.le (le_turn hd.le)] at h9
    obtain ⟨dz, d3, kd3, k0, k1, k2, k3⟩ := id h9
    have oS : AllOv 2520 22680 (ps ++ turn ps) := hd.ov.app oT
    have lS : (ps ++ turn ps).length ≤ 16 := by rw [List.length_append]; omega
    have hfS : AllOv 2520 362880 (form 6 (ps ++ turn ps)) := oS.form.mono (Nat.mul_le_mul lS (Nat.le_refl 22680))
    have fS := fl13 (ps ++ turn ps)
    refine ⟨r9, dz, _, rfl, k1, rfl, r9, ps ++ turn ps, 6, rfl, h9.at, by decide, by omega, fun p hp => (hfS p hp).sz1 (by decide) (by decide) (by decide), grow_of hfS.turn (by decide) (by decide) (by decide) (by rw [show (turn (form 6 (ps ++ turn ps))).length = (form 6 (ps ++ turn ps)).length from List.length_map _]; omega), fun H10 s10 => ?_⟩
    rw [form_turn (show Le 6 (ps ++ turn ps) from fun p hp => (List.mem_append.mp hp).elim (hd.le p) (le_turn hd.le p)), decide_eq_true (show form 6 (ps ++ turn ps) = form 6 (turn (ps ++ turn ps)) from (isM_add (N := 6) (ps := ps)).symm)]
    refine ⟨_, _, rfl, rfl, _, rfl, iteF ?_⟩
    have s810 := s8.trans (s9.trans s10)
    have hB10 := hB9.same s810
    have hF10 := hF9.same s810
    have hL10 := hL9'.same s810
    have hp10 := s810 _ _ hp9
    have hD10 := hD9.nld rq_solidD (same_nld s810)
    have bb := bb.trans (But.of_same s810)
    have i1 := s810 _ _ i1
    clear hB9 hF9 hL9' hp9 hD9 h8 h9 s8 s9 s10 s810 nr8 nr9 j0 j1 j2 j3 k0 k1 k2 k3
    -- the degree
    have frise := form_rising 6 ps
    refine ⟨_, rfl, a, dx, _, rfl, i1, rfl, a, form 6 ps, dg (FoWd.keys (form 6 ps)), rfl, hF10, by omega, fun p hp => by have := lf p hp; omega, fun p hp => ?_, fun e => ?_, fun e => ?_, fun H11 s11 => ?_⟩
    · have k : (FoWd.keys (form 6 ps)).Pairwise fun a b => a.length ≤ b.length := by
        unfold FoWd.keys
        rw [List.pairwise_map]
        exact frise
      exact dg_all k _ (List.mem_map.mpr ⟨p, hp, rfl⟩)
    · rw [e]
      rfl
    · obtain ⟨w, hw, ew⟩ := dg_ex (k := FoWd.keys (form 6 ps)) (fun z => e (List.map_eq_nil_iff.mp z))
      obtain ⟨p, hp, rfl⟩ := List.mem_map.mp hw
      exact ⟨p, hp, ew⟩
    refine ⟨(by show 1 ≤ sizeLine; rw [sizeLine_eq]; decide), fun q1 nq1 => ?_⟩
    have s12 := Same.upd nq1 (o := .lst [.str ""])
    have g12 : upd H11 q1 (.lst [.str ""]) q1 = some (.lst [.str ""]) := upd_same
    generalize upd H11 q1 (.lst [.str ""]) = H12 at *
    have kE : (kv1.map fun kv => kV kv.1) = ((FoWd.keys (form 6 ps)).map tx).map V.str := by
      have z := hD10.keys
      have z2 : (kv1.map fun kv => kV kv.1) = (kv1.map (·.1)).map kV := by rw [List.map_map]; rfl
      rw [z2, z, List.map_map, List.map_map]
      rfl
    refine ⟨_, rfl, p1, kv1, rfl, s12 _ _ (s11 _ _ hp10), fun q2 nq2 => ?_⟩
    rw [kE]
    have s13 := Same.upd nq2 (o := .lst (((FoWd.keys (form 6 ps)).map tx).map V.str))
    have g13 : upd H12 q2 (.lst (((FoWd.keys (form 6 ps)).map tx).map V.str)) q2 = some (.lst (((FoWd.keys (form 6 ps)).map tx).map V.str)) := upd_same
    generalize upd H12 q2 (.lst (((FoWd.keys (form 6 ps)).map tx).map V.str)) = H13 at *
    have lk13 : (FoWd.keys (form 6 ps)).length ≤ 13 := by unfold FoWd.keys; rw [List.length_map]; omega
    refine ⟨q1, q2, _, _, rfl, rfl, s13 _ _ g12, g13, by rw [List.length_map, List.length_map, sizeLine_eq]; show 1 + _ ≤ _; omega, fun q3 nq3 => ?_⟩
    have s14 := Same.upd nq3 (o := .lst ([V.str ""] ++ ((FoWd.keys (form 6 ps)).map tx).map V.str))
    have g14 : upd H13 q3 (.lst ([V.str ""] ++ ((FoWd.keys (form 6 ps)).map tx).map V.str)) q3 = some (.lst ([V.str ""] ++ ((FoWd.keys (form 6 ps)).map tx).map V.str)) := upd_same
    generalize upd H13 q3 (.lst ([V.str ""] ++ ((FoWd.keys (form 6 ps)).map tx).map V.str)) = H14 at *
    have eL : ([V.str ""] ++ ((FoWd.keys (form 6 ps)).map tx).map V.str) = ((([] : Wd) :: FoWd.keys (form 6 ps)).map fun w => V.str (tx w)) := by
      rw [List.map_map]
      rfl
    have nL : ((([] : Wd) :: FoWd.keys (form 6 ps)).map fun w => V.str (tx w)) ≠ [] := by simp
    rw [eL] at g14
    have sz11 : (tx ((([] : Wd) :: FoWd.keys (form 6 ps)).getLast (by simp))).length = dg (FoWd.keys (form 6 ps)) := tx_len _
    have szl : dg (FoWd.keys (form 6 ps)) ≤ 6 := by
      by_cases e : FoWd.keys (form 6 ps) = []
      · rw [e]
        exact Nat.zero_le _
      · obtain ⟨w, hw, ew⟩ := dg_ex e
        obtain ⟨p, hp, rfl⟩ := List.mem_map.mp hw
        rw [← ew]
        exact lf p hp
    refine ⟨1, rfl, q3, _, -1, _, rfl, rfl, SqL.of g14, atI_lastV nL, ?_⟩
    rw [List.getLast_map]
    refine ⟨_, rfl, by rw [sz11, sizeLine_eq]; omega, ?_⟩
    rw [sz11]
    refine ⟨rfl, _, rfl, ?_⟩
    rw [decide_eq_true (show V.int (dg (FoWd.keys (form 6 ps)) : Int) = V.int (dg (FoWd.keys (form 6 ps)) : Int) from rfl)]
    refine iteF ?_
    have s1014 := s11.trans (s12.trans (s13.trans s14))
    have hB11 := hB10.same s1014
    have hF11 := hF10.same s1014
    have hL11 := hL10.same s1014
    have bb := bb.trans (But.of_same s1014)
    have i1 := s1014 _ _ i1
    clear hB10 hF10 hL10 hp10 hD10 s11 s12 s13 s14 s1014 g12 g13 g14 eL nL
    -- the product with the mirror
    refine ⟨_, rfl, a, dx, _, rfl, i1, rfl, a, form 6 ps, 6, rfl, hF11, nf, lf, by decide, by omega, zf, gTf, fun r8 H8 nr8 s8 h8 => ?_⟩
    rw [form_turn hd.le] at h8
    obtain ⟨dy, d2, kd2, j0, j1, j2, j3⟩ := id h8
    have lM : (mul (form 6 (turn ps)) (form 6 ps)).length ≤ 169 := by
      rw [mul_len]
      exact Nat.le_trans (Nat.mul_le_mul f13t f13) (by decide)
    have oM : AllOv (2520 * 2520) (181440 * 181440) (mul (form 6 (turn ps)) (form 6 ps)) := AllOv.mul hft hf
    have lt : Le 6 (form 6 (turn ps)) := form_le _ _
    refine ⟨_, rfl, r8, dy, _, rfl, j1, .inr ⟨a, dx, _, rfl, s8 _ _ i1⟩, r8, a, form 6 (turn ps), form 6 ps, 6, 6, rfl, (FmTwo.of hF11 s8 h8).swap, lt, lf, by decide, by omega, by omega, by omega,
      fun p hp => ((hft p hp).sz (k := 60) (by decide) (by decide) (by decide)).mono (by decide), fun p hp => ((hf p hp).sz (k := 60) (by decide) (by decide) (by decide)).mono (by decide),
      (growT_of (t := []) (C := 0) (fun p hp => absurd hp (by simp)) oM (by decide) (by decide) (by decide) (by decide) (by omega)).2, growA_of (t := []) (C := 0) List.nodup_nil (fun p hp => absurd hp (by simp)) oM (by decide) (by decide) (by decide) (by decide) (by omega) (by decide), fun r9 H9 nr9 s9 h9 => ?_⟩
    rw [form_mul (le_turn hd.le) hd.le] at h9
    obtain ⟨dz, d3, kd3, k0, k1, k2, k3⟩ := id h9
    have oM2 : AllOv (2520 * 2520) (22680 * 22680) (mul (turn ps) ps) := AllOv.mul oT hd.ov
    have lM2 : (mul (turn ps) ps).length ≤ 64 := by
      rw [mul_len]
      exact Nat.le_trans (Nat.mul_le_mul (show (turn ps).length ≤ 8 by omega) l8) (by decide)
    have leM : Le (6 + 6) (mul (turn ps) ps) := fun p hp => by
      obtain ⟨x, hx, hp⟩ := List.mem_flatMap.mp hp
      obtain ⟨y, hy, rfl⟩ := List.mem_map.mp hp
      have w1 := le_turn hd.le _ hx
      have w2 := hd.le _ hy
      show (x.1 ++ y.1).length ≤ _
      rw [List.length_append]
      omega
    have hfM : AllOv (2520 * 2520) (64 * (22680 * 22680)) (form (6 + 6) (mul (turn ps) ps)) := oM2.form.mono (Nat.mul_le_mul lM2 (Nat.le_refl (22680 * 22680)))
    have fM : (form (6 + 6) (mul (turn ps) ps)).length ≤ 25 := form_len _ _
    refine ⟨r9, dz, _, rfl, k1, rfl, r9, mul (turn ps) ps, 6 + 6, rfl, h9.at, by decide, by omega, fun p hp => (hfM p hp).sz1 (by decide) (by decide) (by decide), grow_of hfM.turn (by decide) (by decide) (by decide) (by rw [show (turn (form (6 + 6) (mul (turn ps) ps))).length = (form (6 + 6) (mul (turn ps) ps)).length from List.length_map _]; omega), fun H10 s10 => ?_⟩
    rw [form_turn leM, decide_eq_true (show form (6 + 6) (mul (turn ps) ps) = form (6 + 6) (turn (mul (turn ps) ps)) from (isM_mul (N := 6 + 6) (ps := ps)).symm)]
    refine ⟨_, _, rfl, rfl, _, rfl, iteF ?_⟩
    have s810 := s8.trans (s9.trans s10)
    have hB12 := hB11.same s810
    have hF12 := hF11.same s810
    have hL12 := hL11.same s810
    have bb := bb.trans (But.of_same s810)
    clear hB11 hF11 hL11 h8 h9 s8 s9 s10 s810 nr8 nr9 j0 j1 j2 j3 k0 k1 k2 k3 i1
    -- the opposite
    have sf : AllOv 2520 181440 (form 6 (scl (-1) (form 6 ps))) := by
      rw [form_scl hd.le]
      exact hd.ov.opp.form.mono (Nat.mul_le_mul (show (scl (-1) ps).length ≤ 8 by rw [show (scl (-1) ps).length = ps.length from List.length_map _]; exact l8) (Nat.le_refl 22680))
    have o1 : AllOv 2520 2520 one := fun p hp => by rw [List.mem_singleton.mp hp]; exact Ov.one
    have f13s := fl13 (scl (-1) (form 6 ps))
    refine ⟨_, rfl, a, form 6 ps, 6, rfl, hF12, nf, lf, by decide, by omega, by omega, zf, grow_of hf.opp (by decide) (by decide) (by decide) (by rw [show (scl (-1) (form 6 ps)).length = (form 6 ps).length from List.length_map _]; omega),
      growT_of o1 sf (by decide) (by decide) (by decide) (by decide) (by omega), growA_of (by simp [one, FoWd.keys]) o1 sf (by decide) (by decide) (by decide) (by decide) (by omega) (by decide), fun r8 H8 nr8 s8 h8 => ?_⟩
    have e8 : form 6 (one ++ scl (-1) (form 6 ps)) = form 6 (one ++ scl (-1) ps) := form_ext fun w => by
      have e1 : coef (scl (-1) (form 6 ps)) w = -1 * coef (form 6 ps) w := lin_scl
      have e2 : coef (scl (-1) ps) w = -1 * coef ps w := lin_scl
      rw [coef_app, coef_app, e1, e2, coef_form hd.le]
    rw [e8] at h8
    have hF13 := hF12.same s8
    have hL13 := hL12.same s8
    -- [('', (1, 1))] + less_all(first)
    refine ⟨(by show 2 ≤ sizeLine; rw [sizeLine_eq]; decide), fun t1 nt1 => ?_⟩
    have s9 := Same.upd nt1 (o := .tup [.int 1, .int 1])
    have ht1 : FrQ (upd H8 t1 (.tup [.int 1, .int 1])) t1 1 := upd_same
    generalize upd H8 t1 (.tup [.int 1, .int 1]) = H9 at *
    refine ⟨(by show 2 ≤ sizeLine; rw [sizeLine_eq]; decide), fun t2 nt2 => ?_⟩
    have s10 := Same.upd nt2 (o := .tup [.str "", .ref t1])
    have ht2 : upd H9 t2 (.tup [.str "", .ref t1]) t2 = some (.tup [.str (tx []), .ref t1]) := upd_same
    have ht1 := s10 _ _ ht1
    generalize upd H9 t2 (.tup [.str "", .ref t1]) = H10 at *
    refine ⟨(by show 1 ≤ sizeLine; rw [sizeLine_eq]; decide), fun q1 nq1 => ?_⟩
    have s11 := Same.upd nq1 (o := .lst [.ref t2])
    have hq1 : LP (upd H10 q1 (.lst [.ref t2])) q1 one := ⟨_, upd_same, .cons ⟨t2, t1, rfl, s11 _ _ ht2, s11 _ _ ht1⟩ .nil⟩
    generalize upd H10 q1 (.lst [.ref t2]) = H11 at *
    have s8b := s9.trans (s10.trans s11)
    refine ⟨_, rfl, l, ps, rfl, hL13.same s8b, by omega, g0.1, fun p12 H12 np12 s12 hL12' => ?_⟩
    obtain ⟨xs, zs, c1, c2, c3, c4, cc⟩ := LP.cat (hq1.same s12) hL12'
    refine ⟨q1, p12, xs, zs, rfl, rfl, c1, c2, by rw [c3, c4, sizeLine_eq, show (scl (-1) ps).length = ps.length from List.length_map _]; show 1 + _ ≤ _; omega, fun q2 nq2 => ?_⟩
    have s13 := Same.upd nq2 (o := .lst (xs ++ zs))
    have hc := cc q2 nq2
    generalize upd H12 q2 (.lst (xs ++ zs)) = H13 at *
    have oc : AllOv 2520 22680 (one ++ scl (-1) ps) := AllOv.app (o1.mono (by decide)) hd.ov.opp
    have lc : Le 6 (one ++ scl (-1) ps) := fun p hp => (List.mem_append.mp hp).elim (fun h => by rw [List.mem_singleton.mp h]; exact Nat.zero_le _) (le_scl hd.le p)
    have lc9 : (one ++ scl (-1) ps).length ≤ 9 := by rw [List.length_append, show (scl (-1) ps).length = ps.length from List.length_map _]; show 1 + _ ≤ 9; omega
    refine ⟨q2, one ++ scl (-1) ps, 6, rfl, hc, lc, by decide, by omega, grow_of oc (by decide) (by decide) (by decide) (by omega), fun p14 H14 kv14 np14 s14 hp14 hD14 => ?_⟩
    have s814 := s8b.trans (s12.trans (s13.trans s14))
    refine ⟨r8, p14, kv14, _, rfl, h8.at.same s814, hp14, hD14, form_nodup _ _, by have := fl13 (one ++ scl (-1) ps); omega, fun H15 s15 => ?_⟩
    have s15a := s8.trans (s814.trans s15)
    exact q H15 (bb.trans (But.of_same s15a)) ((hB12.same s15a).mono (by omega))
end

end Fo

set_option maxHeartbeats 4100000
/-! Several clauses 'except C as n', each with its own name. -/
namespace FoP
open PySem PySem.Spec PyProof.Rows L2
abbrev TX := Addr → Value → Option Addr → TS
/-- the ends of a suite after which slot i is unbound -/
def gone (i : Nat) (D : Ends) : Ends := { nx := fun u G => D.nx (u.set i none) G, rt := D.rt, bk := fun u G => D.bk (u.set i none) G, ct := fun u G => D.ct (u.set i none) G }
/-- what the clauses wish, in turn: class, slot of the name, suite -/
def wAll (K : PySem.W.Frag) (Wo : WX) (D : Ends) : List (Value × Nat × TX) → WX
  | [] => Wo
  | z :: zs => fun cls d u G => ∃ b, PySem.W.exmOne K cls z.1 = some b ∧ (b = true → ∀ a, G a = none → z.2.2 a cls d (gone z.2.1 D) (u.set z.2.1 (some (.ref a))) G) ∧ (b = false → wAll K Wo D zs cls d u G)
inductive HsOk (X : Cx) : List ExceptHandler → List (Value × Nat × TX) → Prop
  | nil : HsOk X [] []
  | cons {x n : Str} {c : Value} {i : Nat} {ts : TX} {b₀ : Stmt} {su : List Stmt} {p1 p2 : Pos} {hs : List ExceptHandler} {zs : List (Value × Nat × TX)} (hi : X.N[i]? = some n) (hl : X.env.kindOf n = some .local) (hc : Names X x c)
      (hu : ∀ (a : Addr) (ob : Obj) (cls : Value) (d : Option Addr) (qs : List (Addr × Obj)), Zc cls d ob → (∃ ws, ob.data = .fields ws) →
        PSs (X.suite a ((a, ob) :: qs)) (b₀ :: su) (ts a cls d)) (r : HsOk X hs zs) :
      HsOk X (.ExceptHandler (some (.Name x p1)) (some n) (b₀ :: su) p2 :: hs) ((c, i, ts) :: zs)
section
variable {X : Cx} {body : List Stmt} {h0 : ExceptHandler} {hs : List ExceptHandler} {zs : List (Value × Nat × TX)} {pos : Pos} {tb : WX → TS} {Wo : WX}
theorem ps_try_all (es : X.stack = X.env :: X.outer) (ef : X.env.frame = some X.env.locals) (nd : X.N.Nodup) (tk : Takes X Wo)
    (hb : ∀ (W : WX) (qs : List (Addr × Obj)) (xe : Value → Shared → Prop), Takes (X.tr qs xe) W → PassesOwn (model X.prog X.w) X.A X.env xe →
      PSs (X.tr qs xe) body (tb W)) (hk : HsOk X (h0 :: hs) zs) :
    PS X (.Try body (h0 :: hs) [] [] pos) (fun D u G => tb (wAll X.K Wo D zs) D u G) := by
  refine ⟨fun ps s u G D I w0 => ?_⟩
  have ok := I.ok
  have efr : X.A.frames = some (X.env :: X.outer) := by rw [ok.frames, es]
  refine wpAny_Try_except (wpAny_mono ((hb (wAll X.K Wo D zs) (X.pn ++ ps) (fun x t1 => wpAny (model X.prog X.w) X.A (noteFrame x X.env) (fun _ t2 => wpAny (model X.prog X.w) X.A (setFlight x none) (fun _ t3 =>
    wpAny (model X.prog X.w) X.A (handleBy x X.env (h0 :: hs)) (SP X ps D) X.xe t3) X.xe t2) X.xe t1) (fun v t xx => ?_) PassesOwn.looking).run [] s u G D (I.toTry _) w0) (fun f t q => ?_) (fun x t q => q))
  · obtain ⟨a, B, sI, ps', u', G', cls, d, rfl, J0, nb, up, sky, na, os, ag, w⟩ := xx
    have J1 : Inv X ps u' G' sI := J0.ofTry ok
    have sk1 : Sky B (X.env :: X.outer) a (Zc cls d) X.env.locals t.heap := by rw [← es]; exact sky
    change wpAny (model X.prog X.w) X.A (noteFrame (.ref a) X.env) _ _ _
    refine Sky.land Zc.steady efr ef sk1 fun g3 fl3 up3 => ?_
    have J3 : Inv X ps u' G' { t with heap := g3 } := J1.landed nb fl3.1 (up.trans up3) os ag
    obtain ⟨ob3, ws3, e3, z3, d3⟩ := fl3.there
    have nfr : a ∉ frs (X.env :: X.outer) := fun hm => by
      obtain ⟨_, o', e', hn⟩ := fl3.2.2.1.mem hm
      rw [e3] at e'; cases e'
      exact hn _ d3
    have nL : a ≠ X.env.locals := fun z => nfr (List.mem_filterMap.mpr ⟨X.env, List.mem_cons_self, by rw [ef, z]⟩)
    have nF : a ∉ X.fs := fun hm => by
      obtain ⟨y, hy, q⟩ := List.mem_filterMap.mp hm
      exact nfr (List.mem_filterMap.mpr ⟨y, List.mem_cons_of_mem _ hy, q⟩)
    have S3 := J3.suite e3 d3 na nL nF
    have go : ∀ {ks : List ExceptHandler} {ys : List (Value × Nat × TX)}, HsOk X ks ys → wAll X.K Wo D ys cls d u' G' →
        wpAny (model X.prog X.w) X.A (handleBy (.ref a) X.env ks) (SP X ps D) X.xe { t with heap := g3 } := by
      intro ks ys kk
      induction kk with
      | nil =>
        intro w
        refine wpAny_handleBy_nil ?_
        obtain ⟨k1, k2, k3, oe, vs, T, oT, ts', he, hz, hd, h1, hr⟩ := id fl3
        unfold PySem.passOn
        refine wpAny_bind (wpAny_field he hd h1 ?_)
        rw [if_neg (show ¬ ((Value.ref T == Value.none) = true) from by simp)]
        have fin : wpAny (model X.prog X.w) X.A (setFlight (.ref a) X.env.frame) (fun _ t4 => wpAny (model X.prog X.w) X.A (throw (.ref a) : Sem Flow) (SP X ps D) X.xe t4) X.xe { t with heap := g3 } := by
          rw [ef]
          exact HandSPX.setFlight_upZ fl3 fun g4 hh4 up4 => wpAny_throw (tk _ _ ⟨a, B, sI, ps, u', G', cls, d, rfl, J1, nb, (up.trans up3).trans up4, .inr (.inr (by rw [es]; exact hh4)), na, os, ag, w⟩)
        first
          | exact wpAny_bind (wpAny_pure (wpAny_bind fin))
          | exact wpAny_bind fin
      | @cons x n c i ts b₀ su p1 p2 ks2 ys2 hi hl hc hu r ih =>
        intro w
        obtain ⟨b, eb, yes, no⟩ := w
        have hloc : Loc X.env.scope n := .inl hl
        refine wpAny_handleBy_cons (codeAny_handlers_test ?_) (by intro q; cases q)
        have LT : PySem.W.Looks (model X.prog X.w) g3 (typeOf (.ref a)) cls := fun A Q E s k q => wpAny_typeOf_ref (k _ _ e3) (by rw [z3.1]; exact q)
        have LM := PySem.W.exm_one (M := model X.prog X.w) (J3.kIn) LT eb
        have test : ∀ {Q E : Value → Shared → Prop}, Q c { t with heap := g3 } → wpAny (model X.prog X.w) (X.A.mark (some (.ref a))) (eval (.Name x p1) X.env) Q E { t with heap := g3 } := fun {Q E} q => by
          obtain ⟨hg, hd, hm | ⟨hm, hv, hn⟩⟩ := hc
          · exact ld_glob (X := X.suite a ((a, ob3) :: (X.pn ++ ps))) S3 hg hm q hd
          · exact ld_blt (X := X.suite a ((a, ob3) :: (X.pn ++ ps))) S3 hg hm hv q hn hd
        refine test (LM.here ?_)
        cases b with
        | false => exact (show wpAny _ X.A (handleBy (.ref a) X.env ks2) _ _ _ from ih (no rfl))
        | true =>
          refine codeAny_handlers_suite_as (HandSPX.lands_againZ fl3 fun g4 fl4 up4 => ?_)
          have J4 : Inv X ps u' G' { t with heap := g4 } := J1.landed nb fl4.1 ((up.trans up3).trans up4) os ag
          obtain ⟨ob4, ws4, e4, z4, d4⟩ := fl4.there
          have S4 := J4.suite e4 d4 na nL nF
          refine store_ok (X := X.suite a ((a, ob4) :: (X.pn ++ ps))) (v := .ref a) S4 nd hi hloc rfl (fun t5 S5 => ?_) (.inr hl)
          refine wpAny_mono ((hu a ob4 cls d (X.pn ++ ps) z4 ⟨_, d4⟩).run [] t5 _ G' _ S5 (yes rfl a na)) (fun f t6 q6 => ?_) (fun _ _ z => False.elim z)
          have bye : ∀ {u6 : L2.St} {G6 : Hp} {Q : Shared → Prop}, Inv (X.suite a ((a, ob4) :: (X.pn ++ ps))) [] u6 G6 t6 → (∀ t7, Inv X ps (u6.set i none) G6 t7 → Q t7) →
              wpAny (model X.prog X.w) X.A (do bindName X.env n .none; unbindBehindTheSuite X.env n p2) (fun _ t7 => Q t7) X.xe t6 := fun {u6 G6 Q} S6 k => gone_ok (S6.unsuite ok) nd hi hl k
          cases f with
          | next => obtain ⟨_, _, S6, k6⟩ := q6; exact bye S6 fun t7 J7 => ⟨_, _, J7, k6⟩
          | brk => obtain ⟨_, _, S6, k6⟩ := q6; exact bye S6 fun t7 J7 => ⟨_, _, J7, k6⟩
          | cont => obtain ⟨_, _, S6, k6⟩ := q6; exact bye S6 fun t7 J7 => ⟨_, _, J7, k6⟩
          | ret v => obtain ⟨_, _, _, S6, r6, k6⟩ := q6; exact bye S6 fun t7 J7 => ⟨_, _, _, J7, r6, k6⟩
    exact go hk w
  · cases f with
    | next => obtain ⟨_, _, J, k⟩ := q; exact wpAny_execs_nil ⟨_, _, J.ofTry ok, k⟩
    | brk => obtain ⟨_, _, J, k⟩ := q; exact ⟨_, _, J.ofTry ok, k⟩
    | cont => obtain ⟨_, _, J, k⟩ := q; exact ⟨_, _, J.ofTry ok, k⟩
    | ret v => obtain ⟨_, _, _, J, r, k⟩ := q; exact ⟨_, _, _, J.ofTry ok, r, k⟩
end
end FoP
namespace FoP
open PySem PySem.Spec PyProof.Rows L2
/-! ### list(text) -/
def chs (z : Str) : List V := z.cps.toList.map fun c => V.str ⟨#[c]⟩
theorem chs_len (z : Str) : (chs z).length = z.cps.size := by simp [chs]
theorem call_list_tx {X : Cx} (hc : X.calm = true) : CallR X (.type "list") (fun xs H Q => ∃ z : Str, xs = [.str z] ∧ z.cps.size ≤ 1000 ∧ ∀ p, H p = none → Q (.ref p) (upd H p (.lst (chs z)))) := by
  intro pins s u G xs us Q I r q
  obtain ⟨z, rfl, hz, q⟩ := q
  obtain ⟨v, rfl, rx⟩ := vals1 r
  obtain ⟨t, rfl⟩ := rx
  refine call_list_str (I.ok.hd hc) z t (fun g' tk acc c' hk e' hi => ?_) (by rw [sizeLine_eq]; omega)
  have hv : Vals (chs z) acc.toList := vals_of_at (by rw [chs_len, Array.length_toList, hi.1]) fun j x y e1 e2 => by
    rw [Array.getElem?_toList] at e2
    obtain ⟨c, w, h1, h2⟩ := hi.2 j y e2
    unfold chs at e1
    rw [List.getElem?_map, Array.getElem?_toList, h1] at e1
    cases e1
    exact ⟨w, h2⟩
  refine ⟨.ref s.heap.objs.size, upd G s.heap.objs.size (.lst (chs z)), I.laid (t' := tk) hk (Nat.le_refl _) (show ObjOk X.prog X.w _ _ _ (.lst (chs z)) from ⟨?_, acc.toList, c', hv, ?_⟩), rfl, q _ (I.hok.fresh (Nat.le_refl _))⟩
  · rw [chs_len, sizeLine_eq]; omega
  · rw [Array.toArray_toList]; exact e'
end FoP
namespace FoP
open PySem PySem.Spec PyProof.Rows L2
/-- what is equal to itself without a look inside -/
def SelfEq (v : V) : Prop := flatB v = true ∨ ∃ c, v = .ref c
theorem self_at {A : Around} {s : Shared} {v : V} {u t : Value} (h : SelfEq v) (r : RelV v u) (q : RelV v t) : SeqAt.EqAt A s u t true := by
  rcases h with h | ⟨c, rfl⟩
  · exact eqAt_same r q h
  · cases (show u = Value.ref c from r)
    cases (show t = Value.ref c from q)
    exact SeqAt.EqAt.same _
/-- (..) != (..), two tuples of the same two things -/
theorem op_neSame {X : Cx} (hu : X.A.units < cLine) : OpR X (compareOp .NotEq) (fun x y H Q => ∃ a b z v, x = .ref a ∧ y = .ref b ∧ SqT X.K H a [.str z, v] ∧ SqT X.K H b [.str z, v] ∧ SelfEq v ∧ Q (.bl false) H) := by
  intro pz s τ H x y v u Q I rv ru h
  obtain ⟨a, b, z, d, rfl, rfl, ha, hb, sd, q⟩ := h
  cases rv
  cases ru
  obtain ⟨as, ra, pa, _⟩ := I.tuple ha
  obtain ⟨bs, rb, pb, _⟩ := I.tuple hb
  obtain ⟨a0, a1, rfl, q0, q1⟩ := Vals.two ra
  obtain ⟨b0, b1, rfl, r0, r1⟩ := Vals.two rb
  have := SeqAt.RcNeAt.tuples (A := X.A) (s := s) (e := fun _ => true) pa pb hu (fun j h1 h2 => by
    match j, h1, h2 with
    | 0, _, _ => exact self_at (.inl rfl) q0 r0
    | 1, _, _ => exact self_at sd q1 r1
    | j + 2, h1, _ => exact absurd (show j + 2 < 2 from h1) (by omega))
  exact this X.prog X.w _ _ ⟨.bl false, H, I, rfl, q⟩
end FoP

set_option maxHeartbeats 4100000
namespace Fo
open PySem PySem.Spec PyProof.Rows L2
/-! ### a Formula refused -/
open FoWd
def spRefused : Sp := fun vs H Q _ => ∃ (a : Addr) (y : V) (nm : Str), vs = [.ref a] ∧ ((Keys3 H a y ∧ NoRow H y ∧ nm = "row") ∨ (H a = some (.dK [(.inr (tx [true]), y), (.inr (tx [false]), .non)]) ∧ NoNum H y ∧ (∀ b, y = .ref b → b ≠ a) ∧ nm = "number")) ∧
  ∀ t H', But a H H' → H' t = some (.lst [.str nm, y]) → Q (.ref t) H'
section
variable {P : Program} {w : World} {K : PySem.W.Frag} {mg : Str → Option Value} {base : Heap}
theorem ok_refusedL (T : Tx K mg) : FnOk P w K mg base CX0 8 (He.ga K "_law_refused") T.fd_refused ["_law_terms_here"] spRefused := by
  refine T.F_refused.ok sc_refused (fun vs H Q E h => ?_) (fun cdv A outer s H vs Q E hr h => ?_)
  · obtain ⟨a, y, nm, rfl, _⟩ := h
    rfl
  · obtain ⟨a, y, nm, rfl, h, Qr⟩ := h
    refine ⟨_, (pss_cons (FoP.ps_try_all (Wo := fun _ _ _ _ => False) rfl rfl sc_refused.nd takes0 (fun W pn xe tk _ => pss_one (ps_expr (FoC.pe_makeS T.mk_F (ok_FinitX T) (hr.mono (by decide)) (by rfl) T.c_Formula T.b_Formula_init .nil (fun σ => passAt tk σ) (pa_cons (pv 0) pa_nil)))) (.cons (i := 1) rfl rfl ⟨rfl, by decide, Or.inl T.c_BadRow⟩ (fun a oe cls d pn hz hf => pss_one (ps_ret (pe_lst (pa_cons pe_str (pa_cons (FoC.pe_exF T.e_BadRow hz hf List.mem_cons_self (pv 1)) pa_nil))))) (.cons (i := 1) rfl rfl ⟨rfl, by decide, Or.inl T.c_BadNumber⟩ (fun a oe cls d pn hz hf => pss_one (ps_ret (pe_lst (pa_cons pe_str (pa_cons (FoC.pe_exF T.e_BadNumber hz hf List.mem_cons_self (pv 1)) pa_nil))))) .nil)))
      (pss_one (ps_ret (pe_lst pa_nil)))), ?_⟩
    refine ⟨_, rfl, fun x dx nx ndx ne => ?_⟩
    have sm2 : Same H (upd (upd H dx (.own x)) x (.ins (FmC K) dx [])) := fun b u e => by
      rw [upd_ne (ne_of_none e nx), upd_ne (ne_of_none e ndx)]
      exact e
    have ex : upd (upd H dx (.own x)) x (.ins (FmC K) dx []) x = some (.ins (FmC K) dx []) := upd_same
    rcases h with ⟨hk, hN, rfl⟩ | ⟨ha, hN, hya, rfl⟩
    · have ha : ∃ o, H a = some o := by
        rcases hk with ⟨v1, v2, k, v3, e, _⟩ | e
        · exact ⟨_, e⟩
        · exact ⟨_, e⟩
      obtain ⟨o, ha⟩ := ha
      refine ⟨x, dx, a, y, rfl, ex, .inl ⟨?_, ?_, fun d H2 b2 hd => ?_⟩⟩
      · rcases hk with ⟨v1, v2, k, v3, e, ek⟩ | e
        · exact .inl ⟨v1, v2, k, v3, sm2 _ _ e, ek⟩
        · exact .inr (sm2 _ _ e)
      · rcases hN with hN | hN
        · cases hN with
          | non => exact .inl .non
          | bl b => exact .inl (.bl b)
          | int i => exact .inl (.int i)
          | tup e => exact .inl (.tup (sm2 _ _ e))
        · exact .inr hN
      · have bH : But a H H2 := fun b u e n => b2 _ _ (sm2 _ _ e) n
        refine ⟨true, T.e_BadRow.me, fun _ x3 nx3 => ?_, fun z => nomatch z⟩
        refine ⟨_, rfl, rfl, rfl, d, _, _, rfl, hd, rfl, (by show 2 ≤ sizeLine; rw [sizeLine_eq]; decide), fun t nt => ?_⟩
        refine Qr t _ (fun b u e n => ?_) upd_same
        rw [upd_ne (ne_of_none (bH _ _ e n) nt)]
        exact bH _ _ e n
    · refine ⟨x, dx, a, y, rfl, ex, .inr ⟨sm2 _ _ ha, hN.same sm2, hya, fun d H2 b2 hd => ?_⟩⟩
      have bH : But a H H2 := fun b u e n => b2 _ _ (sm2 _ _ e) n
      refine ⟨false, T.x_BadNumber_BadRow, (fun z => nomatch z), fun _ => ⟨true, T.e_BadNumber.me, fun _ x3 nx3 => ?_, fun z => nomatch z⟩⟩
      refine ⟨_, rfl, rfl, rfl, d, _, _, rfl, hd, rfl, (by show 2 ≤ sizeLine; rw [sizeLine_eq]; decide), fun t nt => ?_⟩
      refine Qr t _ (fun b u e n => ?_) upd_same
      rw [upd_ne (ne_of_none (bH _ _ e n) nt)]
      exact bH _ _ e n
end

end Fo

set_option maxHeartbeats 4100000
/-! math.lcm of greater whole numbers. -/
namespace FoL
open PySem PySem.Spec PyProof.Rows L2 PySem.W
theorem log_div {n k : Nat} (h : n < 2 ^ k) (l : k ≤ 13000) : ¬ n.log2 / 30 + 1 > 450 := by
  have z : n.log2 ≤ k := by
    by_cases h0 : n = 0
    · subst h0
      rw [Nat.log2_zero]
      exact Nat.zero_le _
    · exact Nat.le_of_lt ((Nat.log2_lt h0).mpr h)
  omega
/-- lcm(a, b), a and b of at most 6,000 bits -/
def rLcm : List V → Hp → VK → Prop := fun vs H Q => ∃ a b : Int, vs = [.int a, .int b] ∧ a.natAbs < 2 ^ 6000 ∧ b.natAbs < 2 ^ 6000 ∧ Q (.int ((Nat.lcm a.natAbs b.natAbs : Nat) : Int)) H
theorem cr_lcm {X : Cx} : CallR X (.builtin "math.lcm") rLcm := by
  intro pz s τ H vs us Q I r h
  obtain ⟨a, b, rfl, ha, hb, q⟩ := h
  obtain ⟨t, u, rfl⟩ := Vals.int2 r
  have e : (Nat.lcm 1 a.natAbs).lcm b.natAbs = Nat.lcm a.natAbs b.natAbs := by rw [Nat.lcm_one_left]
  have p1 : 1 < 2 ^ 6000 := Nat.one_lt_two_pow (by decide)
  have hm : Nat.lcm a.natAbs b.natAbs < 2 ^ 12000 := by
    have z : Nat.lcm a.natAbs b.natAbs ≤ a.natAbs * b.natAbs := by
      unfold Nat.lcm
      exact Nat.div_le_self _ _
    have z2 : a.natAbs * b.natAbs < 2 ^ 6000 * 2 ^ 6000 := Nat.mul_lt_mul'' ha hb
    rw [← Nat.pow_add] at z2
    exact Nat.lt_of_le_of_lt z z2
  have m1 : max 1 a.natAbs < 2 ^ 6000 := Nat.max_lt.mpr ⟨p1, ha⟩
  have m2 : max a.natAbs b.natAbs < 2 ^ 6000 := Nat.max_lt.mpr ⟨ha, hb⟩
  have hsz : ((((Nat.lcm 1 a.natAbs).lcm b.natAbs : Nat) : Int)).natAbs.log2 < bitsLine := by
    rw [e, Int.natAbs_natCast]
    have z : (Nat.lcm a.natAbs b.natAbs).log2 ≤ 12000 := by
      by_cases h0 : Nat.lcm a.natAbs b.natAbs = 0
      · rw [h0, Nat.log2_zero]
        exact Nat.zero_le _
      · exact Nat.le_of_lt ((Nat.log2_lt h0).mpr hm)
    exact Nat.lt_of_le_of_lt z (by decide +kernel)
  refine call_function_meets MGF.kind_lcm MGF.plain_lcm MGF.entry_lcm (MGF.args_lcm _ _) (mg_run_lcm a t b u (log_div m1 (by decide)) (log_div m2 (by decide)) hsz).meets ?_
  rw [e]
  exact ⟨.int _, H, I.tok _, ⟨_, rfl⟩, q⟩
section
variable {X : Cx} {CX : CXT} {k : Nat} {f C D : Addr} {fd : FuncData} {ps : List Str} {sp : Sp} {E : XK}
/-- len(a), a of an own class with its own __len__ -/
def rLenO (C : Addr) (sp : Sp) (E : XK) : List V → Hp → VK → Prop := fun xs H Q => ∃ a dx fs, xs = [.ref a] ∧ H a = some (.ins C dx fs) ∧ sp [.ref a] H (fun v H' => ∃ n : Nat, v = .int n ∧ (n : Int) < 2 ^ 63 ∧ Q (.int n) H') E
theorem call_lenO (F : FnOk X.prog X.w X.K X.mg X.base CX k f fd ps sp) (hr : Room (k + 1) X.A) (hb : Binds X.K fd ps []) (hx : Passes CX X E) (h1 : PySem.W.findIn X.K (.ref C) "__len__" = some (some (.ref f))) (h2 : PySem.W.isFn X.K (.ref f) = true) :
    CallR X (.builtin "len") (rLenO C sp E) := by
  intro pz s τ H xs us Q I r h
  obtain ⟨a, dx, fs, rfl, ea, q⟩ := h
  obtain ⟨u, rfl, ru⟩ := vals1 r
  cases ru
  obtain ⟨mA, J, _⟩ := ins_get I.hok ea
  obtain ⟨od, J, _⟩ := J.look
  obtain ⟨m, hF⟩ := I.fr
  refine PySem.W.len_K hF I.ok.mod.kin J h1 h2 ?_
  refine wpAny_mono (FoN.run_in1 (us := [.ref a]) (vs := [.ref a]) F hr hb hx I (.cons rfl .nil) q) (fun v s' z => ?_) fun _ _ z => z
  obtain ⟨y, H', I', rv, n, rfl, n1, q'⟩ := z
  obtain ⟨t, rfl⟩ := rv
  exact ⟨⟨by omega, n1⟩, .int n, H', I'.tok _, ⟨_, rfl⟩, q'⟩
/-- a == b by an own method, b an object of another own class -/
def rCmpO (C D : Addr) (sp : Sp) (E : XK) : R2 := fun x y H Q => ∃ a dx fs b dy gs, x = .ref a ∧ H a = some (.ins C dx fs) ∧ y = .ref b ∧ H b = some (.ins D dy gs) ∧ sp [x, y] H Q E
theorem op_ownO {op : CmpOp} (F : FnOk X.prog X.w X.K X.mg X.base CX k f fd ps sp) (hr : Room k X.A) (hb : Binds X.K fd ps []) (hx : Passes CX X E) (B : FoA.CmpC X.K C f op) (no : PySem.W.subIn X.K (.ref D) (.ref C) = some false)
    (ho : ∀ v u : Value, compareOp op v u = richCompare op v u) : OpR X (compareOp op) (rCmpO C D sp E) := by
  intro pz s τ H x y v u Q I rx ry h
  obtain ⟨a, dx, fs, b, dy, gs, rfl, ea, rfl, eb, q⟩ := h
  cases rx
  cases ry
  rw [ho]
  obtain ⟨mA, J, _⟩ := ins_get I.hok ea
  obtain ⟨od, J, _⟩ := J.look
  obtain ⟨mB, J', _⟩ := ins_get I.hok eb
  obtain ⟨od', J', _⟩ := J'.look
  obtain ⟨m, hF⟩ := I.fr
  have go := run_fn (us := [.ref a, .ref b]) (vs := [.ref a, .ref b]) (dvs := []) F hr hb .nil hx I (.cons rfl (.cons rfl .nil)) (by simpa using q)
  have nf : PySem.W.notFirst X.K C (.ref D) = true := by
    unfold PySem.W.notFirst
    rw [no]
    exact Bool.or_eq_true_iff.mpr (.inr (beq_self_eq_true _))
  exact PySem.W.cmp_K hr.units0 hF I.ok.mod.kin J J'.type nf B.at_ B.fn (wpAny_mono go (fun r s' z => FoA.back_ok z) fun _ _ z => z)
end
end FoL

set_option maxHeartbeats 4100000
namespace Fo
open PySem PySem.Spec PyProof.Rows L2
/-! ### the law -/
open FoWd
def spLaw (K : PySem.W.Frag) : Sp := fun vs H Q _ => ∃ (a : Addr) (ns : List Int), vs = [.ref a] ∧ SqL K H a (ns.map V.int) ∧ ns.length ≤ 63 ∧ ∀ H', Q (.bl true) H'
theorem bl_ne {H : Hp} {i j : Bool} {Q : VK} (e : i = j) (q : Q (.bl false) H) : rNe (.bl i) (.bl j) H Q := by
  refine ⟨rfl, ?_⟩
  subst e
  rw [decide_eq_true rfl]
  exact q
theorem FmTwo.same {K : PySem.W.Frag} {H H' : Hp} {a b : Addr} {f g : Ps} (h : FmTwo K H a b f g) (s : Same H H') : FmTwo K H' a b f g := by
  obtain ⟨dx, d, kf, dy, u, kg, n, e1, e2, e3, f1, f2, f3⟩ := h
  exact ⟨dx, d, kf, dy, u, kg, n, s _ _ e1, s _ _ e2, e3.nld rr_solidD (same_nld s), s _ _ f1, s _ _ f2, f3.nld rr_solidD (same_nld s)⟩
theorem FmTwo.one {K : PySem.W.Frag} {H : Hp} {a b : Addr} {f g : Ps} (h : FmTwo K H a b f g) : FmAt K H a f := by
  obtain ⟨dx, d, kf, dy, u, kg, n, e1, e2, e3, f1, f2, f3⟩ := h
  exact ⟨dx, d, kf, e1, e2, e3⟩
structure Lw (K : PySem.W.Frag) (H : Hp) (b a c l m p r : Addr) (kp kr : List (Key × V)) (ps qs : Ps) (n : Nat) : Prop where
  bx : BoxAt H b n
  two : FmTwo K H a c (form 6 ps) (form 6 qs)
  f1 : LP H l ps
  f2 : LP H m qs
  hp : H p = some (.dK kp)
  pd : DL Rq H kp (form 6 ps)
  hr : H r = some (.dK kr)
  rd : DL Rq H kr (form 6 qs)
  lb : l ≠ b
  mb : m ≠ b
theorem Lw.same {K : PySem.W.Frag} {H H' : Hp} {b a c l m p r : Addr} {kp kr : List (Key × V)} {ps qs : Ps} {n : Nat} (h : Lw K H b a c l m p r kp kr ps qs n) (s : Same H H') : Lw K H' b a c l m p r kp kr ps qs n :=
  ⟨h.bx.same s, h.two.same s, h.f1.same s, h.f2.same s, s _ _ h.hp, h.pd.nld rq_solidD (same_nld s), s _ _ h.hr, h.rd.nld rq_solidD (same_nld s), h.lb, h.mb⟩
/-- the last letter twice -/
def dbl (ps : Ps) : Ps := (ps.filter fun p => decide (p.1.length < 6)).map fun p => (p.1 ++ p.1.drop (p.1.length - 1), p.2)
theorem tx_last (w : Wd) : tx w ++ cutS (tx w) (some (-1)) none = tx (w ++ w.drop (w.length - 1)) := by
  have e : cutS (tx w) (some (-1)) none = tx (w.drop (w.length - 1)) := by
    refine TL.ext_tl ?_
    show (((w.map lcode).drop (HT.sIx (tx w).length 0 (some (-1)))).take (HT.sIx (tx w).length (tx w).length none - HT.sIx (tx w).length 0 (some (-1)))) = (w.drop (w.length - 1)).map lcode
    have e1 : HT.sIx (tx w).length 0 (some (-1)) = w.length - 1 := by
      unfold HT.sIx
      rw [tx_len]
      show (if (-1 : Int) < 0 then ((-1 : Int) + (w.length : Int)).toNat else _) = _
      rw [if_pos (by decide)]
      omega
    have e2 : HT.sIx (tx w).length (tx w).length none = w.length := by rw [HT.sIx_none, tx_len]
    rw [e1, e2, List.take_of_length_le (by rw [List.length_drop, List.length_map]; exact Nat.le_refl _), List.map_drop]
  rw [e, tx_app]
theorem dbl_inj {w v : Wd} (h : w ++ w.drop (w.length - 1) = v ++ v.drop (v.length - 1)) : w = v := by
  have len : ∀ u : Wd, (u ++ u.drop (u.length - 1)).length = if u = [] then 0 else u.length + 1 := fun u => by
    cases u with
    | nil => rfl
    | cons a r =>
      rw [if_neg (by simp), List.length_append, List.length_drop]
      simp
  have hl := congrArg List.length h
  rw [len, len] at hl
  by_cases e1 : w = []
  · by_cases e2 : v = []
    · rw [e1, e2]
    · rw [if_pos e1, if_neg e2] at hl
      omega
  · by_cases e2 : v = []
    · rw [if_neg e1, if_pos e2] at hl
      omega
    · rw [if_neg e1, if_neg e2] at hl
      have e3 := congrArg (List.take w.length) h
      rw [List.take_left, List.take_append_of_le_length (by omega), List.take_of_length_le (by omega)] at e3
      exact e3
theorem Drw.turn {ps : Ps} (h : Drw ps) : Drw (turn ps) := ⟨keys_turn h.nd, le_turn h.le, by rw [show (FoWd.turn ps).length = ps.length from List.length_map _]; exact h.l8, h.ov.turn⟩
theorem Drw.opp {ps : Ps} (h : Drw ps) : Drw (scl (-1) ps) := ⟨by rw [keys_scl]; exact h.nd, le_scl h.le, by rw [show (scl (-1) ps).length = ps.length from List.length_map _]; exact h.l8, h.ov.opp⟩
theorem Drw.dbl {ps : Ps} (h : Drw ps) : Drw (dbl ps) := by
  have sub : (ps.filter fun p => decide (p.1.length < 6)).Sublist ps := List.filter_sublist
  refine ⟨?_, fun p hp => ?_, ?_, fun p hp => ?_⟩
  · unfold Fo.dbl FoWd.keys
    rw [List.map_map]
    have nd : ((ps.filter fun p => decide (p.1.length < 6)).map (·.1)).Nodup := List.Nodup.sublist (List.Sublist.map _ sub) h.nd
    unfold List.Nodup at nd ⊢
    rw [List.pairwise_map] at nd ⊢
    exact nd.imp fun {a b} hab z => hab (dbl_inj z)
  · obtain ⟨q, hq, rfl⟩ := List.mem_map.mp hp
    have := of_decide_eq_true (List.mem_filter.mp hq).2
    show (q.1 ++ q.1.drop (q.1.length - 1)).length ≤ 6
    rw [List.length_append, List.length_drop]
    omega
  · unfold Fo.dbl
    rw [List.length_map]
    exact Nat.le_trans sub.length_le h.l8
  · obtain ⟨q, hq, rfl⟩ := List.mem_map.mp hp
    exact h.ov q (List.mem_filter.mp hq).1
theorem Drw.gr {ps : Ps} (h : Drw ps) : Grow 1900 ps := grow_of h.ov (by decide) (by decide) (by decide) (by have := h.l8; omega)
theorem FmN.off {K : PySem.W.Frag} {H H' : Hp} {a p : Addr} {f : Ps} {o : HO} {kt kx : List (Key × V)} (h : FmN K H H' a f) (hp : H p = some o) (hp' : H' p = some (.dK kt)) : FmAt K (upd H' p (.dK kx)) a f := by
  obtain ⟨dx, d, kvs, e0, e1, e2, e3⟩ := h
  refine ⟨dx, d, kvs, ?_, ?_, e3.nld rr_solidD (nld_upd hp' id)⟩
  · rw [upd_ne (fun z => by rw [z, hp'] at e1; cases e1)]
    exact e1
  · rw [upd_ne (fun z => by rw [z, hp] at e0; cases e0)]
    exact e2
theorem same_off {H H' : Hp} {p : Addr} {o : HO} (s : Same H H') (np : H p = none) : Same H (upd H' p o) := fun b u e => by
  rw [upd_ne (ne_of_none e np)]
  exact s _ _ e
/-- what is no row, as the law draws it -/
def WrongV (H : Hp) (y : V) : Prop := y = .str "x" ∨ y = .str "pq " ∨ y = .str "P" ∨ y = .non ∨ y = .int 1 ∨ y = .bl true ∨ ∃ t, y = .ref t ∧ H t = some (.tup [.str "p"])
theorem WrongV.nld {H H' : Hp} {y : V} (h : WrongV H y) (s : NLD H H') : WrongV H' y := by
  rcases h with h | h | h | h | h | h | ⟨t, e, h⟩
  · exact .inl h
  · exact .inr (.inl h)
  · exact .inr (.inr (.inl h))
  · exact .inr (.inr (.inr (.inl h)))
  · exact .inr (.inr (.inr (.inr (.inl h))))
  · exact .inr (.inr (.inr (.inr (.inr (.inl h)))))
  · exact .inr (.inr (.inr (.inr (.inr (.inr ⟨t, e, s _ _ h trivial⟩)))))
theorem WrongV.row {H : Hp} {y : V} (h : WrongV H y) : NoRow H y := by
  rcases h with rfl | rfl | rfl | rfl | rfl | rfl | ⟨t, rfl, h⟩
  · exact .inr ⟨_, rfl, by decide +kernel, by decide +kernel⟩
  · exact .inr ⟨_, rfl, by decide +kernel, by decide +kernel⟩
  · exact .inr ⟨_, rfl, by decide +kernel, by decide +kernel⟩
  · exact .inl .non
  · exact .inl (.int 1)
  · exact .inl (.bl true)
  · exact .inl (.tup h)
theorem WrongV.key {H : Hp} {y : V} (h : WrongV H y) : FoOd.OddK H y ∨ ∃ k : Key, kV k = y ∧ k ≠ .inr (tx [true]) ∧ k ≠ .inr (tx [false]) := by
  have ne : ∀ z : Str, z ≠ tx [true] → z ≠ tx [false] → ∃ k : Key, kV k = .str z ∧ k ≠ .inr (tx [true]) ∧ k ≠ .inr (tx [false]) := fun z h1 h2 => ⟨.inr z, rfl, fun e => h1 (by injection e), fun e => h2 (by injection e)⟩
  rcases h with rfl | rfl | rfl | rfl | rfl | rfl | ⟨t, rfl, h⟩
  · exact .inr (ne _ (by decide +kernel) (by decide +kernel))
  · exact .inr (ne _ (by decide +kernel) (by decide +kernel))
  · exact .inr (ne _ (by decide +kernel) (by decide +kernel))
  · exact .inl (.inl rfl)
  · exact .inr ⟨.inl 1, rfl, (fun e => nomatch e), (fun e => nomatch e)⟩
  · exact .inl (.inr (.inl rfl))
  · exact .inl (.inr (.inr ⟨t, ["p"], rfl, h⟩))
theorem WrongV.dp {K : PySem.W.Frag} {H : Hp} {y : V} (h : WrongV H y) : ∃ d, Dp K H y d ∧ SeqAt.shaped (.list [.str "row", d]) = true := by
  rcases h with rfl | rfl | rfl | rfl | rfl | rfl | ⟨t, rfl, h⟩
  · exact ⟨_, .str _, by decide +kernel⟩
  · exact ⟨_, .str _, by decide +kernel⟩
  · exact ⟨_, .str _, by decide +kernel⟩
  · exact ⟨_, .non, by decide +kernel⟩
  · exact ⟨_, .int _, by decide +kernel⟩
  · exact ⟨_, .bl _, by decide +kernel⟩
  · exact ⟨_, .tup (SqT.of h) (.cons (.str _) .nil), by decide +kernel⟩
theorem wrong_at {H : Hp} {t : Addr} (ht : H t = some (.tup [.str "p"])) (k : Nat) (h : k < 7) : ∃ y, [V.str "x", V.str "pq ", V.str "P", V.non, V.int 1, V.ref t, V.bl true][k]? = some y ∧ WrongV H y :=
  match k, h with
  | 0, _ => ⟨_, rfl, .inl rfl⟩
  | 1, _ => ⟨_, rfl, .inr (.inl rfl)⟩
  | 2, _ => ⟨_, rfl, .inr (.inr (.inl rfl))⟩
  | 3, _ => ⟨_, rfl, .inr (.inr (.inr (.inl rfl)))⟩
  | 4, _ => ⟨_, rfl, .inr (.inr (.inr (.inr (.inl rfl))))⟩
  | 5, _ => ⟨_, rfl, .inr (.inr (.inr (.inr (.inr (.inr ⟨t, rfl, ht⟩)))))⟩
  | 6, _ => ⟨_, rfl, .inr (.inr (.inr (.inr (.inr (.inl rfl)))))⟩
/-- what is no number, as the law draws it -/
def OddV (H : Hp) (y : V) : Prop := y = .non ∨ y = .bl true ∨ y = .str "1" ∨ ∃ t, y = .ref t ∧ H t = some (.lst [.int 1])
theorem OddV.same {H H' : Hp} {y : V} (h : OddV H y) (s : Same H H') : OddV H' y := by
  rcases h with h | h | h | ⟨t, e, h⟩
  · exact .inl h
  · exact .inr (.inl h)
  · exact .inr (.inr (.inl h))
  · exact .inr (.inr (.inr ⟨t, e, s _ _ h⟩))
theorem OddV.no {H : Hp} {y : V} (h : OddV H y) : NoNum H y := by
  rcases h with rfl | rfl | rfl | ⟨t, rfl, h⟩
  · exact .non
  · exact .bl true
  · exact .str _
  · exact .lst h
theorem OddV.dp {K : PySem.W.Frag} {H : Hp} {y : V} (h : OddV H y) : ∃ d, Dp K H y d ∧ SeqAt.shaped (.list [.str "number", d]) = true := by
  rcases h with rfl | rfl | rfl | ⟨t, rfl, h⟩
  · exact ⟨_, .non, by decide +kernel⟩
  · exact ⟨_, .bl _, by decide +kernel⟩
  · exact ⟨_, .str _, by decide +kernel⟩
  · exact ⟨_, .lst (SqL.of h) (.cons (.int _) .nil), by decide +kernel⟩
theorem odd_at {H : Hp} {t : Addr} (ht : H t = some (.lst [.int 1])) (k : Nat) (h : k < 4) : ∃ y, [V.non, V.bl true, V.str "1", V.ref t][k]? = some y ∧ OddV H y :=
  match k, h with
  | 0, _ => ⟨_, rfl, .inl rfl⟩
  | 1, _ => ⟨_, rfl, .inr (.inl rfl)⟩
  | 2, _ => ⟨_, rfl, .inr (.inr (.inl rfl))⟩
  | 3, _ => ⟨_, rfl, .inr (.inr (.inr ⟨t, rfl, ht⟩))⟩
theorem merge3 {k : Key} {v1 v2 v3 : V} (h1 : k ≠ .inr (tx [true])) (h2 : k ≠ .inr (tx [false])) : mergeK [] [(.inr (tx [true]), v1), (.inr (tx [false]), v2), (k, v3)] = [(.inr (tx [true]), v1), (.inr (tx [false]), v2), (k, v3)] := by
  have e : ¬ (Sum.inr (tx [true]) : Key) = .inr (tx [false]) := fun z => by
    have := tx_inj (by injection z : tx [true] = tx [false])
    cases this
  simp [mergeK, putK, e, Ne.symm h1, Ne.symm h2]
theorem merge2 {v1 v2 : V} : mergeK [] [((.inr (tx [true]) : Key), v1), (.inr (tx [false]), v2)] = [(.inr (tx [true]), v1), (.inr (tx [false]), v2)] := by
  have e : ¬ (Sum.inr (tx [true]) : Key) = .inr (tx [false]) := fun z => by
    have := tx_inj (by injection z : tx [true] = tx [false])
    cases this
  simp [mergeK, putK, e]
theorem gen_st {st u : TS} {D : Ends} {τ : L2.St} {H : Hp} (C : L2.St → Hp → Prop) (h1 : ∀ D' : Ends, (∀ τ' H', C τ' H' → D'.nx τ' H') → st D' τ H) (h2 : ∀ τ' H', C τ' H' → u D τ' H') : tSeq st u D τ H := h1 { D with nx := u D } h2
theorem gn_k {i : Nat} {v : V} {τ : L2.St} {H : Hp} {Q : L2.St → Hp → Prop} (h : Q (τ.set i (some v)) H) : gName i v τ H Q := h
section
variable {P : Program} {w : World} {K : PySem.W.Frag} {mg : Str → Option Value} {base : Heap}
set_option maxHeartbeats 8000000 in
theorem ok_law (T : Tx K mg) : FnOk P w K mg base CX0 18 (He.ga K "law") T.fd_law ["_law_script"] (spLaw K) := by
  refine T.F_law.ok sc_law (fun vs H Q E h => ?_) (fun cdv A outer s H vs Q E hr h => ?_)
  · obtain ⟨a, ns, rfl, _⟩ := h
    rfl
  · obtain ⟨a, ns, rfl, hS, hl, q⟩ := h
    obtain ⟨ds, vd, bd⟩ := bind_init1 T
    refine ⟨_, (pss_cons (ps_set (i := 1) sc_law.nd rfl (.inl rfl) (pe_call (ok_box T) (hr.mono (by decide)) (by rfl) T.g_box T.F_box.kp T.b_box .nil pass0 (pa_cons (pv 0) (pa_cons pe_int pa_nil))))
      (pss_cons (ps_set (i := 2) sc_law.nd rfl (.inl rfl) (pe_call (ok_termsR T) (hr.mono (by decide)) (by rfl) T.g_terms T.F_terms.kp T.b_terms .nil pass0 (pa_cons (pv 1) (pa_cons pe_int (pa_cons pe_int pa_nil)))))
      (pss_cons (ps_set (i := 3) sc_law.nd rfl (.inl rfl) (pe_call (ok_termsR T) (hr.mono (by decide)) (by rfl) T.g_terms T.F_terms.kp T.b_terms .nil pass0 (pa_cons (pv 1) (pa_cons pe_int (pa_cons pe_int pa_nil)))))
      (pss_cons (ps_set (i := 4) sc_law.nd rfl (.inl rfl) (pe_call (ok_take T) (hr.mono (by decide)) (by rfl) T.g_take T.F_take.kp T.b_take .nil pass0 (pa_cons (pv 1) (pa_cons pe_int pa_nil))))
      (pss_cons (ps_if (pt_cmpR op_eq (pv 4) pe_int (nomark _)) (pss_one (ps_set (i := 3) sc_law.nd rfl (.inl rfl) (pe_call (ok_turnedL T) (hr.mono (by decide)) (by rfl) T.g_turned T.F_turned.kp T.b_turned .nil pass0 (pa_cons (pv 2) pa_nil)))) pss_nil)
      (pss_cons (ps_if (pt_cmpR op_eq (pv 4) pe_int (nomark _)) (pss_one (ps_setLc (i := 3) (own := [("_law_row_here", 5), ("_law_x", 6)])  rfl sc_law.nd rfl rfl (sw_true rfl rfl rfl (by decide +kernel)) (pi_list (pe_call (ok_lessL T) (hr.mono (by decide)) (by rfl) T.g_less_all T.F_less_all.kp T.b_less_all .nil pass0 (pa_cons (pv 2) pa_nil))) (blkOk_by (own := [("_law_row_here", 5), ("_law_x", 6)]) (N := ["_law_script", "_law_box_here", "_law_first", "_law_second", "_law_way", "_law_row_here", "_law_x", "_law_passed", "_law_one", "_law_other", "_law_due", "_law_far", "_law_wrong", "_law_odd"]) (sc := defScope s_law) (by decide +kernel)) (fun _ _ _ _ _ => (FoK.pg_tupK (K' := K) (n := 2) rfl (by rfl) (pgs_cons (pg_name (i := 5) sc_law.nd rfl (.inl rfl)) (pgs_cons (pg_name (i := 6) sc_law.nd rfl (.inl rfl)) pgs_nil)))) (fun _ _ _ _ _ => (pts_one (pt_cmpR op_lt (pe_callB call_len_str (by rfl) T.z_len PySem.boot_len (pa_cons (pv 5) pa_nil)) pe_int (nomark _)))) (fun _ _ _ _ _ => (pe_tup (pa_cons (pe_op op_add_str (pv 5) (pe_slice sl_str (pv 5) (po_some (pe_un un_neg pe_int)) po_none)) (pa_cons (pv 6) pa_nil)))))) pss_nil)
      (pss_cons (ps_set (i := 7) sc_law.nd rfl (.inl rfl) pe_dnewK)
      (pss_cons (ps_for PassesOwn.never rfl (pi_list (pv 2)) (pg_tup (by rfl) (pgs_cons (pg_name (i := 5) sc_law.nd rfl (.inl rfl)) (pgs_cons (pg_name (i := 6) sc_law.nd rfl (.inl rfl)) pgs_nil))) (pss_one (ps_dput (Nat.lt_of_le_of_lt (Nat.add_le_add_left (by decide) _) hr.units) (pv 7) (pv 5) (pe_call (ok_handed T) (hr.mono (by decide)) (by rfl) T.g_handed T.F_handed.kp T.b_handed .nil pass0 (pa_cons (pv 6) (pa_cons (pv 1) pa_nil))) rfl)))
      (pss_cons (ps_set (i := 8) sc_law.nd rfl (.inl rfl) (pe_make T.mk_F (ok_Finit T) (hr.mono (by decide)) (by rfl) T.c_Formula T.b_Formula_init .nil pass0 (pa_cons (pv 7) pa_nil)))
      (pss_cons (ps_dput (Nat.lt_of_le_of_lt (Nat.add_le_add_left (by decide) _) hr.units) (pv 7) pe_str pe_int rfl)
      (pss_cons (ps_set (i := 9) sc_law.nd rfl (.inl rfl) (pe_call (ok_formulaF T) (hr.mono (by decide)) (by rfl) T.g_formula T.F_formula.kp T.b_formula .nil pass0 (pa_cons (pv 3) pa_nil)))
      (pss_cons (ps_set (i := 10) sc_law.nd rfl (.inl rfl) (pe_call (ok_formL T) (hr.mono (by decide)) (by rfl) T.g_form T.F_form.kp T.b_form .nil pass0 (pa_cons (pv 2) pa_nil)))
      (pss_cons (ps_set (i := 11) sc_law.nd rfl (.inl rfl) (pe_call (ok_formL T) (hr.mono (by decide)) (by rfl) T.g_form T.F_form.kp T.b_form .nil pass0 (pa_cons (pv 3) pa_nil)))
      (pss_cons (ps_if (PW.pt (pw_or (pt_not (pt_val (pe_call (ok_isL T) (hr.mono (by decide)) (by rfl) T.g_is T.F_is.kp T.b_is .nil pass0 (pa_cons (pv 8) (pa_cons (pv 10) pa_nil))))) (pw_or (pt_not (pt_val (pe_call (ok_isL T) (hr.mono (by decide)) (by rfl) T.g_is T.F_is.kp T.b_is .nil pass0 (pa_cons (pv 9) (pa_cons (pv 11) pa_nil))))) (pw_or1 (pt_cmpR op_ne (pe_cmpR (FoA.op_ownC (ok_Feq T) (hr.mono (by decide)) T.b_Formula_eq pass0 T.cmF_eq (fun _ _ => rfl)) (pv 8) (pv 9) (nomark _)) (pe_cmpR (FoDq.op_eqDo (Nat.lt_of_le_of_lt (Nat.le_add_right _ _) hr.units)) (pv 10) (pv 11) (nomark _)) (nomark _)))))) (pss_one (ps_ret pe_bl)) pss_nil)
      (pss_cons (ps_if (PW.pt (pw_or (pt_cmpR (FoL.op_ownO (ok_FeqR T) (hr.mono (by decide)) T.b_Formula_eq pass0 T.cmF_eq T.noRF (fun _ _ => rfl)) (pv 8) (pe_make T.mk_R (ok_initQ T) (hr.mono (by decide)) (by rfl) T.c_Ratio bd vd pass0 (pa_cons pe_int pa_nil)) (nomark _)) (pw_or (pt_cmpR (FoL.op_ownO (ok_ReqF T) (hr.mono (by decide)) T.b_Ratio_eq pass0 T.cm_eq T.noFR (fun _ _ => rfl)) (pe_make T.mk_R (ok_initQ T) (hr.mono (by decide)) (by rfl) T.c_Ratio bd vd pass0 (pa_cons pe_int pa_nil)) (pv 8) (nomark _)) (pw_or1 (pt_cmpR (FoL.op_ownO (ok_FeqR T) (hr.mono (by decide)) T.b_Formula_eq pass0 T.cmF_eq T.noRF (fun _ _ => rfl)) (pe_make T.mk_F (ok_Finit T) (hr.mono (by decide)) (by rfl) T.c_Formula T.b_Formula_init .nil pass0 (pa_cons (pe_disp (pps_cons pe_str pe_int pps_nil) rfl rfl (by simp) (by decide)) pa_nil)) (pe_make T.mk_R (ok_initQ T) (hr.mono (by decide)) (by rfl) T.c_Ratio bd vd pass0 (pa_cons pe_int pa_nil)) (nomark _)))))) (pss_one (ps_ret pe_bl)) pss_nil)
      (pss_cons (ps_expr (pe_dclear (pe_meth0 (pv 8) T.cl_F T.mF_terms (ok_Fterms T) (hr.mono (by decide)) T.b_Formula_terms .nil pass0)))
      (pss_cons (ps_if (PW.pt (pw_or (pt_not (pt_val (pe_call (ok_isL T) (hr.mono (by decide)) (by rfl) T.g_is T.F_is.kp T.b_is .nil pass0 (pa_cons (pe_op (FoA.op_own (ok_Fadd T) (hr.mono (by decide)) T.b_Formula_add pass0 T.biF_add FoN.int_add FoN.int_addR) (pv 8) (pv 9)) (pa_cons (pe_call (ok_formL T) (hr.mono (by decide)) (by rfl) T.g_form T.F_form.kp T.b_form .nil pass0 (pa_cons (pe_op op_cat (pv 2) (pv 3)) pa_nil)) pa_nil))))) (pw_or1 (pt_not (pt_val (pe_call (ok_isL T) (hr.mono (by decide)) (by rfl) T.g_is T.F_is.kp T.b_is .nil pass0 (pa_cons (pe_un (FoA.un_own (ok_Fneg T) (hr.mono (by decide)) T.b_Formula_neg pass0 T.mF_neg.at_ T.mF_neg.fn) (pv 8)) (pa_cons (pe_call (ok_formL T) (hr.mono (by decide)) (by rfl) T.g_form T.F_form.kp T.b_form .nil pass0 (pa_cons (pe_call (ok_lessL T) (hr.mono (by decide)) (by rfl) T.g_less_all T.F_less_all.kp T.b_less_all .nil pass0 (pa_cons (pv 2) pa_nil)) pa_nil)) pa_nil)))))))) (pss_one (ps_ret pe_bl)) pss_nil)
      (pss_cons (ps_if (pt_not (pt_val (pe_call (ok_isL T) (hr.mono (by decide)) (by rfl) T.g_is T.F_is.kp T.b_is .nil pass0 (pa_cons (pe_op (FoA.op_own (ok_Fsub T) (hr.mono (by decide)) T.b_Formula_sub pass0 T.biF_sub FoN.int_sub FoN.int_subR) (pv 8) (pv 9)) (pa_cons (pe_call (ok_formL T) (hr.mono (by decide)) (by rfl) T.g_form T.F_form.kp T.b_form .nil pass0 (pa_cons (pe_op op_cat (pv 2) (pe_call (ok_lessL T) (hr.mono (by decide)) (by rfl) T.g_less_all T.F_less_all.kp T.b_less_all .nil pass0 (pa_cons (pv 3) pa_nil))) pa_nil)) pa_nil))))) (pss_one (ps_ret pe_bl)) pss_nil)
      (pss_cons (ps_if (pt_not (pt_val (pe_call (ok_isL T) (hr.mono (by decide)) (by rfl) T.g_is T.F_is.kp T.b_is .nil pass0 (pa_cons (pe_op (FoA.op_own (ok_Fmul T) (hr.mono (by decide)) T.b_Formula_mul pass0 T.biF_mul FoN.int_mul FoN.int_mulR) (pv 8) (pv 9)) (pa_cons (pe_call (ok_formL T) (hr.mono (by decide)) (by rfl) T.g_form T.F_form.kp T.b_form .nil pass0 (pa_cons (pe_call (ok_multL T) (hr.mono (by decide)) (by rfl) T.g_multiplied T.F_multiplied.kp T.b_multiplied .nil pass0 (pa_cons (pv 2) (pa_cons (pv 3) pa_nil))) pa_nil)) pa_nil))))) (pss_one (ps_ret pe_bl)) pss_nil)
      (pss_cons (ps_if (pt_not (pt_val (pe_call (ok_alone T) (hr.mono (by decide)) (by rfl) T.g_alone T.F_alone.kp T.b_alone .nil pass0 (pa_cons (pv 1) (pa_cons (pv 8) (pa_cons (pv 2) pa_nil)))))) (pss_one (ps_ret pe_bl)) pss_nil)
      (pss_cons (ps_set (i := 12) sc_law.nd rfl (.inl rfl) (pe_ix ix_list (pe_lst (pa_cons pe_str (pa_cons pe_str (pa_cons pe_str (pa_cons pe_non (pa_cons pe_int (pa_cons (pe_tup (pa_cons pe_str pa_nil)) (pa_cons pe_bl pa_nil)))))))) (pe_call (ok_take T) (hr.mono (by decide)) (by rfl) T.g_take T.F_take.kp T.b_take .nil pass0 (pa_cons (pv 1) (pa_cons pe_int pa_nil))) (fun _ _ => rfl)))
      (pss_cons (ps_set (i := 13) sc_law.nd rfl (.inl rfl) (pe_ix ix_list (pe_lst (pa_cons pe_non (pa_cons pe_bl (pa_cons pe_str (pa_cons (pe_lst (pa_cons pe_int pa_nil)) pa_nil))))) (pe_call (ok_take T) (hr.mono (by decide)) (by rfl) T.g_take T.F_take.kp T.b_take .nil pass0 (pa_cons (pv 1) (pa_cons pe_int pa_nil))) (fun _ _ => rfl)))
      (pss_cons (ps_if (pt_cmpR (op_neD hr.units) (pe_call (ok_refusedL T) (hr.mono (by decide)) (by rfl) T.g_refused T.F_refused.kp T.b_refused .nil pass0 (pa_cons (FoY.pe_or (pe_disp (pps_cons pe_str pe_int (pps_cons pe_str (pv 13) (pps_cons (pv 12) (pv 13) pps_nil))) rfl rfl (by simp) (by decide)) (FoOd.pe_odd (by exact Nat.lt_of_le_of_lt (Nat.add_le_add_left (by decide) _) hr.units) (pps_cons pe_str pe_int (pps_cons pe_str (pv 13) (pps_cons (pv 12) (pv 13) pps_nil))) rfl rfl (by simp) (by decide))) pa_nil)) (pe_lst (pa_cons pe_str (pa_cons (pv 12) pa_nil))) (nomark _)) (pss_one (ps_ret pe_bl)) pss_nil)
      (pss_one (ps_ret (pe_and (pe_cmpR (op_eqD hr.units) (pe_call (ok_refusedL T) (hr.mono (by decide)) (by rfl) T.g_refused T.F_refused.kp T.b_refused .nil pass0 (pa_cons (pe_disp (pps_cons pe_str (pv 13) (pps_cons pe_str pe_non pps_nil)) rfl rfl (by simp) (by decide)) pa_nil)) (pe_lst (pa_cons pe_str (pa_cons (pv 13) pa_nil))) (nomark _)) (pe_one (pe_call (ok_isL T) (hr.mono (by decide)) (by rfl) T.g_is T.F_is.kp T.b_is .nil pass0 (pa_cons (pv 8) (pa_cons (pv 10) pa_nil)))))))))))))))))))))))))))))), ?_⟩
    refine ⟨_, rfl, a, ns, 0, rfl, hS, by decide, fun b H1 npb s1 hB => ?_⟩
    refine ⟨_, rfl, b, 8, _, rfl, hB, by decide, by decide, fun l H2 ps nl lb hL nd le l8 ov hB2 b2 => ?_⟩
    have hd : Drw ps := ⟨nd, le, l8, ov⟩
    refine ⟨_, rfl, b, 5, _, rfl, hB2, by decide, by decide, fun m0 H3 qs0 nm0 mb0 hM0 nd0 le0 l80 ov0 hB3 b3 => ?_⟩
    have hd0 : Drw qs0 := ⟨nd0, le0, by omega, ov0⟩
    have hL3 := hL.cong hB2 b3 lb
    refine ⟨_, rfl, b, 4, _, rfl, hB3, by decide, by decide, sz1000, fun g H4 g0 g1 hB4 b4 => ?_⟩
    have hL4 := hL3.cong hB3 b4 lb
    have hM4 := hM0.cong hB3 b4 mb0
    refine gn_k ?_
    dsimp only
    refine gen_st (st := tIfS _ _ _) (fun τ G => ∃ m qs, τ = [some (.ref a), some (.ref b), some (.ref l), some (.ref m), some (.int g), none, none, none, none, none, none, none, none, none] ∧ LP G m qs ∧ m ≠ b ∧ Drw qs ∧ LP G l ps ∧ BoxAt G b 201) (fun D' hn => ?_) ?_
    · refine ⟨_, rfl, rfl, _, rfl, ite2 (fun e => ?_) (fun e => ?_)⟩
      · refine ⟨_, rfl, l, ps, rfl, hL4, by omega, fun p hp => Nat.le_trans (le p hp) (by decide), fun m H5 nm s5 hM => ?_⟩
        exact hn _ _ ⟨m, turn ps, rfl, hM, hB4.ne nm, hd.turn, hL4.same s5, hB4.same s5⟩
      · exact hn _ _ ⟨m0, qs0, rfl, hM4, mb0, hd0, hL4, hB4⟩
    rintro _ H5 ⟨m1, qs1, rfl, hM5, mb1, hd1, hL5, hB5⟩
    clear hM4 hL4 hB4 hM0 hL3 hB3 hB2 hL hB b2 b3 b4 nl nm0
    refine gen_st (st := tIfS _ _ _) (fun τ G => ∃ m qs, τ = [some (.ref a), some (.ref b), some (.ref l), some (.ref m), some (.int g), none, none, none, none, none, none, none, none, none] ∧ LP G m qs ∧ m ≠ b ∧ Drw qs ∧ LP G l ps ∧ BoxAt G b 201) (fun D' hn => ?_) ?_
    · refine ⟨_, rfl, rfl, _, rfl, ite2 (fun e => ?_) (fun e => ?_)⟩
      · refine ⟨_, rfl, l, ps, rfl, hL5, by omega, hd.gr.1, fun q1 H6 nq1 s6 hQ => ?_⟩
        obtain ⟨vs, hq1, hP⟩ := id hQ
        have lv := Paired.length hP
        have ls : (scl (-1) ps).length = ps.length := List.length_map _
        refine ⟨q1, rfl, ⟨_, SqL.of hq1⟩, fun D nD => ?_⟩
        refine lc_list (fun i H' => Same H6 H' ∧ ∃ vs, H' D = some (.lst vs) ∧ Paired (PrAt H') vs (dbl ((scl (-1) ps).take i))) ⟨Same.upd nD, [], upd_same, by rw [List.take_zero]; exact .nil⟩ (fun i H' _ h => SqL.of (h.1 _ _ hq1)) (fun i x H7 ex h => ?_) (fun H7 h => ?_)
        · obtain ⟨s7, vs7, e7, hW⟩ := h
          obtain ⟨p, ep, tq, r, rfl, hq, hr2⟩ := paired_get hP ex
          have lp := hd.opp.le _ (List.mem_of_getElem? ep)
          have hi := (List.getElem?_eq_some_iff.mp ep).1
          have dt : dbl ((scl (-1) ps).take (i + 1)) = dbl ((scl (-1) ps).take i) ++ (if p.1.length < 6 then [(p.1 ++ p.1.drop (p.1.length - 1), p.2)] else []) := by
            unfold dbl
            rw [List.take_add_one, ep, List.filter_append, List.map_append]
            congr 1
            by_cases c : p.1.length < 6
            · rw [if_pos c]
              show List.map _ (List.filter _ [p]) = _
              rw [List.filter_cons, if_pos (decide_eq_true c)]
              rfl
            · rw [if_neg c]
              show List.map _ (List.filter _ [p]) = _
              rw [List.filter_cons, if_neg (by simpa using c)]
              rfl
          refine ⟨tq, _, rfl, SqT.of (s7 _ _ hq), rfl, _, _, rfl, _, _, rfl, rfl, rfl, ?_⟩
          refine ⟨_, rfl, tx p.1, rfl, by rw [tx_len, sizeLine_eq]; omega, ?_⟩
          rw [tx_len]
          refine ⟨_, _, rfl, rfl, _, rfl, ?_⟩
          by_cases c : p.1.length < 6
          · rw [decide_eq_true (show (p.1.length : Int) < 6 by omega)]
            refine iteT ?_
            refine ⟨_, rfl, _, rfl, 1, rfl, _, rfl, tx p.1, rfl, by rw [tx_len, sizeLine_eq]; omega, _, _, rfl, rfl, ?_, ?_⟩
            · have := cutS_length (tx p.1) (some (-1)) none
              rw [tx_len] at this ⊢
              rw [sizeLine_eq]
              omega
            rw [tx_last]
            refine ⟨_, rfl, (by show 2 ≤ sizeLine; rw [sizeLine_eq]; decide), fun t nt => ?_⟩
            have st := Same.upd nt (o := .tup [.str (tx (p.1 ++ p.1.drop (p.1.length - 1))), .ref r])
            have ht : upd H7 t (.tup [.str (tx (p.1 ++ p.1.drop (p.1.length - 1))), .ref r]) t = some (.tup [.str (tx (p.1 ++ p.1.drop (p.1.length - 1))), .ref r]) := upd_same
            have hr3 := st _ _ (s7 _ _ hr2)
            generalize upd H7 t (.tup [.str (tx (p.1 ++ p.1.drop (p.1.length - 1))), .ref r]) = H8 at *
            have e8 := st _ _ e7
            refine ⟨vs7, e8, ?_, fun b o e => ?_, _, upd_same, ?_⟩
            · have := Paired.length hW
              have z : (dbl ((scl (-1) ps).take i)).length ≤ i := by
                unfold dbl
                rw [List.length_map]
                exact Nat.le_trans (List.length_filter_le _ _) (by rw [List.length_take]; omega)
              rw [sizeLine_eq]
              omega
            · rw [upd_ne (ne_of_none e nD)]
              exact st _ _ (s7 _ _ e)
            · rw [dt, if_pos c]
              exact Paired.snoc (Paired.mapP hW fun v p q => (q.nld (same_nld st)).nld (nld_upd e8 id)) ⟨t, r, rfl, nld_upd e8 id _ _ ht trivial, nld_upd e8 id _ _ hr3 trivial⟩
          · rw [decide_eq_false (show ¬ (p.1.length : Int) < 6 by omega)]
            refine iteF ⟨s7, vs7, e7, ?_⟩
            rw [dt, if_neg c, List.append_nil]
            exact hW
        · obtain ⟨s7, vs7, e7, hW⟩ := h
          rw [lv, List.take_length] at hW
          have s67 := s6.trans s7
          exact hn _ _ ⟨D, dbl (scl (-1) ps), rfl, ⟨_, e7, hW⟩, (hB5.same s6).ne nD, hd.opp.dbl, hL5.same s67, hB5.same s67⟩
      · exact hn _ _ ⟨m1, qs1, rfl, hM5, mb1, hd1, hL5, hB5⟩
    rintro _ H6 ⟨m, qs, rfl, hM6, mb, hq, hL6, hB6⟩
    clear hM5 hL5 hB5 hd1 hd0 mb1 mb0
    -- the dict that is handed in
    refine fun p np => ?_
    have s7 := Same.upd np (o := .dK [])
    have p7 : upd H6 p (.dK []) p = some (.dK []) := upd_same
    have hB7 := hB6.same s7
    have hL7 := hL6.same s7
    have hM7 := hM6.same s7
    have pb : p ≠ b := hB6.ne np
    generalize upd H6 p (.dK []) = H7 at *
    clear hL6 hM6 hB6 s7 np
    obtain ⟨vs, hl7, hP7⟩ := id hL7
    have lv := Paired.length hP7
    refine ⟨_, rfl, l, rfl, ⟨_, SqL.of hl7⟩, ?_⟩
    have keep : ∀ {G : Hp}, (∀ c o, H7 c = some o → c ≠ b → c ≠ p → G c = some o) → NLD H7 G := fun {G} k c o e fi => by
      refine k c o e (fun z => ?_) (fun z => ?_)
      · obtain ⟨_, _, _, eb, _⟩ := hB7
        rw [z, eb] at e
        cases e
        exact fi
      · rw [z, p7] at e
        cases e
        exact fi
    have lp : l ≠ p := fun z => by rw [z, p7] at hl7; cases hl7
    refine for_list (xs := vs) (fun i σ G => ∃ kt o5 o6, σ = [some (.ref a), some (.ref b), some (.ref l), some (.ref m), some (.int g), o5, o6, some (.ref p), none, none, none, none, none, none] ∧ G p = some (.dK kt) ∧ DL (Rn K) G kt (ps.take i) ∧ BoxAt G b (201 + i) ∧ ∀ c o, H7 c = some o → c ≠ b → c ≠ p → G c = some o)
      ⟨[], none, none, rfl, p7, by rw [List.take_zero]; exact .nil, hB7, fun c o e _ _ => e⟩ (fun i σ G _ ⟨_, _, _, _, _, _, _, h⟩ => SqL.of (h _ _ hl7 lb lp)) ?_ ?_
    · rintro i v σ G ev ⟨kt, o5, o6, rfl, hp, hD, hB, hk⟩
      obtain ⟨⟨qw, qx⟩, eq, tq, r, rfl, hq0, hr0⟩ := paired_get hP7 ev
      dsimp only at hq0 hr0
      have mq := List.mem_of_getElem? eq
      have hi := (List.getElem?_eq_some_iff.mp eq).1
      have nG := keep hk
      have hq1 := nG _ _ hq0 trivial
      have hr1 : FrQ G r qx := nG _ _ hr0 trivial
      refine ⟨tq, _, rfl, SqT.of hq1, rfl, _, _, rfl, _, _, rfl, rfl, ?_⟩
      refine ⟨_, rfl, _, rfl, r, b, qx, _, rfl, hr1, Ov.sz40 (ov _ mq), hB, by omega, fun v G2 hv hB2 b2 => ?_⟩
      have hp2 := b2 _ _ hp pb
      have hD2 := hD.nld rn_solidD (b2.nld hB)
      have fresh : qw ∉ FoWd.keys (ps.take i) := take_fresh nd eq
      have nk : valV kt (.inr (tx qw)) = none := by
        rcases hD2.look (w := qw) with ⟨_, z⟩ | ⟨x, v, l1, _⟩
        · exact z
        · rw [look_none fresh] at l1; cases l1
      refine ⟨_, rfl, _, rfl, p, _, rfl, .inl ⟨kt, .inr (tx qw), hp2, rfl, ?_, rfl⟩, _, _, _, rfl, upd_same, ?_, ?_, fun c o e n1 n2 => ?_⟩
      · have z := hD.len
        rw [List.length_take] at z
        rw [sizeLine_eq]
        omega
      · rw [putK_new _ nk, List.take_add_one, eq]
        exact DL.snoc (hD2.nld rn_solidD (nld_upd hp2 id)) (rn_solidD _ (nld_upd hp2 id) hv)
      · obtain ⟨x, k, sd, e, w⟩ := hB2.mono (m := 201 + (i + 1)) (by omega)
        exact ⟨x, k, sd, by rw [upd_ne (Ne.symm pb)]; exact e, w⟩
      · rw [upd_ne n2]
        exact b2 _ _ (hk c o e n1 n2) n1
    rintro σ G ⟨kt, o5, o6, rfl, hp, hD, hB, hk⟩
    rw [lv, List.take_length] at hD
    have nG := keep hk
    have LPn : ∀ {c : Addr} {fs : Ps}, LP H7 c fs → c ≠ b → LP G c fs := fun {c fs} h n => by
      obtain ⟨us, e, hu⟩ := h
      exact ⟨us, hk _ _ e n (fun z => by rw [z, p7] at e; cases e), Paired.mapP hu fun v p q => q.nld nG⟩
    have hLG := LPn hL7 lb
    have hMG := LPn hM7 mb
    have hBG := hB.mono (m := 300) (by omega)
    clear LPn keep hL7 hM7 hB7 hB hl7 hP7 nG hk
    have g0 := hd.gr
    have gq := hq.gr
    refine ⟨_, rfl, fm_make hp hD nd le (by decide) (by omega) g0 fun c1 G1 nc1 s1 hF1 => ⟨rfl, ?_⟩⟩
    -- 77
    have hp1 := s1 _ _ hp
    have lk := hD.len
    refine ⟨_, rfl, p, _, rfl, .inl ⟨kt, .inr "p", hp1, rfl, by rw [sizeLine_eq]; omega, rfl⟩, ?_⟩
    have f2 : FmAt K (upd G1 p (.dK (putK kt (.inr "p") (.int 77)))) c1 (form 6 ps) := hF1.off hp hp1
    have nL : ∀ {c : Addr} {fs : Ps}, LP G c fs → LP (upd G1 p (.dK (putK kt (.inr "p") (.int 77)))) c fs := fun {c fs} h => by
      obtain ⟨us, e, hu⟩ := h.same s1
      refine ⟨us, ?_, Paired.mapP hu fun v p q => q.nld (nld_upd hp1 id)⟩
      rw [upd_ne (fun z => by rw [z, hp1] at e; cases e)]
      exact e
    have hL2 := nL hLG
    have hM2 := nL hMG
    have hB2 : BoxAt (upd G1 p (.dK (putK kt (.inr "p") (.int 77)))) b 300 := by
      obtain ⟨x, k, sd, e, w⟩ := hBG.same s1
      exact ⟨x, k, sd, by rw [upd_ne (Ne.symm pb)]; exact e, w⟩
    generalize upd G1 p (.dK (putK kt (.inr "p") (.int 77))) = G2 at *
    clear nL hLG hMG hBG hF1 hp hD hp1 s1 nc1 lk
    refine ⟨_, rfl, m, qs, 6, rfl, hM2, hq.nd, hq.le, by decide, by have := hq.l8; omega, gq, fun c2 G3 nc2 s3 hF2 => ?_⟩
    have tw := FmTwo.of f2 s3 hF2
    refine ⟨_, rfl, l, ps, 6, rfl, hL2.same s3, le, by decide, by omega, g0, fun p1 G4 kp np1 s4 hp1 hD1 => ?_⟩
    refine ⟨_, rfl, m, qs, 6, rfl, (hM2.same s3).same s4, hq.le, by decide, by have := hq.l8; omega, gq, fun p2 G5 kr np2 s5 hp2 hD2 => ?_⟩
    have M : Lw K G5 b c1 c2 l m p1 p2 kp kr ps qs 300 := ⟨((hB2.same s3).same s4).same s5, (tw.same s4).same s5, ((hL2.same s3).same s4).same s5, ((hM2.same s3).same s4).same s5, s5 _ _ hp1, hD1.nld rq_solidD (same_nld s5), hp2, hD2, lb, mb⟩
    clear tw hL2 hM2 hB2 hF2 hp1 hp2 hD1 hD2 s3 s4 s5 nc2 np1 np2 f2
    dsimp only [tNext]
    have nP := form_nodup 6 ps
    have nQ := form_nodup 6 qs
    have f13 := fl13 ps
    have q13 := fl13 qs
    -- both are right
    refine ⟨_, rfl, _, rfl, c1, p1, kp, _, rfl, M.two.one, M.hp, M.pd, nP, by omega, fun G6 s6 => ⟨_, rfl, iteF ?_⟩⟩
    have M := M.same s6
    refine ⟨_, rfl, _, rfl, c2, p2, kr, _, rfl, M.two.swap.one, M.hr, M.rd, nQ, by omega, fun G7 s7 => ⟨_, rfl, iteF ?_⟩⟩
    have M := M.same s7
    obtain ⟨dx, d, kd, i1, i2, i3⟩ := M.two.one
    obtain ⟨dy, u, ku, j1, j2, j3⟩ := M.two.swap.one
    refine ⟨_, rfl, _, rfl, c1, dx, _, rfl, i1, FoA.OthV.ins j1, c1, c2, ps, qs, 6, rfl, M.two.one, M.two.swap.one, ?_⟩
    refine ⟨_, rfl, _, rfl, eq_forms (hr.mono (by decide)) M.hp M.hr M.pd M.rd ?_⟩
    refine bl_ne rfl ⟨_, rfl, iteF ?_⟩
    -- a Ratio
    refine ⟨_, rfl, rq_make (by decide) sz1q (FoQ.q_int 1) fun r1 G8 n8 s8 hr1 => ⟨rfl, ?_⟩⟩
    have M := M.same s8
    have i1 := s8 _ _ i1
    obtain ⟨d1, hr1'⟩ := id hr1
    refine ⟨c1, dx, _, r1, d1, _, rfl, i1, rfl, hr1', c1, r1, _, _, rfl, M.two.one, hr1, _, rfl, iteF ?_⟩
    refine rq_make (by decide) sz1q (FoQ.q_int 1) fun r2 G9 n9 s9 hr2 => ⟨rfl, ?_⟩
    have M := M.same s9
    have i1 := s9 _ _ i1
    obtain ⟨d2, hr2'⟩ := id hr2
    refine ⟨_, rfl, r2, d2, _, c1, dx, _, rfl, hr2', rfl, i1, c1, r2, _, _, rfl, M.two.one, hr2, _, rfl, iteF ?_⟩
    refine fun p3 np3 => ⟨upd_same, [(.inr (tx []), .int 1)], rfl, by decide, ?_⟩
    have g1 : upd (upd G9 p3 (.dK [])) p3 (.dK (mergeK [] [(.inr (tx []), .int 1)])) p3 = some (.dK [(.inr (tx []), .int 1)]) := by
      rw [upd_same]
      rfl
    have s10 : Same G9 (upd (upd G9 p3 (.dK [])) p3 (.dK (mergeK [] [(.inr (tx []), .int 1)]))) := by
      rw [upd_upd]
      exact Same.upd np3
    have M := M.same s10
    have i1 := s10 _ _ i1
    generalize upd (upd G9 p3 (.dK [])) p3 (.dK (mergeK [] [(.inr (tx []), .int 1)])) = G10 at *
    refine fm_make (ps := one) (N := 6) g1 (.cons ⟨rfl, .inr ⟨1, rfl, rfl⟩⟩ .nil) (by simp [one, FoWd.keys]) (fun p hp => by rw [List.mem_singleton.mp hp]; exact Nat.zero_le _) (by decide) (by show 1 ≤ 200; decide) one_grow fun c3 G11 n11 s11 h11 => ⟨rfl, ?_⟩
    have M := M.same s11
    have i1 := s11 _ _ i1
    have h11 := h11.at
    obtain ⟨d3, u3, k3, l1, l2, l3⟩ := id h11
    refine rq_make (by decide) sz1q (FoQ.q_int 1) fun r4 G12 n12 s12 hr4 => ⟨rfl, ?_⟩
    have M := M.same s12
    have i1 := s12 _ _ i1
    obtain ⟨d4, hr4'⟩ := id hr4
    refine ⟨c3, d3, _, r4, d4, _, rfl, s12 _ _ l1, rfl, hr4', c3, r4, _, _, rfl, h11.same s12, hr4, _, rfl, iteF ?_⟩
    dsimp only [tNext]
    clear s8 s9 s10 s11 s12 hr1 hr1' hr2 hr2' hr4 hr4' h11 l1 l2 l3 g1 n8 n9 n11 n12 np3
    -- terms are told anew
    refine ⟨_, rfl, c1, dx, _, rfl, i1, rfl, c1, _, rfl, M.two.one, fun p5 G13 k5 np5 s13 hp5 _ => ?_⟩
    refine ⟨.inr (.inr (.inl ⟨rfl, .inl ⟨_, hp5⟩⟩)), p5, k5, rfl, rfl, hp5, ?_⟩
    have s14 := same_off (o := .dK []) s13 np5
    have M := M.same s14
    have i1 := s14 _ _ i1
    generalize upd G13 p5 (.dK []) = G14 at *
    clear s13 s14 hp5 np5
    -- the sum
    have fp := hd.form
    have fq := hq.form
    have zq : ∀ p ∈ form 6 qs, FoQ.SzR 1900 p.2 := fun p hp => (fq p hp).sz1 (by decide) (by decide) (by decide)
    have zp : ∀ p ∈ form 6 ps, FoQ.SzR 1900 p.2 := fun p hp => (fp p hp).sz1 (by decide) (by decide) (by decide)
    have lP : Le 6 (form 6 ps) := form_le 6 ps
    have lQ : Le 6 (form 6 qs) := form_le 6 qs
    have q8 := hq.l8
    obtain ⟨dy, u, ku, j1, j2, j3⟩ := M.two.swap.one
    refine ⟨_, rfl, _, rfl, c1, dx, _, rfl, i1, .inr ⟨c2, dy, _, rfl, j1⟩, c1, c2, _, _, 6, rfl, M.two.one, M.two.swap.one, nP, lP, lQ, by decide, by omega, growT_of fp fq (by decide) (by decide) (by decide) (by decide) (by omega), growA_of nP fp fq (by decide) (by decide) (by decide) (by decide) (by omega) (by omega), fun r1 K1 nr1 t1 h1 => ?_⟩
    rw [form_add le hq.le] at h1
    have M := M.same t1
    obtain ⟨xs, zs, e1, e2, l1, l2, cc⟩ := LP.cat M.f1 M.f2
    refine ⟨_, rfl, _, rfl, l, m, xs, zs, rfl, rfl, e1, e2, by rw [sizeLine_eq]; omega, fun w1 nw1 => ?_⟩
    have t2 := Same.upd nw1 (o := .lst (xs ++ zs))
    have hc := cc w1 nw1
    generalize upd K1 w1 (.lst (xs ++ zs)) = K2 at *
    have M := M.same t2
    have oc : AllOv 2520 22680 (ps ++ qs) := ov.app hq.ov
    have lc : Le 6 (ps ++ qs) := fun p hp => (List.mem_append.mp hp).elim (le p) (hq.le p)
    have lc16 : (ps ++ qs).length ≤ 16 := by rw [List.length_append]; omega
    refine ⟨w1, ps ++ qs, 6, rfl, hc, lc, by decide, by omega, grow_of oc (by decide) (by decide) (by decide) (by omega), fun w2 K3 kw nw2 t3 hw2 hDw => ?_⟩
    have M := M.same t3
    refine ⟨r1, w2, kw, _, rfl, (h1.at.same t2).same t3, hw2, hDw, form_nodup _ _, by have := fl13 (ps ++ qs); omega, fun K4 t4 => ⟨_, rfl, iteF ?_⟩⟩
    have M := M.same t4
    clear t1 t2 t3 t4 h1 hc hw2 hDw cc e1 e2 nr1 nw1 nw2
    -- the opposites
    obtain ⟨dx, d, kd, i1, i2, i3⟩ := M.two.one
    have lsp : (scl (-1) ps).length = ps.length := List.length_map _
    have lsf : (scl (-1) (form 6 ps)).length = (form 6 ps).length := List.length_map _
    have lsg : (scl (-1) (form 6 qs)).length = (form 6 qs).length := List.length_map _
    have lsq : (scl (-1) qs).length = qs.length := List.length_map _
    refine ⟨_, rfl, c1, dx, _, rfl, i1, c1, _, 6, rfl, M.two.one, nP, lP, by decide, by omega, zp, grow_of fp.opp (by decide) (by decide) (by decide) (by omega), fun r1 K1 nr1 t1 h1 => ?_⟩
    rw [form_scl le] at h1
    have M := M.same t1
    refine ⟨_, rfl, l, ps, rfl, M.f1, by omega, g0.1, fun w1 K2 nw1 t2 hw1 => ?_⟩
    have M := M.same t2
    refine ⟨w1, scl (-1) ps, 6, rfl, hw1, le_scl le, by decide, by omega, hd.opp.gr, fun w2 K3 kw nw2 t3 hw2 hDw => ?_⟩
    have M := M.same t3
    refine ⟨r1, w2, kw, _, rfl, (h1.at.same t2).same t3, hw2, hDw, form_nodup _ _, by have := fl13 (scl (-1) ps); omega, fun K4 t4 => ⟨_, rfl, iteF ?_⟩⟩
    have M := M.same t4
    clear t1 t2 t3 t4 h1 hw1 hw2 hDw nr1 nw1 nw2 i1 i2 i3
    dsimp only [tNext]
    -- the difference
    obtain ⟨dx, d, kd, i1, i2, i3⟩ := M.two.one
    obtain ⟨dy, u, ku, j1, j2, j3⟩ := M.two.swap.one
    have fs : AllOv 2520 181440 (form 6 (scl (-1) (form 6 qs))) := by
      rw [form_scl hq.le]
      exact hq.ov.opp.form.mono (Nat.mul_le_mul (show (scl (-1) qs).length ≤ 8 by omega) (Nat.le_refl 22680))
    have s13 := fl13 (scl (-1) (form 6 qs))
    refine ⟨_, rfl, _, rfl, c1, dx, _, rfl, i1, .inr ⟨c2, dy, _, rfl, j1⟩, c1, c2, _, _, 6, rfl, M.two.one, M.two.swap.one, nP, nQ, lP, lQ, by decide, by omega, by omega, zq, grow_of fq.opp (by decide) (by decide) (by decide) (by omega), growT_of fp fs (by decide) (by decide) (by decide) (by decide) (by omega), growA_of nP fp fs (by decide) (by decide) (by decide) (by decide) (by omega) (by omega), fun r1 K1 nr1 t1 h1 => ?_⟩
    have e8 : form 6 (form 6 ps ++ scl (-1) (form 6 qs)) = form 6 (ps ++ scl (-1) qs) := form_ext fun w => by
      have e1 : coef (scl (-1) (form 6 qs)) w = -1 * coef (form 6 qs) w := lin_scl
      have e2 : coef (scl (-1) qs) w = -1 * coef qs w := lin_scl
      rw [coef_app, coef_app, e1, e2, coef_form hq.le, coef_form le]
    rw [e8] at h1
    have M := M.same t1
    refine ⟨_, rfl, _, rfl, m, qs, rfl, M.f2, by omega, gq.1, fun w0 K2 nw0 t2 hw0 => ?_⟩
    have M := M.same t2
    obtain ⟨xs, zs, e1, e2, l1, l2, cc⟩ := LP.cat M.f1 hw0
    refine ⟨l, w0, xs, zs, rfl, rfl, e1, e2, by rw [sizeLine_eq]; omega, fun w1 nw1 => ?_⟩
    have t3 := Same.upd nw1 (o := .lst (xs ++ zs))
    have hc := cc w1 nw1
    generalize upd K2 w1 (.lst (xs ++ zs)) = K3 at *
    have M := M.same t3
    have oc : AllOv 2520 22680 (ps ++ scl (-1) qs) := ov.app hq.ov.opp
    have lc : Le 6 (ps ++ scl (-1) qs) := fun p hp => (List.mem_append.mp hp).elim (le p) (le_scl hq.le p)
    have lc16 : (ps ++ scl (-1) qs).length ≤ 16 := by rw [List.length_append]; omega
    refine ⟨w1, ps ++ scl (-1) qs, 6, rfl, hc, lc, by decide, by omega, grow_of oc (by decide) (by decide) (by decide) (by omega), fun w2 K4 kw nw2 t4 hw2 hDw => ?_⟩
    have M := M.same t4
    refine ⟨r1, w2, kw, _, rfl, ((h1.at.same t2).same t3).same t4, hw2, hDw, form_nodup _ _, by have := fl13 (ps ++ scl (-1) qs); omega, fun K5 t5 => ⟨_, rfl, iteF ?_⟩⟩
    have M := M.same t5
    clear t1 t2 t3 t4 t5 h1 hw0 hc hw2 hDw cc e1 e2 nr1 nw0 nw1 nw2 i1 i2 i3 j1 j2 j3 e8 oc lc lc16
    dsimp only [tNext]
    -- the product
    obtain ⟨dx, d, kd, i1, i2, i3⟩ := M.two.one
    obtain ⟨dy, u, ku, j1, j2, j3⟩ := M.two.swap.one
    have lM : (mul (form 6 ps) (form 6 qs)).length ≤ 169 := by
      rw [mul_len]
      exact Nat.le_trans (Nat.mul_le_mul f13 q13) (by decide)
    have oM : AllOv (2520 * 2520) (181440 * 181440) (mul (form 6 ps) (form 6 qs)) := AllOv.mul fp fq
    refine ⟨_, rfl, _, rfl, c1, dx, _, rfl, i1, .inr ⟨c2, dy, _, rfl, j1⟩, c1, c2, _, _, 6, 6, rfl, M.two, lP, lQ, by decide, by omega, by omega, by omega,
      fun p hp => ((fp p hp).sz (k := 60) (by decide) (by decide) (by decide)).mono (by decide), fun p hp => ((fq p hp).sz (k := 60) (by decide) (by decide) (by decide)).mono (by decide),
      (growT_of (t := []) (C := 0) (fun p hp => absurd hp (by simp)) oM (by decide) (by decide) (by decide) (by decide) (by omega)).2, growA_of (t := []) (C := 0) List.nodup_nil (fun p hp => absurd hp (by simp)) oM (by decide) (by decide) (by decide) (by decide) (by omega) (by decide), fun r1 K1 nr1 t1 h1 => ?_⟩
    rw [form_mul le hq.le] at h1
    have M := M.same t1
    have oM2 : AllOv (2520 * 2520) (22680 * 22680) (mul ps qs) := AllOv.mul ov hq.ov
    have lM2 : (mul ps qs).length ≤ 64 := by
      rw [mul_len]
      exact Nat.le_trans (Nat.mul_le_mul l8 q8) (by decide)
    have leM : Le (6 + 6) (mul ps qs) := fun p hp => by
      obtain ⟨x, hx, hp⟩ := List.mem_flatMap.mp hp
      obtain ⟨y, hy, rfl⟩ := List.mem_map.mp hp
      have w1 := le _ hx
      have w2 := hq.le _ hy
      show (x.1 ++ y.1).length ≤ _
      rw [List.length_append]
      omega
    have fM : (form (6 + 6) (mul ps qs)).length ≤ 25 := form_len _ _
    have lp60 : Le 60 ps := fun p hp => Nat.le_trans (le p hp) (by decide)
    have lq60 : Le 60 qs := fun p hp => Nat.le_trans (hq.le p hp) (by decide)
    refine ⟨_, rfl, _, rfl, l, m, ps, qs, rfl, M.f1, M.f2, by omega, by omega, ⟨g0.1, lp60⟩, ⟨gq.1, lq60⟩, fun w1 K2 nw1 t2 hw1 => ?_⟩
    have M := M.same t2
    refine ⟨w1, mul ps qs, 6 + 6, rfl, hw1, leM, by decide, by omega, grow_of oM2 (by decide) (by decide) (by decide) (by omega), fun w2 K3 kw nw2 t3 hw2 hDw => ?_⟩
    have M := M.same t3
    refine ⟨r1, w2, kw, _, rfl, (h1.at.same t2).same t3, hw2, hDw, form_nodup _ _, by omega, fun K4 t4 => ⟨_, rfl, iteF ?_⟩⟩
    have M := M.same t4
    clear t1 t2 t3 t4 h1 hw1 hw2 hDw nr1 nw1 nw2 i1 i2 i3 j1 j2 j3 oM2 oM lM lM2 leM fM
    dsimp only [tNext]
    -- alone
    refine ⟨_, rfl, _, rfl, _, rfl, b, c1, l, ps, 300, rfl, M.bx, by decide, M.two.one, M.f1, lb, hd, fun K5 b5 hB5 => ⟨_, rfl, iteF ?_⟩⟩
    have F5 := M.two.one.cong M.bx b5
    have p5 := b5 _ _ M.hp (fun z => by
      obtain ⟨x, k, sd, e, _⟩ := M.bx
      rw [← z, M.hp] at e
      cases e)
    have D5 := M.pd.nld rq_solidD (b5.nld M.bx)
    clear M b5
    dsimp only [gName, tNext]
    -- what is wrong
    refine ⟨(by show 1 ≤ sizeLine; rw [sizeLine_eq]; decide), fun tw ntw => ?_⟩
    have s6 := Same.upd ntw (o := .tup [.str "p"])
    have ht6 : upd K5 tw (.tup [.str "p"]) tw = some (.tup [.str "p"]) := upd_same
    generalize upd K5 tw (.tup [.str "p"]) = K6 at *
    refine ⟨(by show 7 ≤ sizeLine; rw [sizeLine_eq]; decide), fun tl ntl => ?_⟩
    have s7 := Same.upd ntl (o := .lst [V.str "x", V.str "pq ", V.str "P", V.non, V.int 1, V.ref tw, V.bl true])
    have hl7 : upd K6 tl (.lst [V.str "x", V.str "pq ", V.str "P", V.non, V.int 1, V.ref tw, V.bl true]) tl = some (.lst [V.str "x", V.str "pq ", V.str "P", V.non, V.int 1, V.ref tw, V.bl true]) := upd_same
    have tlb := (hB5.same s6).ne ntl
    have s67 := s6.trans s7
    have ht7 := s7 _ _ ht6
    generalize upd K6 tl (.lst [V.str "x", V.str "pq ", V.str "P", V.non, V.int 1, V.ref tw, V.bl true]) = K7 at *
    have hB7 := hB5.same s67
    refine ⟨_, rfl, b, 7, _, rfl, hB7, by decide, by decide, sz1000, fun gw K8 gw0 gw1 hB8 b8 => ?_⟩
    obtain ⟨kw, rfl⟩ := Int.eq_ofNat_of_zero_le gw0
    have n8 := b8.nld hB7
    obtain ⟨y, ey, hwy⟩ := wrong_at (n8 _ _ ht7 trivial) kw (by omega)
    refine ⟨tl, _, _, _, rfl, rfl, SqL.of (b8 _ _ hl7 tlb), atI_nat ey, ?_⟩
    have F8 := (F5.same s67).cong hB7 b8
    have p8 := b8 _ _ (s67 _ _ p5) (fun z => by
      obtain ⟨x, k, sd, e, _⟩ := hB7
      rw [← z, s67 _ _ p5] at e
      cases e)
    have D8 := (D5.nld rq_solidD (same_nld s67)).nld rq_solidD n8
    clear F5 p5 D5 hB5 s6 s7 s67 ht6 ht7 hl7 n8 b8 hB7
    -- what is odd
    refine ⟨(by show 1 ≤ sizeLine; rw [sizeLine_eq]; decide), fun to_ nto => ?_⟩
    have s6 := Same.upd nto (o := .lst [.int 1])
    have ht6 : upd K8 to_ (.lst [.int 1]) to_ = some (.lst [.int 1]) := upd_same
    have tob := hB8.ne nto
    generalize upd K8 to_ (.lst [.int 1]) = K9 at *
    refine ⟨(by show 4 ≤ sizeLine; rw [sizeLine_eq]; decide), fun tm ntm => ?_⟩
    have s7 := Same.upd ntm (o := .lst [V.non, V.bl true, V.str "1", V.ref to_])
    have hl7 : upd K9 tm (.lst [V.non, V.bl true, V.str "1", V.ref to_]) tm = some (.lst [V.non, V.bl true, V.str "1", V.ref to_]) := upd_same
    have tmb := (hB8.same s6).ne ntm
    have s67 := s6.trans s7
    have ht7 := s7 _ _ ht6
    generalize upd K9 tm (.lst [V.non, V.bl true, V.str "1", V.ref to_]) = K10 at *
    have hB9 := hB8.same s67
    refine ⟨_, rfl, b, 4, _, rfl, hB9, by decide, by decide, sz1000, fun gz K11 gz0 gz1 hB11 b11 => ?_⟩
    obtain ⟨kz, rfl⟩ := Int.eq_ofNat_of_zero_le gz0
    have n11 := b11.nld hB9
    obtain ⟨z, ez, hz⟩ := odd_at (b11 _ _ ht7 tob) kz (by omega)
    refine ⟨tm, _, _, _, rfl, rfl, SqL.of (b11 _ _ hl7 tmb), atI_nat ez, ?_⟩
    have F11 := (F8.same s67).cong hB9 b11
    have p11 := b11 _ _ (s67 _ _ p8) (fun z => by
      obtain ⟨x, k, sd, e, _⟩ := hB9
      rw [← z, s67 _ _ p8] at e
      cases e)
    have D11 := (D8.nld rq_solidD (same_nld s67)).nld rq_solidD n11
    have hw0 := (hwy.nld (same_nld s67)).nld n11
    clear F8 p8 D8 hB8 s6 s7 s67 ht6 ht7 hl7 n11 b11 hB9 hwy
    refine gn_k ?_
    dsimp only
    -- refused
    refine gen_st (st := tIfS _ _ _) (fun τ G => τ = [some (.ref a), some (.ref b), some (.ref l), some (.ref m), some (.int g), o5, o6, some (.ref p), some (.ref c1), some (.ref c2), some (.ref p1), some (.ref p2), some y, some z] ∧ Same K11 G) (fun D' hn => ?_) ?_
    · rcases hw0.key with hk | ⟨k, ek, k1, k2⟩
      · refine .inr fun p np => ?_
        have pz : tx [true] ≠ tx [false] := fun z => by have := tx_inj z; cases this
        refine ⟨_, rfl, _, rfl, _, rfl, upd_same, tx [true], tx [false], y, .int 1, z, z, rfl, pz, ?_, ?_⟩
        · rcases hk with h | h | ⟨q, xs, h1, h2⟩
          · exact .inl h
          · exact .inr (.inl h)
          · exact .inr (.inr ⟨q, xs, h1, by rw [upd_ne (ne_of_none h2 np)]; exact h2⟩)
        have s12 : Same K11 (upd (upd K11 p (.dK [])) p (FoOd.odd p [.str (tx [true]), .str (tx [false]), y])) := by
          rw [upd_upd]
          exact Same.upd np
        have e12 : upd (upd K11 p (.dK [])) p (FoOd.odd p [.str (tx [true]), .str (tx [false]), y]) p = some (FoOd.odd p [.str (tx [true]), .str (tx [false]), y]) := upd_same
        generalize upd (upd K11 p (.dK [])) p (FoOd.odd p [.str (tx [true]), .str (tx [false]), y]) = K12 at *
        have hw := hw0.nld (same_nld s12)
        refine ⟨p, y, "row", rfl, .inl ⟨.inr e12, hw.row, rfl⟩, fun t K13 b13 ht => ?_⟩
        have s13 : Same K11 K13 := fun c o e => b13 _ _ (s12 _ _ e) (ne_of_none e np)
        refine ⟨_, rfl, (by show 2 ≤ sizeLine; rw [sizeLine_eq]; decide), fun t2 nt2 => ?_⟩
        have s14 := Same.upd nt2 (o := .lst [.str "row", y])
        have ht2 : upd K13 t2 (.lst [.str "row", y]) t2 = some (.lst [.str "row", y]) := upd_same
        have s114 := s13.trans s14
        have ht := s14 _ _ ht
        generalize upd K13 t2 (.lst [.str "row", y]) = K14 at *
        obtain ⟨dd, hdd, shd⟩ := (hw0.nld (same_nld s114)).dp (K := K)
        refine ⟨_, _, .lst (SqL.of ht) (.cons (.str _) (.cons hdd .nil)), .lst (SqL.of ht2) (.cons (.str _) (.cons hdd .nil)), shd, shd, _, rfl, ?_⟩
        rw [SeqAt.eqv_refl _ (SeqAt.canLay_of_shaped shd)]
        refine iteF ?_
        exact hn _ _ ⟨rfl, s114⟩
      · refine .inl fun p np => ?_
        refine ⟨_, rfl, _, rfl, _, rfl, upd_same, [(.inr (tx [true]), .int 1), (.inr (tx [false]), z), (k, z)], by rw [← ek]; rfl, (by show 3 ≤ 15; decide), ?_⟩
        rw [merge3 k1 k2]
        have s12 : Same K11 (upd (upd K11 p (.dK [])) p (.dK [(.inr (tx [true]), .int 1), (.inr (tx [false]), z), (k, z)])) := by
          rw [upd_upd]
          exact Same.upd np
        have e12 : upd (upd K11 p (.dK [])) p (.dK [(.inr (tx [true]), .int 1), (.inr (tx [false]), z), (k, z)]) p = some (.dK [(.inr (tx [true]), .int 1), (.inr (tx [false]), z), (k, z)]) := upd_same
        generalize upd (upd K11 p (.dK [])) p (.dK [(.inr (tx [true]), .int 1), (.inr (tx [false]), z), (k, z)]) = K12 at *
        have hw := hw0.nld (same_nld s12)
        refine ⟨p, y, "row", rfl, .inl ⟨.inl ⟨.int 1, z, k, z, e12, ek⟩, hw.row, rfl⟩, fun t K13 b13 ht => ?_⟩
        have s13 : Same K11 K13 := fun c o e => b13 _ _ (s12 _ _ e) (ne_of_none e np)
        refine ⟨_, rfl, (by show 2 ≤ sizeLine; rw [sizeLine_eq]; decide), fun t2 nt2 => ?_⟩
        have s14 := Same.upd nt2 (o := .lst [.str "row", y])
        have ht2 : upd K13 t2 (.lst [.str "row", y]) t2 = some (.lst [.str "row", y]) := upd_same
        have s114 := s13.trans s14
        have ht := s14 _ _ ht
        generalize upd K13 t2 (.lst [.str "row", y]) = K14 at *
        obtain ⟨dd, hdd, shd⟩ := (hw0.nld (same_nld s114)).dp (K := K)
        refine ⟨_, _, .lst (SqL.of ht) (.cons (.str _) (.cons hdd .nil)), .lst (SqL.of ht2) (.cons (.str _) (.cons hdd .nil)), shd, shd, _, rfl, ?_⟩
        rw [SeqAt.eqv_refl _ (SeqAt.canLay_of_shaped shd)]
        refine iteF ?_
        exact hn _ _ ⟨rfl, s114⟩
    rintro _ K15 ⟨rfl, s15⟩
    have F15 := F11.same s15
    have p15 := s15 _ _ p11
    have D15 := D11.nld rq_solidD (same_nld s15)
    have hz15 := hz.same s15
    clear F11 p11 D11 s15 hw0 ey ez hB11 hz
    refine fun p np => ?_
    refine ⟨_, rfl, upd_same, [(.inr (tx [true]), z), (.inr (tx [false]), .non)], rfl, (by show 2 ≤ 15; decide), ?_⟩
    rw [merge2]
    have s12 : Same K15 (upd (upd K15 p (.dK [])) p (.dK [(.inr (tx [true]), z), (.inr (tx [false]), .non)])) := by
      rw [upd_upd]
      exact Same.upd np
    have e12 : upd (upd K15 p (.dK [])) p (.dK [(.inr (tx [true]), z), (.inr (tx [false]), .non)]) p = some (.dK [(.inr (tx [true]), z), (.inr (tx [false]), .non)]) := upd_same
    generalize upd (upd K15 p (.dK [])) p (.dK [(.inr (tx [true]), z), (.inr (tx [false]), .non)]) = K16 at *
    refine ⟨p, z, "number", rfl, .inr ⟨e12, (hz15.same s12).no, fun c e => ?_, rfl⟩, fun t K17 b17 ht => ?_⟩
    · rcases hz15 with h | h | h | ⟨t, h, h2⟩
      · rw [h] at e; cases e
      · rw [h] at e; cases e
      · rw [h] at e; cases e
      · rw [h] at e
        cases e
        exact ne_of_none h2 np
    have s17 : Same K15 K17 := fun c o e => b17 _ _ (s12 _ _ e) (ne_of_none e np)
    refine ⟨_, rfl, (by show 2 ≤ sizeLine; rw [sizeLine_eq]; decide), fun t2 nt2 => ?_⟩
    have s18 := Same.upd nt2 (o := .lst [.str "number", z])
    have ht2 : upd K17 t2 (.lst [.str "number", z]) t2 = some (.lst [.str "number", z]) := upd_same
    have s118 := s17.trans s18
    have ht := s18 _ _ ht
    generalize upd K17 t2 (.lst [.str "number", z]) = K18 at *
    obtain ⟨dd, hdd, shd⟩ := (hz15.same s118).dp (K := K)
    refine ⟨_, _, .lst (SqL.of ht) (.cons (.str _) (.cons hdd .nil)), .lst (SqL.of ht2) (.cons (.str _) (.cons hdd .nil)), shd, shd, _, rfl, ?_⟩
    rw [SeqAt.eqv_refl _ (SeqAt.canLay_of_shaped shd)]
    refine iteT ?_
    refine ⟨_, rfl, _, rfl, c1, p1, kp, _, rfl, F15.same s118, s118 _ _ p15, D15.nld rq_solidD (same_nld s118), nP, by omega, fun G sG => ?_⟩
    exact q G
end

end Fo

set_option maxHeartbeats 4100000
open PySem PySem.W PySem.Calls PyProof.Rows
set_option maxHeartbeats 0 in
theorem PySem.Challenge.cw_filterorders_k15_formulas_holds : PySem.Challenge.rw_filterorders_k15_formulas.Holds := by
  w_on; o_law
  refine FoI.head_imp (r := OpenLaw.row PySem.Challenge.rw_filterorders_k15_formulas) (q := view (OpenLaw.row PySem.Challenge.rw_filterorders_k15_formulas).prog [51]) (H := Fo.hk) (ob := Fo.ob) (M := 20000) (lse := Fo.loose) (d := HandSHeadRun.topDef (OpenLaw.row PySem.Challenge.rw_filterorders_k15_formulas).prog 51) (kwq := []) Fo.ob_eq
    Fo.run (by kernel_rfl) (by kernel_rfl) (by kernel_rfl) (by rfl) (by first | assumption | decide +kernel) (by decide +kernel) ⟨rfl, rfl, rfl, rfl, rfl, by decide +kernel⟩ ?hw ?hc
  case hw => w_witness2
  case hc =>
    refine L2.walk_ofE (l := PySem.Challenge.rw_filterorders_k15_formulas) (n := 63) (k := 18) (x := "_law_script") (CX := L2.CX0) rfl (by decide) (by kernel_rfl) ⟨rfl, by decide, by decide⟩ ?F (fun _ _ _ _ z => z)
    intro w mg fa h Y G hmg0
    obtain ⟨K, KX, c⟩ := Y
    have hmg : mg ("law" : PySem.Str) = some (.ref fa) := by
      have e : (HandSHeadRun.topDef (OpenLaw.row PySem.Challenge.rw_filterorders_k15_formulas).prog 51).name = ("law" : PySem.Str) := by kernel_rfl
      rw [← e]
      exact hmg0
    obtain ⟨T⟩ := Fo.facts KX G c
    have efa := hmg.symm.trans T.g_law
    cases efa
    exact ⟨K, T.fd_law, Fo.spLaw K, KX, fun s v => FoZ.bind1 T.F_law s v, fun H a ns hl _ hS => ⟨a, ns, rfl, hS, hl, fun _ => rfl⟩, fun base _ _ => Fo.ok_law T⟩

